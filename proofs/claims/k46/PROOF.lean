import PyProof.Rows.All
import Wide.All
import OpenK.AllK
import Wide.FinOn
import Lean
import PyProof.EqAt
import PyProof.EqKinds
import PyProof.TupleCall
import KE.KIntText
import PyProof.ListRange
import PyProof.Rows.StrMul
import PyProof.Rows.StrCountLaw
import PyProof.Rows.StrLen
import PyProof.ToksMono
import PyProof.Rows.StrJoinRep
import KE.KLam
import KE.KMinKey
import KE.KNestM
import PySem.Challenge.RW_rotafair_k46_whole_settled
set_option Elab.async false
set_option linter.all false
set_option maxRecDepth 100000
namespace L2
open PySem PySem.Spec PyProof.Rows
noncomputable abbrev Key:=Sum Int Str
noncomputable def J4f : Key → Value → Bool
 | .inl k,v=>Value.isInt k v
 | .inr x,v=>Value.isStrOf x v
noncomputable def keyH (w : World) : Key → Int
 | .inl k=>hashInt k
 | .inr x=>hashStr w x
theorem JQ : ∀ {k : Key} {v : Value},J4f k v = true → (∃ i t,k = Sum.inl i ∧ v = Value.int i t) ∨ (∃ x t,k = Sum.inr x ∧ v = Value.str x t)
 | .inl i,v,h=>by
  obtain ⟨t,e⟩:=Value.isInt_shape (k:=i) (v:=v) h
  exact .inl ⟨i,t,rfl,e⟩
 | .inr x,v,h=>by
  obtain ⟨t,e⟩:=Value.isStrOf_shape (x:=x) (v:=v) h
  exact .inr ⟨x,t,rfl,e⟩
theorem J7Y (i : Int) (t : Tok) : J4f (.inl i) (.int i t) = true:=by simp [J4f,Value.isInt]
theorem J7p (x : Str) (t : Tok) : J4f (.inr x) (.str x t) = true:=by simp [J4f,Value.isStrOf]
theorem JbT (a b : Int) : decide ((Sum.inl a : Key) = Sum.inl b) = (a == b):=by
 by_cases e : a = b
 ·subst e; simp
 ·have h : ¬ (Sum.inl a : Key) = Sum.inl b:=fun q=>e (Sum.inl.inj q)
  rw [decide_eq_false h]
  exact (beq_eq_false_iff_ne.mpr e).symm
theorem JbQ (a b : Str) : decide ((Sum.inr a : Key) = Sum.inr b) = decide (a = b):=by
 by_cases e : a = b
 ·subst e; simp
 ·have h : ¬ (Sum.inr a : Key) = Sum.inr b:=fun q=>e (Sum.inr.inj q)
  rw [decide_eq_false h,decide_eq_false e]
theorem JbS (a : Int) (b : Str) : decide ((Sum.inl a : Key) = Sum.inr b) = false:=decide_eq_false (fun q=>nomatch q)
theorem JbJ (a : Str) (b : Int) : decide ((Sum.inr a : Key) = Sum.inl b) = false:=decide_eq_false (fun q=>nomatch q)
noncomputable def JG (prog : Program) (w : World) : PySem.KeyKind prog w Key where
 is:=J4f
 hash:=keyH w
 inj:=fun v a b ha hb=>by
  rcases JQ ha with ⟨i,t,rfl,rfl⟩ | ⟨x,t,rfl,rfl⟩
  ·rcases JQ hb with ⟨j,u,rfl,e⟩ | ⟨y,u,rfl,e⟩
   ·injection e with e1 _; rw [e1]
   ·exact nomatch e
  ·rcases JQ hb with ⟨j,u,rfl,e⟩ | ⟨y,u,rfl,e⟩
   ·exact nomatch e
   ·injection e with e1 _; rw [e1]
 byValue:=fun k v h=>by
  rcases JQ h with ⟨i,t,rfl,rfl⟩ | ⟨x,t,rfl,rfl⟩ <;> rfl
 pyHash:=fun hv h=>by
  rcases JQ hv with ⟨i,t,rfl,rfl⟩ | ⟨x,t,rfl,rfl⟩
  ·exact wpAny_pyHash_int h
  ·exact wpAny_pyHash_str h
 eqBool:=fun hu hv h=>by
  rcases JQ hu with ⟨i,t,rfl,rfl⟩ | ⟨x,t,rfl,rfl⟩
  ·rcases JQ hv with ⟨j,u,rfl,rfl⟩ | ⟨y,u,rfl,rfl⟩
   ·rw [JbT] at h; exact wpAny_eqBool_int h
   ·rw [JbS] at h; exact SeqAt.EqAt.int_str i t y u _ _ _ _ h
  ·rcases JQ hv with ⟨j,u,rfl,rfl⟩ | ⟨y,u,rfl,rfl⟩
   ·rw [JbJ] at h; exact SeqAt.EqAt.str_int x t j u _ _ _ _ h
   ·rw [JbQ] at h; exact wpAny_eqBool_str h
 «strs»:=fun k x t v h=>by
  rcases JQ h with ⟨i,u,rfl,e⟩ | ⟨y,u,rfl,e⟩
  ·exact nomatch e
  ·injection e with e1 _
   subst e1
   cases v <;> rfl
theorem J5N (prog : Program) (w : World) (i : Int) (t : Tok) : (JG prog w).is (.inl i) (.int i t) = true:=J7Y i t
theorem J5n (prog : Program) (w : World) (x : Str) (t : Tok) : (JG prog w).is (.inr x) (.str x t) = true:=J7p x t
end L2
namespace L2
open PySem PySem.Spec PyProof.Rows
inductive V where
 | non | bl (b : Bool) | int (i : Int) | str (x : Str) | byt (b : Array UInt8) | flt (b : UInt64) | ref (a : Addr) | ty (n : String)
 deriving DecidableEq
noncomputable def RelV : V → Value → Prop
 | .non,u=>u = Value.none
 | .bl b,u=>u = Value.bool b
 | .int i,u=>∃ t,u = Value.int i t
 | .str x,u=>∃ t,u = Value.str x t
 | .byt b,u=>∃ t,u = Value.bytes b t
 | .flt b,u=>∃ t,u = Value.float b t
 | .ref a,u=>u = Value.ref a
 | .ty n,u=>u = Value.type n
noncomputable abbrev Vals : List V → List Value → Prop:=Paired RelV
theorem Vals.length {xs : List V} {us : List Value} (r : Vals xs us) : xs.length = us.length:=Paired.length r
theorem Vals.get : ∀ {xs : List V} {us : List Value} {i : Nat} {x : V},Vals xs us → xs[i]? = some x → ∃ u,us[i]? = some u ∧ RelV x u
 | _,_,_,_,.nil,e=>by simp at e
 | _,_,0,_,.cons r _,e=>by simp at e; subst e; exact ⟨_,rfl,r⟩
 | _,_,i + 1,x,.cons _ t,e=>by
  obtain ⟨u,h1,h2⟩:=Vals.get (i:=i) (x:=x) t (by simpa using e)
  exact ⟨u,by simpa using h1,h2⟩
theorem Vals.set {x : V} {u : Value} (r : RelV x u) : ∀ {xs : List V} {us : List Value} (i : Nat),Vals xs us → Vals (xs.set i x) (us.set i u)
 | _,_,_,.nil=>.nil
 | _,_,0,.cons _ t=>.cons r t
 | _,_,i + 1,.cons q t=>.cons q (Vals.set r i t)
theorem Vals.append : ∀ {xs ys : List V} {us ws : List Value},Vals xs us → Vals ys ws → Vals (xs ++ ys) (us ++ ws)
 | _,_,_,_,.nil,s=>s
 | _,_,_,_,.cons r t,s=>.cons r (Vals.append t s)
theorem Vals.take : ∀ {xs : List V} {us : List Value} (n : Nat),Vals xs us → Vals (xs.take n) (us.take n)
 | _,_,0,_=>.nil
 | _,_,_ + 1,.nil=>.nil
 | _,_,n + 1,.cons r t=>.cons r (Vals.take n t)
theorem Vals.drop : ∀ {xs : List V} {us : List Value} (n : Nat),Vals xs us → Vals (xs.drop n) (us.drop n)
 | _,_,0,r=>r
 | _,_,_ + 1,.nil=>.nil
 | _,_,n + 1,.cons _ t=>Vals.drop n t
noncomputable def RelO : Option V → Option Value → Prop
 | some v,some u=>RelV v u
 | none,none=>True
 | _,_=>False
noncomputable def KV {κ : Type} : List (κ × V) → List (κ × Value) → Prop:=Paired fun (p : κ × V) (q : κ × Value)=>p.1 = q.1 ∧ RelV p.2 q.2
noncomputable def kV : Key → V
 | .inl i=>.int i
 | .inr x=>.str x
inductive HO where
 | lst (xs : List V)
 | tup (xs : List V)
 | dK (kvs : List (Key × V)) | dT (kvs : List (List Key × V))
 | set (S : Int → Bool) (n : Nat)
 | ins (C dx : Addr) (fs : List (Str × V))
 | own (x : Addr)
 | xd (fs : List (Str × V))
 | met (f x : Addr)
 | rng (lo hi : Int)
 | frz (o : Obj) (u : HO)
 | tbl (ps : Array Value)
 | ext (φ : Heap → Prop)
noncomputable abbrev Hp:=Addr → Option HO
noncomputable def upd (H : Hp) (a : Addr) (o : HO) : Hp:=fun b=>if b = a then some o else H b
theorem Jc {H : Hp} {a : Addr} {o : HO} : upd H a o a = some o:=by unfold upd; rw [if_pos rfl]
theorem J7 {H : Hp} {a b : Addr} {o : HO} (h : b ≠ a) : upd H a o b = H b:=by unfold upd; rw [if_neg h]
theorem J0b {H : Hp} {a b : Addr} {o u : HO} (h : H a = some o) (h' : H b = some u) (d : o ≠ u) : a ≠ b:=by
 intro e; subst e; rw [h] at h'; exact d (Option.some.inj h')
theorem Jb {H : Hp} {a b : Addr} {o : HO} (h : H a = some o) (h' : H b = none) : a ≠ b:=by
 intro e; subst e; rw [h] at h'; cases h'
section
variable (P : Program) (w : World)
noncomputable def J0a (H : Hp) (h : Heap) (a : Addr) : HO → Prop
 | .lst xs=>xs.length ≤ sizeLine ∧ ∃ (its : List Value) (n : Nat),Vals xs its ∧ h.get? a = some { cls:=.type "list",data:=.seq its.toArray n }
 | .tup xs=>xs.length ≤ sizeLine ∧ ∃ its : List Value,Vals xs its ∧ IsTup h a its.toArray
 | .dK kvs=>kvs.length ≤ sizeLine ∧ (a == sysModules) = false ∧ ∃ vs,KV kvs vs ∧ h.DictOf (JG P w) a vs
 | .dT kvs=>kvs.length ≤ sizeLine ∧ (a == sysModules) = false ∧ ∃ xs : List (List Key × Addr × Value),
   Paired (fun (p : List Key × V) (q : List Key × Addr × Value)=>p.1 = q.1 ∧ H q.2.1 = some (.tup (p.1.map kV)) ∧ RelV p.2 q.2.2) kvs xs ∧
   ∃ o es ep,h.get? a = some o ∧ o.ExactDict ∧ o.data = .dict es ep ∧ es.toList = xs.map (entryOfKey (tupleKind (JG P w))) ∧ (xs.map (·.1)).Nodup
 | .set S n=>h.SetOf (intKind P w) a S n
 | .ins C dx fs=>H dx = some (.own a) ∧ fs.length ≤ 1000 ∧ dx ≠ a ∧ h.get? a = some (PySem.W.instObj C dx) ∧
   ∃ mA,h.Ns1 dx mA ∧ (∀ f,RelO (fs.lookup f) (mA f)) ∧ PySem.Within mA (fs.map (·.1))
 | .own _=>∃ o,h.get? a = some o
 | .xd fs=>∃ mA,h.Ns1 a mA ∧ ∀ f,RelO (fs.lookup f) (mA f)
 | .rng lo hi=>∃ t u v,h.get? a = some { cls:=.type "range",data:=.fields #[.int lo t,.int hi u,.int 1 v] }
 | .frz o u=>h.get? a = some o ∧ J0a H h a u
 | .tbl ps=>h.get? a = some { cls:=.none,data:=.fields ps }
 | .met f x=>h.get? a = some (PySem.W.methodObj (.ref f) (.ref x))
 | .ext φ=>φ h ∧ (∃ o,h.get? a = some o) ∧ ∀ h1 h2 : Heap,φ h1 → (∀ o,h1.get? a = some o → h2.get? a = some o) → φ h2
noncomputable def HOk (H : Hp) (h : Heap) : Prop:=∀ a o,H a = some o → J0a P w H h a o
end
section
variable {P : Program} {w : World} {H H' : Hp} {h h' : Heap} {a : Addr} {o : HO}
theorem J0a.lt (x : J0a P w H h a o) : a < h.objs.size:=by
 cases o with
 | lst xs=>obtain ⟨_,_,_,_,e⟩:=x; exact Heap.lt_size e
 | tup xs=>obtain ⟨_,_,_,p⟩:=x; exact p.lt
 | dK kvs=>obtain ⟨_,_,_,_,o,_,_,e,_⟩:=x; exact Heap.lt_size e
 | dT kvs=>obtain ⟨_,_,_,_,o,_,_,e,_⟩:=x; exact Heap.lt_size e
 | set S n=>obtain ⟨o,_,_,_,e,_⟩:=x; exact Heap.lt_size e
 | ins C dx fs=>obtain ⟨_,_,_,e,_⟩:=x; exact Heap.lt_size e
 | own y=>obtain ⟨_,e⟩:=x; exact Heap.lt_size e
 | xd fs=>obtain ⟨_,⟨_,_,_,e,_⟩,_⟩:=x; exact Heap.lt_size e
 | rng lo hi=>obtain ⟨_,_,_,e⟩:=x; exact Heap.lt_size e
 | frz ob u=>obtain ⟨e,_⟩:=x; exact Heap.lt_size e
 | tbl ps=>exact Heap.lt_size (show h.get? a = some _ from x)
 | met f y=>exact Heap.lt_size (show h.get? a = some _ from x)
 | ext φ=>obtain ⟨_,⟨_,e⟩,_⟩:=x; exact Heap.lt_size e
theorem Paired.mapP {α β : Type} {F G : α → β → Prop} : ∀ {l₁ : List α} {l₂ : List β},Paired F l₁ l₂ → (∀ a b,F a b → G a b) → Paired G l₁ l₂
 | _,_,.nil,_=>.nil
 | _,_,.cons r t,f=>.cons (f _ _ r) (Paired.mapP t f)
theorem J0a.stay (x : J0a P w H h a o) (k : ∀ b u,(b = a ∨ H b = some (.own a)) → h.get? b = some u → h'.get? b = some u)
  (ho : ∀ b,H b = some (.own a) → H' b = some (.own a)) (ht : ∀ b xs,H b = some (.tup xs) → H' b = some (.tup xs)) : J0a P w H' h' a o:=by
 induction o with
 | lst xs=>obtain ⟨z,its,n,r,e⟩:=x; exact ⟨z,its,n,r,k _ _ (.inl rfl) e⟩
 | tup xs=>obtain ⟨z,its,r,ob,e,c⟩:=x; exact ⟨z,its,r,ob,k _ _ (.inl rfl) e,c⟩
 | dK kvs=>obtain ⟨z,y,vs,r,ob,es,ep,e,c⟩:=x; exact ⟨z,y,vs,r,ob,es,ep,k _ _ (.inl rfl) e,c⟩
 | dT kvs =>
  obtain ⟨z,y,xs,r,ob,es,ep,e,c⟩:=x
  exact ⟨z,y,xs,Paired.mapP r fun p q z=>⟨z.1,ht _ _ z.2.1,z.2.2⟩,ob,es,ep,k _ _ (.inl rfl) e,c⟩
 | set S n=>obtain ⟨ob,es,ep,t,e,c⟩:=x; exact ⟨ob,es,ep,t,k _ _ (.inl rfl) e,c⟩
 | ins C dx fs =>
  obtain ⟨d,z,ne,e,mA,⟨od,es,ep,e2,c⟩,r⟩:=x
  exact ⟨ho _ d,z,ne,k _ _ (.inl rfl) e,mA,⟨od,es,ep,k _ _ (.inr d) e2,c⟩,r⟩
 | own y=>obtain ⟨ob,e⟩:=x; exact ⟨ob,k _ _ (.inl rfl) e⟩
 | xd fs=>obtain ⟨mA,⟨od,es,ep,e,c⟩,r⟩:=x; exact ⟨mA,⟨od,es,ep,k _ _ (.inl rfl) e,c⟩,r⟩
 | rng lo hi=>obtain ⟨t,u,v,e⟩:=x; exact ⟨t,u,v,k _ _ (.inl rfl) e⟩
 | frz ob u ih=>obtain ⟨e,q⟩:=x; exact ⟨k _ _ (.inl rfl) e,ih q⟩
 | tbl ps =>
  have e : h.get? a = some { cls:=.none,data:=.fields ps }:=x
  show h'.get? a = some { cls:=.none,data:=.fields ps }
  exact k a _ (.inl rfl) e
 | met f y =>
  have e : h.get? a = some (PySem.W.methodObj (.ref f) (.ref y)):=x
  show h'.get? a = some (PySem.W.methodObj (.ref f) (.ref y))
  exact k a _ (.inl rfl) e
 | ext φ=>obtain ⟨p,⟨o,e⟩,st⟩:=x; exact ⟨st _ _ p fun o q=>k _ _ (.inl rfl) q,⟨o,k _ _ (.inl rfl) e⟩,st⟩
theorem HOk.lt (x : HOk P w H h) (e : H a = some o) : a < h.objs.size:=(x a o e).lt
theorem HOk.fresh (x : HOk P w H h) (e : h.objs.size ≤ a) : H a = none:=by
 cases q : H a with
 | none=>rfl
 | some u=>exact absurd (Nat.lt_of_lt_of_le (x.lt q) e) (Nat.lt_irrefl _)
theorem HOk.kept (x : HOk P w H h) (k : ∀ b u,h.get? b = some u → h'.get? b = some u) : HOk P w H h':=fun a o e =>
 (x a o e).stay (fun b u _ q=>k b u q) (fun _ q=>q) fun _ _ q=>q
theorem HOk.laid (x : HOk P w H h) (k : ∀ b u,h.get? b = some u → h'.get? b = some u) (hp : h.objs.size ≤ a) (new : J0a P w (upd H a o) h' a o) : HOk P w (upd H a o) h':=fun b u e=>by
 have hn:=x.fresh hp
 by_cases hb : b = a
 ·subst hb; rw [Jc] at e; cases e; exact new
 ·rw [J7 hb] at e
  exact (x b u e).stay (fun c v _ q=>k c v q) (fun c q=>by rw [J7 (Jb q hn)]; exact q) fun c xs q=>by rw [J7 (Jb q hn)]; exact q
end
noncomputable def Rd (H : Hp) (a : Addr) (u : HO) : Prop:=H a = some u ∨ ∃ o,H a = some (.frz o u)
theorem Rd.ok {P : Program} {w : World} {H : Hp} {h : Heap} {a : Addr} {u : HO} (r : Rd H a u) (x : HOk P w H h) : J0a P w H h a u:=by
 rcases r with r | ⟨o,r⟩
 ·exact x a u r
 ·obtain ⟨_,q⟩:=x a _ r
  exact q
noncomputable def Mut : Option HO → Prop
 | some (.lst _)=>True
 | some (.dK _)=>True
 | some (.dT _)=>True
 | some (.set _ _)=>True
 | some (.ins _ _ _)=>True
 | some (.ext _)=>True
 | _=>False
section
variable {P : Program} {w : World} {H : Hp} {h h' : Heap} {x e : Addr} {o' : HO}
theorem HOk.write (ok : HOk P w H h) (mu : Mut (H x)) (he : e = x ∨ H e = some (.own x)) (k : ∀ b u,b ≠ e → h.get? b = some u → h'.get? b = some u) (heo : ∃ u,h'.get? e = some u)
  (new : J0a P w (upd H x o') h' x o') : HOk P w (upd H x o') h':=fun b u q=>by
 have nown : ∀ c y,H c = some (.own y) → c ≠ x:=fun c y r z=>by subst z; rw [r] at mu; exact mu
 have ntup : ∀ c xs,H c = some (.tup xs) → c ≠ x:=fun c xs r z=>by subst z; rw [r] at mu; exact mu
 by_cases hb : b = x
 ·subst hb; rw [Jc] at q; cases q; exact new
 ·rw [J7 hb] at q
  by_cases hbe : b = e
  ·have q' : H b = some (.own x):=by
    rcases he with z | z
    ·exact absurd (hbe.trans z) hb
    ·rw [hbe]; exact z
   rw [q] at q'; cases q'
   obtain ⟨v,hv⟩:=heo
   exact ⟨v,by rw [hbe]; exact hv⟩
  ·refine (ok b u q).stay (fun c v hc r=>k c v ?_ r) (fun c r=>by rw [J7 (nown c b r)]; exact r) fun c xs r=>by rw [J7 (ntup c xs r)]; exact r
   rcases hc with rfl | hc
   ·exact hbe
   ·rintro rfl
    rcases he with z | z
    ·exact nown c b hc z
    ·rw [hc] at z; cases z; exact hb rfl
end
structure Un (fs ex : List Addr) (H H' : Hp) (h h' : Heap) : Prop where
 keep : ∀ b o,h.get? b = some o → H b = none → b ∉ fs → b ∉ ex → h'.get? b = some o
 slot : ∀ b o,h.get? b = some o → H b = none → b ∈ fs → b ∉ ex → ∃ sl,h'.get? b = some { o with slots:=sl }
 free : ∀ b o,h.get? b = some o → H b = none → b ∉ ex → H' b = none
 there : ∀ b o,h.get? b = some o → b ∉ ex → ∃ o',h'.get? b = some o'
 tups : ∀ b xs,H b = some (.tup xs) → H' b = some (.tup xs)
 frzs : ∀ b o u,H b = some (.frz o u) → H' b = some (.frz o u)
 tbls : ∀ b ps,H b = some (.tbl ps) → ∃ more,H' b = some (.tbl (ps ++ more))
section
variable {fs fs' ex ex' : List Addr} {H H1 H2 : Hp} {h h1 h2 h' : Heap} {a x e : Addr} {o : HO}
theorem Un.any (u : Un fs ex H H1 h h1) {b : Addr} {ob : Obj} (q : h.get? b = some ob) (n : H b = none) (hx : b ∉ ex) : ∃ sl,h1.get? b = some { ob with slots:=sl }:=by
 by_cases hb : b ∈ fs
 ·exact u.slot b ob q n hb hx
 ·exact ⟨ob.slots,u.keep b ob q n hb hx⟩
theorem Un.kept (k : ∀ b u,h.get? b = some u → h'.get? b = some u) : Un fs ex H H h h' :=
 ⟨fun b ob q _ _ _=>k b ob q,fun b ob q _ _ _=>⟨ob.slots,k b ob q⟩,fun _ _ _ n _=>n,fun b ob q _=>⟨ob,k b ob q⟩,fun _ _ q=>q,fun _ _ _ q=>q,fun _ ps q=>⟨#[],by rw [q]; simp⟩⟩
theorem Un.refl : Un fs ex H H h h:=Un.kept fun _ _ q=>q
theorem Un.laid (k : ∀ b u,h.get? b = some u → h'.get? b = some u) (hp : h.objs.size ≤ a) (hn : H a = none) : Un fs ex H (upd H a o) h h' where
 keep:=fun b u q _ _ _=>k b u q
 slot:=fun b u q _ _ _=>⟨u.slots,k b u q⟩
 free:=fun b u q n _=>by rw [J7 (Nat.ne_of_lt (Nat.lt_of_lt_of_le (Heap.lt_size q) hp))]; exact n
 there:=fun b u q _=>⟨u,k b u q⟩
 tups:=fun b xs q=>by rw [J7 (Jb q hn)]; exact q
 frzs:=fun b u xs q=>by rw [J7 (Jb q hn)]; exact q
 tbls:=fun b ps q=>⟨#[],by rw [J7 (Jb q hn),q]; simp⟩
theorem Un.write (mu : Mut (H x)) (he : e = x ∨ H e = some (.own x)) (k : ∀ b u,b ≠ e → h.get? b = some u → h'.get? b = some u) (heo : ∃ u,h'.get? e = some u) : Un fs ex H (upd H x o) h h':=by
 have hx : ∀ b,H b = none → b ≠ x:=fun b n z=>by subst z; rw [n] at mu; exact mu
 have hb : ∀ b,H b = none → b ≠ e:=fun b n z=>by
  subst z
  rcases he with r | r
  ·exact hx b n r
  ·rw [n] at r; cases r
 have hm : ∀ b u,H b = some u → ¬ Mut (some u) → b ≠ x:=fun b u q nm z=>by subst z; rw [q] at mu; exact nm mu
 refine ⟨fun b u q n _ _=>k b u (hb b n) q,fun b u q n _ _=>⟨u.slots,k b u (hb b n) q⟩,fun b u q n _=>by rw [J7 (hx b n)]; exact n,fun b u q _=>?_,
  fun b xs q=>by rw [J7 (hm b _ q fun z=>z)]; exact q,fun b u xs q=>by rw [J7 (hm b _ q fun z=>z)]; exact q,fun b ps q=>⟨#[],by rw [J7 (hm b _ q fun z=>z),q]; simp⟩⟩
 by_cases hbe : b = e
 ·subst hbe; exact heo
 ·exact ⟨u,k b u hbe q⟩
end
noncomputable def trk (h : Heap) (H : Hp) : List Addr:=(List.range h.objs.size).filter fun a=>(H a).isSome
noncomputable def hidT (h : Heap) (H : Hp) : Heap:=PySem.W.hideAll h (trk h H)
theorem J7R (h : Heap) (H : Hp) : (hidT h H).objs.size = h.objs.size:=PySem.W.hideAll_size _ _
theorem J8G {h : Heap} {H : Hp} {b : Addr} {o : Obj} (e : h.get? b = some o) (n : H b = none) : (hidT h H).get? b = some o :=
 PySem.W.hideAll_get _ e fun hm=>by
  have q : (H b).isSome = true:=(List.mem_filter.mp hm).2
  rw [n] at q; simp at q
theorem J9X {h : Heap} {H : Hp} {b : Addr} {o : Obj} (e : (hidT h H).get? b = some o) : h.get? b = some o ∧ H b = none:=by
 have e' : h.get? b = some o:=PySem.W.of_hideAll (trk h H) e
 refine ⟨e',?_⟩
 cases q : H b with
 | none=>rfl
 | some x =>
  have hm : b ∈ trk h H:=List.mem_filter.mpr ⟨List.mem_range.mpr (Heap.lt_size e'),by simp [q]⟩
  have z : (hidT h H).get? b = none:=PySem.W.hideAll_none (trk h H) hm
  rw [z] at e; cases e
end L2
namespace L2
open PySem PySem.Spec PyProof.Rows
structure Mod (K : PySem.W.Frag) (mg : Str → Option Value) (base : Heap) : Prop where
 kin : K.In base
 glob : base.Ns mainGlobals mg
 blt : ∃ mb,base.Ns builtinsNs mb ∧ ∀ x : Str,x ≠ "__name__" → mb x = bootBuiltins x
 nolimit : base.NoLimit
structure Cx where
 prog : Program
 w : World
 K : PySem.W.Frag
 mg : Str → Option Value
 base : Heap
 A : Around
 N : List Str
 s₀ : Shared
 H₀ : Hp
 env : Env
 outer : List Env
 stack : List Env
 ex : List Addr
 fn : Str → Bool
 calm : Bool
 pn : List (Addr × Obj)
 xe : Value → Shared → Prop
noncomputable def frs (l : List Env) : List Addr:=l.filterMap (·.frame)
noncomputable abbrev Cx.fs (X : Cx) : List Addr:=frs X.outer
noncomputable def Vis (sc : Scope) (x : Str) : Prop:=sc.names.lookup x = some .local ∨ sc.names.lookup x = some .cell ∨ sc.names.lookup x = some .free
noncomputable def Loc (sc : Scope) (x : Str) : Prop:=sc.names.lookup x = some .local ∨ sc.names.lookup x = some .cell
noncomputable def Look (env : Env) (h : Heap) (m : Str → Option Value) (x : Str) (u : Value) : Prop :=
 (env.kindOf x = some .local ∧ m x = some u) ∨ ((env.kindOf x = some .cell ∨ env.kindOf x = some .free) ∧ ∃ c,env.cells.lookup x = some c ∧ h.IsCell c (some u))
structure Cx.Ok (X : Cx) : Prop where
 mod : Mod X.K X.mg X.base
 kind : X.env.scope.kind = .function
 glob : X.env.globals = mainGlobals
 blt : X.env.builtins = builtinsNs
 above : X.s₀.heap.objs.size ≤ X.env.locals
 inj : ∀ x y c,X.env.cells.lookup x = some c → X.env.cells.lookup y = some c → x = y
 has : ∀ x,(X.env.kindOf x = some .cell ∨ X.env.kindOf x = some .free) → ∃ c,X.env.cells.lookup x = some c
 cab : ∀ x c,X.fn x = true → X.env.cells.lookup x = some c → X.s₀.heap.objs.size ≤ c
 hd : X.calm = true → X.A.handled = none
 frames : X.A.frames = some X.stack
 stk : X.stack = X.outer ∨ (X.stack = X.env :: X.outer ∧ X.env.frame = some X.env.locals)
 exf : ∀ b ∈ X.ex,b ≠ X.env.locals ∧ ∀ x c,X.env.cells.lookup x = some c → c ≠ b
 bs : ∀ b o,X.base.get? b = some o → X.s₀.heap.get? b = some o ∧ X.H₀ b = none
 bsz : X.base.objs.size ≤ X.s₀.heap.objs.size
 noex : ∀ b o,X.base.get? b = some o → b ∉ X.ex
 exfs : ∀ b ∈ X.ex,b ∉ X.fs
 funs : X.s₀.heap.FunFrames X.base X.outer
 frf : ∀ b ∈ X.fs,X.H₀ b = none
structure Inv (X : Cx) (pins : List (Addr × Obj)) (σ : List (Option V)) (H : Hp) (s : Shared) : Prop where
 ok : X.Ok
 os : s.os = X.s₀.os
 bare : AllBare s.gens
 base : Un X.fs X.ex X.H₀ H X.s₀.heap s.heap
 loc : ∃ m,s.heap.Ns X.env.locals m ∧ ∀ (i : Nat) (x : Str) (v : V),X.N[i]? = some x → σ[i]? = some (some v) → Vis X.env.scope x → ∃ u,RelV v u ∧ Look X.env s.heap m x u
 cell : ∀ x c,X.env.cells.lookup x = some c → ∃ v,s.heap.IsCell c v
 free : H X.env.locals = none
 freeC : ∀ x c,X.env.cells.lookup x = some c → H c = none
 pin : ∀ p ∈ X.pn ++ pins,s.heap.get? p.1 = some p.2 ∧ H p.1 = none ∧ p.1 ≠ X.env.locals ∧ p.1 ∉ X.fs ∧ ∀ v,p.2.data ≠ .cell v
 hok : HOk X.prog X.w H s.heap
 len : σ.length = X.N.length
section
variable {X : Cx} {pins : List (Addr × Obj)} {σ : List (Option V)} {H H' : Hp} {s : Shared} {h' : Heap}
theorem Cx.Ok.nofr (ok : X.Ok) {b : Addr} {o : Obj} (e : X.base.get? b = some o) : b ∉ X.fs:=fun hb=>by
 have:=(ok.funs.mem hb).1
 rw [e] at this; cases this
theorem Inv.bs (I : Inv X pins σ H s) : ∀ b o,X.base.get? b = some o → s.heap.get? b = some o ∧ H b = none:=fun b o e =>
 ⟨I.base.keep b o (I.ok.bs b o e).1 (I.ok.bs b o e).2 (I.ok.nofr e) (I.ok.noex b o e),I.base.free b o (I.ok.bs b o e).1 (I.ok.bs b o e).2 (I.ok.noex b o e)⟩
theorem Inv.bk (I : Inv X pins σ H s) : ∀ b o,X.base.get? b = some o → s.heap.get? b = some o:=fun b o e=>(I.bs b o e).1
theorem Inv.mod (I : Inv X pins σ H s) : Mod X.K X.mg X.base:=I.ok.mod
theorem Inv.kIn (I : Inv X pins σ H s) : X.K.In s.heap:=I.ok.mod.kin.keeps I.bk
theorem Inv.lt (I : Inv X pins σ H s) : X.env.locals < s.heap.objs.size:=let ⟨_,hn,_⟩:=I.loc; hn.lt
theorem Inv.sz (I : Inv X pins σ H s) : X.s₀.heap.objs.size ≤ s.heap.objs.size:=Nat.le_trans I.ok.above (Nat.le_of_lt I.lt)
theorem Inv.nofs (I : Inv X pins σ H s) {a : Addr} (h : s.heap.objs.size ≤ a) : a ∉ X.fs:=fun hb=>by
 obtain ⟨_,o,ho,_⟩:=I.ok.funs.mem hb
 exact absurd (Nat.lt_of_lt_of_le (Heap.lt_size ho) (Nat.le_trans I.sz h)) (Nat.lt_irrefl _)
theorem Inv.cne (I : Inv X pins σ H s) : ∀ x c,X.env.cells.lookup x = some c → c ≠ X.env.locals:=fun x c e z=>by
 obtain ⟨v,o,ho,hd⟩:=I.cell x c e
 obtain ⟨m,⟨o',es,ep,ho',hd',_⟩,_⟩:=I.loc
 rw [z,ho'] at ho; cases ho; rw [hd'] at hd; cases hd
theorem Inv.funs (I : Inv X pins σ H s) : s.heap.FunFrames X.base X.outer:=by
 have all : ∀ (l : List Env),(∀ b ∈ frs l,b ∈ X.fs) → X.s₀.heap.FunFrames X.base l → s.heap.FunFrames X.base l:=by
  intro l
  induction l with
  | nil=>intro _ _; trivial
  | cons env r ih =>
   intro hs hl
   obtain ⟨hk,⟨L,o,hf,hn,ho,hd⟩,hr⟩:=hl
   have hL : L ∈ X.fs:=hs L (by unfold frs; rw [List.filterMap_cons,hf]; exact List.mem_cons_self)
   obtain ⟨sl,e⟩:=I.base.slot L o ho (I.ok.frf L hL) hL fun z=>I.ok.exfs L z hL
   exact ⟨hk,⟨L,_,hf,hn,e,hd⟩,ih (fun b hb=>hs b (by unfold frs; rw [List.filterMap_cons,hf]; exact List.mem_cons_of_mem _ hb)) hr⟩
 exact all X.outer (fun _ hb=>hb) I.ok.funs
theorem Inv.stack (I : Inv X pins σ H s) : s.heap.FunFrames X.base X.stack:=by
 rcases I.ok.stk with e | ⟨e,hf⟩
 ·rw [e]; exact I.funs
 ·rw [e]
  obtain ⟨m,hn,_⟩:=I.loc
  refine .cons (by rw [I.ok.kind]; decide) hf hn ?_ I.funs
  exact Heap.get?_none_of_le (Nat.le_trans I.ok.bsz I.ok.above)
theorem Inv.stkSub (I : Inv X pins σ H s) : ∀ b ∈ frs X.stack,b ∈ X.env.locals :: X.fs:=fun b hb=>by
 rcases I.ok.stk with e | ⟨e,hf⟩
 ·rw [e] at hb; exact List.mem_cons_of_mem _ hb
 ·rw [e] at hb
  unfold frs at hb
  rw [List.filterMap_cons,hf] at hb
  exact hb
theorem Inv.stkFree (I : Inv X pins σ H s) : ∀ b ∈ frs X.stack,H b = none:=fun b hb=>by
 rcases List.mem_cons.mp (I.stkSub b hb) with e | hb
 ·rw [e]; exact I.free
 ·obtain ⟨_,o,ho,_⟩:=I.ok.funs.mem hb
  exact I.base.free b o ho (I.ok.frf b hb) fun z=>I.ok.exfs b z hb
theorem Inv.step {g' : Array GenState} {t' : Nat} {d' : Drawn} {ch : List Addr} (I : Inv X pins σ H s)
  (hch : ∀ b ∈ ch,(b ∈ X.ex ∨ X.s₀.heap.objs.size ≤ b) ∧ b ≠ X.env.locals ∧ (∀ x c,X.env.cells.lookup x = some c → c ≠ b) ∧ ∀ p ∈ X.pn ++ pins,p.1 ≠ b)
  (keep : ∀ b o,b ≠ X.env.locals → b ∉ X.fs → b ∉ ch → s.heap.get? b = some o → H b = none → h'.get? b = some o)
  (slot : ∀ b o,b ≠ X.env.locals → b ∈ X.fs → b ∉ ch → s.heap.get? b = some o → H b = none → ∃ sl,h'.get? b = some { o with slots:=sl }) (free : ∀ b o,b ∉ ch → s.heap.get? b = some o → H b = none → H' b = none)
  (there : ∀ b o,b ∉ ch → s.heap.get? b = some o → ∃ o',h'.get? b = some o')
  (tups : ∀ b xs,H b = some (.tup xs) → H' b = some (.tup xs)) (frzs : ∀ b o u,H b = some (.frz o u) → H' b = some (.frz o u)) (tbls : ∀ b ps,H b = some (.tbl ps) → ∃ more,H' b = some (.tbl (ps ++ more)))
  (ns : ∀ m,s.heap.Ns X.env.locals m → h'.Ns X.env.locals m) (hok : HOk X.prog X.w H' h') (hg : AllBare g') :
  Inv X pins σ H' { s with heap:=h',gens:=g',drawn:=d',toks:=t' }:=by
 have neL : ∀ b o,X.s₀.heap.get? b = some o → b ≠ X.env.locals:=fun b o e=>Nat.ne_of_lt (Nat.lt_of_lt_of_le (Heap.lt_size e) I.ok.above)
 have neC : ∀ b o,X.s₀.heap.get? b = some o → b ∉ X.ex → b ∉ ch:=fun b o e hx hb=>by
  rcases (hch b hb).1 with z | z
  ·exact hx z
  ·exact absurd (Nat.lt_of_lt_of_le (Heap.lt_size e) z) (Nat.lt_irrefl _)
 have cellK : ∀ x c,X.env.cells.lookup x = some c → ∀ v,s.heap.IsCell c v → h'.IsCell c v:=fun x c e v ⟨o,ho,hd⟩=>by
  have nch : c ∉ ch:=fun z=>(hch c z).2.2.1 x c e rfl
  by_cases hc : c ∈ X.fs
  ·obtain ⟨sl,q⟩:=slot c o (I.cne x c e) hc nch ho (I.freeC x c e)
   exact ⟨_,q,hd⟩
  ·exact ⟨o,keep c o (I.cne x c e) hc nch ho (I.freeC x c e),hd⟩
 refine ⟨I.ok,I.os,hg,⟨fun b o e n hb hx=>?_,fun b o e n hb hx=>?_,fun b o e n hx=>?_,fun b o e hx=>?_,fun b xs e=>tups b xs (I.base.tups b xs e),fun b o xs e=>frzs b o xs (I.base.frzs b o xs e),fun b ps e=>?_⟩,?_,fun x c e=>?_,?_,fun x c e=>?_,fun p hp=>?_,hok,I.len⟩
 ·exact keep b o (neL b o e) hb (neC b o e hx) (I.base.keep b o e n hb hx) (I.base.free b o e n hx)
 ·obtain ⟨sl,e1⟩:=I.base.slot b o e n hb hx
  obtain ⟨sl',e2⟩:=slot b _ (neL b o e) hb (neC b o e hx) e1 (I.base.free b o e n hx)
  exact ⟨sl',e2⟩
 ·obtain ⟨o',e1⟩:=I.base.there b o e hx
  exact free b o' (neC b o e hx) e1 (I.base.free b o e n hx)
 ·obtain ⟨o',e1⟩:=I.base.there b o e hx
  exact there b o' (neC b o e hx) e1
 ·obtain ⟨m1,e1⟩:=I.base.tbls b ps e
  obtain ⟨m2,e2⟩:=tbls b _ e1
  exact ⟨m1 ++ m2,by rw [e2,Array.append_assoc]⟩
 ·obtain ⟨m,hn,hl⟩:=I.loc
  refine ⟨m,ns m hn,fun i x v e1 e2 e3=>?_⟩
  obtain ⟨u,r,l⟩:=hl i x v e1 e2 e3
  refine ⟨u,r,?_⟩
  rcases l with l | ⟨k,c,e,z⟩
  ·exact .inl l
  ·exact .inr ⟨k,c,e,cellK x c e _ z⟩
 ·obtain ⟨v,z⟩:=I.cell x c e
  exact ⟨v,cellK x c e v z⟩
 ·obtain ⟨m,⟨o,_,_,ho,_⟩,_⟩:=I.loc
  exact free _ o (fun z=>(hch _ z).2.1 rfl) ho I.free
 ·obtain ⟨v,o,ho,hd⟩:=I.cell x c e
  exact free c o (fun z=>(hch c z).2.2.1 x c e rfl) ho (I.freeC x c e)
 ·obtain ⟨e,n,ne,nf,d⟩:=I.pin p hp
  have nch : p.1 ∉ ch:=fun z=>(hch p.1 z).2.2.2 p hp rfl
  exact ⟨keep p.1 p.2 ne nf nch e n,free p.1 p.2 nch e n,ne,nf,d⟩
theorem Inv.un {t' : Nat} (I : Inv X pins σ H s) (u : Un X.fs [] H H' s.heap h') (hok : HOk X.prog X.w H' h') : Inv X pins σ H' { s with heap:=h',toks:=t' }:=by
 obtain ⟨m,⟨o,es,ep,ho,r⟩,_⟩:=id I.loc
 obtain ⟨sl,hL⟩:=u.any ho I.free (by simp)
 exact I.step (g':=s.gens) (d':=s.drawn) (ch:=[]) (fun _ z=>nomatch z) (fun b o _ hb _ e n=>u.keep b o e n hb (by simp)) (fun b o _ hb _ e n=>u.slot b o e n hb (by simp)) (fun b o _ e n=>u.free b o e n (by simp)) (fun b o _ e=>u.there b o e (by simp)) u.tups u.frzs u.tbls (fun m' hm=>by
  obtain ⟨o',es',ep',ho',r'⟩:=hm
  rw [ho] at ho'; cases ho'
  exact ⟨_,es',ep',hL,r'⟩) hok I.bare
theorem Inv.call {g' : Array GenState} {t' : Nat} {d' : Drawn} {ch : List Addr} (I : Inv X pins σ H s) (u : Un (frs X.stack) ch H H' s.heap h') (hok : HOk X.prog X.w H' h') (hg : AllBare g')
  (hch : ∀ b ∈ ch,(b ∈ X.ex ∨ X.s₀.heap.objs.size ≤ b) ∧ b ≠ X.env.locals ∧ (∀ x c,X.env.cells.lookup x = some c → c ≠ b) ∧ ∀ p ∈ X.pn ++ pins,p.1 ≠ b) :
  Inv X pins σ H' { s with heap:=h',gens:=g',drawn:=d',toks:=t' }:=by
 obtain ⟨m,⟨o,es,ep,ho,r⟩,_⟩:=id I.loc
 obtain ⟨sl,hL⟩:=u.any ho I.free fun z=>(hch _ z).2.1 rfl
 exact I.step (ch:=ch) hch (fun b o hL hb hc e n=>u.keep b o e n (fun z=>(List.mem_cons.mp (I.stkSub b z)).elim hL hb) hc) (fun b o _ _ hc e n=>u.any e n hc) (fun b o hc e n=>u.free b o e n hc) (fun b o hc e=>u.there b o e hc) u.tups u.frzs u.tbls (fun m' hm=>by
  obtain ⟨o',es',ep',ho',r'⟩:=hm
  rw [ho] at ho'; cases ho'
  exact ⟨_,es',ep',hL,r'⟩) hok hg
theorem Inv.turned {t' : Nat} {it : Addr} (I : Inv X pins σ H s) (k : ∀ b o,b ≠ it → s.heap.get? b = some o → h'.get? b = some o) (hn : H it = none) (hL : it ≠ X.env.locals)
  (h1 : it ∈ X.ex ∨ X.s₀.heap.objs.size ≤ it) (h2 : ∀ x c,X.env.cells.lookup x = some c → c ≠ it) (h3 : ∀ p ∈ X.pn ++ pins,p.1 ≠ it) : Inv X pins σ H { s with heap:=h',toks:=t' }:=by
 have nit : ∀ b u,H b = some u → b ≠ it:=fun b u e z=>by rw [z,hn] at e; cases e
 refine I.step (g':=s.gens) (d':=s.drawn) (ch:=[it]) (fun b hb=>?_) (fun b o _ _ hc e _=>k b o (fun z=>hc (by simp [z])) e) (fun b o _ _ hc e _=>⟨o.slots,k b o (fun z=>hc (by simp [z])) e⟩) (fun _ _ _ _ n=>n)
  (fun b o hc e=>⟨o,k b o (fun z=>hc (by simp [z])) e⟩) (fun _ _ e=>e) (fun _ _ _ e=>e) (fun b ps e=>⟨#[],by rw [e]; simp⟩) (fun m hm=>?_) (fun b u e=>?_) I.bare
 ·have e : b = it:=by simpa using hb
  subst e
  exact ⟨h1,hL,h2,h3⟩
 ·obtain ⟨o,es,ep,ho,r⟩:=hm
  exact ⟨o,es,ep,k _ o (Ne.symm hL) ho,r⟩
 ·refine (I.hok b u e).stay (fun c v hc q=>k c v ?_ q) (fun _ q=>q) fun _ _ q=>q
  rcases hc with z | z
  ·rw [z]; exact nit b u e
  ·exact nit c _ z
theorem Inv.tok (I : Inv X pins σ H s) (t : Nat) : Inv X pins σ H { s with toks:=t }:=I.un (h':=s.heap) (t':=t) Un.refl I.hok
theorem Inv.kept {t' : Nat} (I : Inv X pins σ H s) (k : ∀ b u,s.heap.get? b = some u → h'.get? b = some u) : Inv X pins σ H { s with heap:=h',toks:=t' }:=I.un (Un.kept k) (I.hok.kept k)
theorem Inv.laid {a : Addr} {o : HO} {t' : Nat} (I : Inv X pins σ H s) (k : ∀ b u,s.heap.get? b = some u → h'.get? b = some u) (hp : s.heap.objs.size ≤ a) (new : J0a X.prog X.w (upd H a o) h' a o) :
  Inv X pins σ (upd H a o) { s with heap:=h',toks:=t' }:=I.un (Un.laid k hp (I.hok.fresh hp)) (I.hok.laid k hp new)
theorem Inv.write {x e : Addr} {o : HO} {t' : Nat} (I : Inv X pins σ H s) (mu : Mut (H x)) (he : e = x ∨ H e = some (.own x)) (k : ∀ b u,b ≠ e → s.heap.get? b = some u → h'.get? b = some u) (heo : ∃ u,h'.get? e = some u)
  (new : J0a X.prog X.w (upd H x o) h' x o) : Inv X pins σ (upd H x o) { s with heap:=h',toks:=t' }:=I.un (Un.write mu he k heo) (I.hok.write mu he k heo new)
theorem Inv.pins_of {pins' : List (Addr × Obj)} (I : Inv X pins σ H s) (h : ∀ p ∈ pins',s.heap.get? p.1 = some p.2 ∧ H p.1 = none ∧ p.1 ≠ X.env.locals ∧ p.1 ∉ X.fs ∧ ∀ v,p.2.data ≠ .cell v) : Inv X pins' σ H s :=
 ⟨I.ok,I.os,I.bare,I.base,I.loc,I.cell,I.free,I.freeC,fun p hp=>(List.mem_append.mp hp).elim (fun z=>I.pin p (List.mem_append_left _ z)) (h p),I.hok,I.len⟩
theorem J5K {N : List Str} (hN : N.Nodup) {i j : Nat} {x : Str} (a : N[i]? = some x) (b : N[j]? = some x) : i = j:=by
 obtain ⟨h1,e1⟩:=List.getElem?_eq_some_iff.mp a
 obtain ⟨h2,e2⟩:=List.getElem?_eq_some_iff.mp b
 exact (List.getElem_inj hN).mp (e1.trans e2.symm)
theorem J7P {M : Model} {A : Around} {E : Value → Shared → Prop} {i : Nat} {x : Str} {v : V} {u : Value} {Q : Unit → Shared → Prop} (I : Inv X pins σ H s) (hN : X.N.Nodup) (hi : X.N[i]? = some x) (hx : Loc X.env.scope x) (r : RelV v u)
  (h : ∀ s',Inv X pins (σ.set i (some v)) H s' → (∃ a,Heap.SameBut a s.heap s'.heap ∧ (a = X.env.locals ∨ X.env.cells.lookup x = some a)) → Q () s') (hf : X.fn x = true ∨ X.env.scope.names.lookup x = some .local:=by first | exact .inl rfl | exact .inr rfl | assumption) : wpAny M A (storeName X.env x u) Q E s:=by
 obtain ⟨m,hn,hl⟩:=id I.loc
 have hcls : (X.env.scope.kind == .class || (X.env.scope.kind == .module && X.env.locals != X.env.globals)) = false:=by rw [I.ok.kind]; rfl
 have hiσ : i < σ.length:=by rw [I.len]; exact (List.getElem?_eq_some_iff.mp hi).1
 have cne:=I.cne
 have tracked : ∀ {a : Addr} {h' : Heap},(∃ o,s.heap.get? a = some o ∧ H a = none) → Heap.SameBut a s.heap h' → HOk X.prog X.w H h':=fun {a h'} ha hs b ob e=>by
  obtain ⟨_,_,hfree⟩:=ha
  refine (I.hok b ob e).stay (fun c w' hc q=>(hs.2 c ?_).trans q) (fun _ q=>q) fun _ _ q=>q
  rintro rfl
  rcases hc with rfl | hc
  ·rw [hfree] at e; cases e
  ·rw [hfree] at hc; cases hc
 rcases hx with hk | hk
 ·refine wpAny_storeName_local hk hn (fun h' hn' hs=>?_) hcls
  obtain ⟨oL,_,_,hoL,_⟩:=id hn
  refine h _ ⟨I.ok,I.os,I.bare,⟨fun b o e n hb hx=>?_,fun b o e n hb hx=>?_,I.base.free,fun b o e hx=>?_,I.base.tups,I.base.frzs,I.base.tbls⟩,⟨_,hn',fun j y v' e1 e2 e3=>?_⟩,fun y c e=>?_,I.free,I.freeC,fun p hp=>?_,tracked ⟨oL,hoL,I.free⟩ hs,by simpa using I.len⟩ ⟨_,hs,.inl rfl⟩
  ·exact (hs.2 b (Nat.ne_of_lt (Nat.lt_of_lt_of_le (Heap.lt_size e) I.ok.above))).trans (I.base.keep b o e n hb hx)
  ·obtain ⟨sl,e1⟩:=I.base.slot b o e n hb hx
   exact ⟨sl,(hs.2 b (Nat.ne_of_lt (Nat.lt_of_lt_of_le (Heap.lt_size e) I.ok.above))).trans e1⟩
  ·obtain ⟨o',e1⟩:=I.base.there b o e hx
   exact ⟨o',(hs.2 b (Nat.ne_of_lt (Nat.lt_of_lt_of_le (Heap.lt_size e) I.ok.above))).trans e1⟩
  ·by_cases hj : j = i
   ·subst hj
    rw [hi] at e1; cases e1
    rw [List.getElem?_set_self hiσ] at e2
    cases e2
    exact ⟨u,r,.inl ⟨hk,by simp⟩⟩
   ·rw [List.getElem?_set_ne (Ne.symm hj)] at e2
    obtain ⟨u',r',q⟩:=hl j y v' e1 e2 e3
    refine ⟨u',r',?_⟩
    rcases q with ⟨k,e⟩ | ⟨k,c,e,z⟩
    ·refine .inl ⟨k,?_⟩
     have : y ≠ x:=fun e=>hj (J5K hN e1 (e ▸ hi))
     simp [this,e]
    ·exact .inr ⟨k,c,e,z.sameBut hs (cne y c e)⟩
  ·obtain ⟨w',z⟩:=I.cell y c e
   exact ⟨w',z.sameBut hs (cne y c e)⟩
  ·obtain ⟨e,n,ne,nf,d⟩:=I.pin p hp
   exact ⟨(hs.2 p.1 ne).trans e,n,ne,nf,d⟩
 ·have hfn : X.fn x = true:=by
   rcases hf with z | z
   ·exact z
   ·rw [z] at hk; cases hk
  obtain ⟨c,hc⟩:=I.ok.has x (.inl hk)
  obtain ⟨w',z⟩:=I.cell x c hc
  refine wpAny_storeName_cell I.ok.kind hk hc z (fun h' hc' hs=>?_)
  obtain ⟨oc,hoc,hocd⟩:=id z
  refine h { s with heap:=h' } ⟨I.ok,I.os,I.bare,⟨fun b o e n hb hx=>?_,fun b o e n hb hx=>?_,I.base.free,fun b o e hx=>?_,I.base.tups,I.base.frzs,I.base.tbls⟩,⟨m,hn.sameBut hs (Ne.symm (cne x c hc)),fun j y v' e1 e2 e3=>?_⟩,fun y c' e=>?_,I.free,I.freeC,fun p hp=>?_,tracked ⟨oc,hoc,I.freeC x c hc⟩ hs,by simpa using I.len⟩ ⟨c,hs,.inr hc⟩
  ·exact (hs.2 b (Nat.ne_of_lt (Nat.lt_of_lt_of_le (Heap.lt_size e) (I.ok.cab x c hfn hc)))).trans (I.base.keep b o e n hb hx)
  ·obtain ⟨sl,e1⟩:=I.base.slot b o e n hb hx
   exact ⟨sl,(hs.2 b (Nat.ne_of_lt (Nat.lt_of_lt_of_le (Heap.lt_size e) (I.ok.cab x c hfn hc)))).trans e1⟩
  ·obtain ⟨o',e1⟩:=I.base.there b o e hx
   exact ⟨o',(hs.2 b (Nat.ne_of_lt (Nat.lt_of_lt_of_le (Heap.lt_size e) (I.ok.cab x c hfn hc)))).trans e1⟩
  ·by_cases hj : j = i
   ·subst hj
    rw [hi] at e1; cases e1
    rw [List.getElem?_set_self hiσ] at e2
    cases e2
    exact ⟨u,r,.inr ⟨.inl hk,c,hc,hc'⟩⟩
   ·rw [List.getElem?_set_ne (Ne.symm hj)] at e2
    obtain ⟨u',r',q⟩:=hl j y v' e1 e2 e3
    refine ⟨u',r',?_⟩
    rcases q with q | ⟨k,c',e,z'⟩
    ·exact .inl q
    ·refine .inr ⟨k,c',e,z'.sameBut hs ?_⟩
     rintro rfl
     exact hj (J5K hN e1 (I.ok.inj _ _ _ e hc ▸ hi))
  ·by_cases hcc : c' = c
   ·subst hcc; exact ⟨_,hc'⟩
   ·obtain ⟨w2,z2⟩:=I.cell y c' e
    exact ⟨w2,z2.sameBut hs hcc⟩
  ·obtain ⟨e,n,ne,nf,d⟩:=I.pin p hp
   refine ⟨(hs.2 p.1 ?_).trans e,n,ne,nf,d⟩
   intro q
   rw [q,hoc] at e
   have q' : oc = p.2:=Option.some.inj e
   exact d w' (by rw [← q']; exact hocd)
theorem J2A {M : Model} {A : Around} {E : Value → Shared → Prop} {i : Nat} {x : Str} {v : V} {u : Value} {Q : Unit → Shared → Prop} (I : Inv X pins σ H s) (hN : X.N.Nodup) (hi : X.N[i]? = some x) (hx : Loc X.env.scope x) (r : RelV v u)
  (h : ∀ s',Inv X pins (σ.set i (some v)) H s' → Q () s') (hf : X.fn x = true ∨ X.env.scope.names.lookup x = some .local:=by first | exact .inl rfl | exact .inr rfl | assumption) : wpAny M A (storeName X.env x u) Q E s :=
 J7P I hN hi hx r (fun s' I' _=>h s' I') hf
theorem Inv.call' {s' : Shared} {ch : List Addr} (I : Inv X pins σ H s) (ho : s'.os = s.os) (u : Un (frs X.stack) ch H H' s.heap s'.heap) (hok : HOk X.prog X.w H' s'.heap) (hg : AllBare s'.gens)
  (hch : ∀ b ∈ ch,(b ∈ X.ex ∨ X.s₀.heap.objs.size ≤ b) ∧ b ≠ X.env.locals ∧ (∀ x c,X.env.cells.lookup x = some c → c ≠ b) ∧ ∀ p ∈ X.pn ++ pins,p.1 ≠ b) : Inv X pins σ H' s':=by
 obtain ⟨h',g',d',t',o'⟩:=s'
 have e : o' = s.os:=ho
 subst e
 exact I.call (g':=g') (t':=t') (d':=d') u hok hg hch
end
noncomputable abbrev XK:=Value → Option Addr → Hp → Prop
noncomputable abbrev St:=List (Option V)
noncomputable abbrev VK:=V → Hp → Prop
noncomputable abbrev TE:=St → Hp → VK → Prop
noncomputable abbrev TT:=St → Hp → (Bool → Hp → Prop) → Prop
noncomputable abbrev TA:=St → Hp → (List V → Hp → Prop) → Prop
structure Ends where
 nx : St → Hp → Prop
 rt : VK
 bk : St → Hp → Prop:=fun _ _=>False
 ct : St → Hp → Prop:=fun _ _=>False
noncomputable abbrev TS:=Ends → St → Hp → Prop
noncomputable def EP (X : Cx) (pins : List (Addr × Obj)) (σ : St) (Q : VK) (u : Value) (s' : Shared) : Prop:=∃ v H',Inv X pins σ H' s' ∧ RelV v u ∧ Q v H'
noncomputable def TP (X : Cx) (pins : List (Addr × Obj)) (σ : St) (Q : Bool → Hp → Prop) (b : Bool) (s' : Shared) : Prop:=∃ H',Inv X pins σ H' s' ∧ Q b H'
noncomputable def AP (X : Cx) (pins : List (Addr × Obj)) (σ : St) (Q : List V → Hp → Prop) (us : List Value) (s' : Shared) : Prop:=∃ vs H',Inv X pins σ H' s' ∧ Vals vs us ∧ Q vs H'
noncomputable def SP (X : Cx) (pins : List (Addr × Obj)) (D : Ends) (f : Flow) (s' : Shared) : Prop :=
 match f with
 | .next=>∃ σ' H',Inv X pins σ' H' s' ∧ D.nx σ' H'
 | .brk=>∃ σ' H',Inv X pins σ' H' s' ∧ D.bk σ' H'
 | .cont=>∃ σ' H',Inv X pins σ' H' s' ∧ D.ct σ' H'
 | .ret u=>∃ v σ' H',Inv X pins σ' H' s' ∧ RelV v u ∧ D.rt v H'
noncomputable def PE (X : Cx) (e : Expr) (t : TE) : Prop :=
 ∀ (pins : List (Addr × Obj)) (s : Shared) (σ : St) (H : Hp) (Q : VK),Inv X pins σ H s → t σ H Q → wpAny (model X.prog X.w) X.A (eval e X.env) (EP X pins σ Q) X.xe s
noncomputable def PT (X : Cx) (e : Expr) (t : TT) : Prop :=
 ∀ (pins : List (Addr × Obj)) (s : Shared) (σ : St) (H : Hp) (Q : Bool → Hp → Prop),Inv X pins σ H s → t σ H Q → wpAny (model X.prog X.w) X.A (isTrue e X.env (eval e X.env)) (TP X pins σ Q) X.xe s
noncomputable def PW (X : Cx) (e : Expr) (t : TT) : Prop :=
 ∀ (whole : Sem Value) (pins : List (Addr × Obj)) (s : Shared) (σ : St) (H : Hp) (Q : Bool → Hp → Prop),Inv X pins σ H s → t σ H Q → wpAny (model X.prog X.w) X.A (isTrue e X.env whole) (TP X pins σ Q) X.xe s
theorem PW.pt {X : Cx} {e : Expr} {t : TT} (h : PW X e t) : PT X e t:=h _
noncomputable def PA (X : Cx) (es : List Expr) (t : TA) : Prop :=
 ∀ (pos : Pos) (pins : List (Addr × Obj)) (s : Shared) (σ : St) (H : Hp) (Q : List V → Hp → Prop),Inv X pins σ H s → t σ H Q → wpAny (model X.prog X.w) X.A (spliced (backTo pos (starEach es X.env))) (AP X pins σ Q) X.xe s
noncomputable def PS (X : Cx) (st : Stmt) (t : TS) : Prop :=
 ∀ (pins : List (Addr × Obj)) (s : Shared) (σ : St) (H : Hp) (D : Ends),Inv X pins σ H s → t D σ H → wpAny (model X.prog X.w) X.A (exec st X.env) (SP X pins D) X.xe s
noncomputable def PSs (X : Cx) (st : List Stmt) (t : TS) : Prop :=
 ∀ (pins : List (Addr × Obj)) (s : Shared) (σ : St) (H : Hp) (D : Ends),Inv X pins σ H s → t D σ H → wpAny (model X.prog X.w) X.A (execs st X.env) (SP X pins D) X.xe s
theorem thn {α : Type} {t : Sem α} {Q Q' : α → Shared → Prop} {M : Model} {A : Around} {E : Value → Shared → Prop} {s : Shared} (h : wpAny M A t Q E s) (hQ : ∀ a s,Q a s → Q' a s) : wpAny M A t Q' E s:=wpAny_mono h hQ fun _ _ x=>x
end L2
namespace L2
open PySem PySem.Spec PyProof.Rows
section
variable {X : Cx}
noncomputable def tVar (i : Nat) : TE:=fun σ H Q=>∃ v,σ[i]? = some (some v) ∧ Q v H
noncomputable def tC (v : V) : TE:=fun _ H Q=>Q v H
theorem J8N {i : Nat} {x : Str} {pos : Pos} (hN : X.N[i]? = some x) (hv : Vis X.env.scope x) (hd : (x == ("__debug__" : Str)) = false:=by decide) (hcd : (x == ("__classdict__" : Str)) = false:=by decide) : PE X (.Name x pos) (tVar i):=by
 intro pins s σ H Q I h
 obtain ⟨v,e,h⟩:=h
 obtain ⟨m,hn,hl⟩:=I.loc
 obtain ⟨u,r,l⟩:=hl i x v hN e hv
 have fin : EP X pins σ Q u s:=⟨v,H,I,r,h⟩
 rcases l with ⟨hk,hm⟩ | ⟨hk,c,hc,hcell⟩
 ·exact wpAny_Name (wpAny_loadName_local I.ok.kind hk hn hm fin) hd
 ·rcases hk with hk | hk
  ·exact wpAny_Name (wpAny_loadName_cell I.ok.kind hk hc hcell fin) hd
  ·exact wpAny_Name (wpAny_loadName_free I.ok.kind hk hc hcell fin hcd) hd
theorem J2 {i j pos} : PE X (.Constant (.int i) j pos) (tC (.int i)):=fun _ _ _ H _ I h=>wpAny_Constant_int ⟨.int i,H,I.tok _,⟨_,rfl⟩,h⟩
theorem J0H {b j pos} : PE X (.Constant (.bool b) j pos) (tC (.bl b)):=fun _ _ _ H _ I h=>Constant_bool ⟨.bl b,H,I,rfl,h⟩
theorem Jca {x j pos} : PE X (.Constant (.str x) j pos) (tC (.str x)):=fun _ _ _ H _ I h=>Calls.Constant_str ⟨.str x,H,I.tok _,⟨_,rfl⟩,h⟩
noncomputable def Gl (X : Cx) (x : Str) : Prop:=X.env.kindOf x = some .globalImplicit
theorem J6Q {E : Value → Shared → Prop} {pins : List (Addr × Obj)} {s : Shared} {σ : St} {H : Hp} {x : Str} {u : Value} {pos : Pos} {Q : Value → Shared → Prop} (I : Inv X pins σ H s) (hg : Gl X x) (hm : X.mg x = some u) (h : Q u s)
  (hd : (x == ("__debug__" : Str)) = false:=by decide) : wpAny (model X.prog X.w) X.A (eval (.Name x pos) X.env) Q E s :=
 Calls.Name_function_global I.ok.kind hg (Calls.loadGlobal_global (by rw [I.ok.glob]; exact I.mod.glob.keeps I.bk) hm h) hd
theorem J2r {E : Value → Shared → Prop} {pins : List (Addr × Obj)} {s : Shared} {σ : St} {H : Hp} {x : Str} {u : Value} {pos : Pos} {Q : Value → Shared → Prop} (I : Inv X pins σ H s) (hg : Gl X x) (hm : X.mg x = none) (hv : bootBuiltins x = some u) (h : Q u s)
  (hn : x ≠ "__name__":=by decide) (hd : (x == ("__debug__" : Str)) = false:=by decide) : wpAny (model X.prog X.w) X.A (eval (.Name x pos) X.env) Q E s:=by
 obtain ⟨mb,h1,h2⟩:=I.mod.blt
 exact Calls.Name_function_global I.ok.kind hg (Calls.loadGlobal_builtin (by rw [I.ok.glob]; exact I.mod.glob.keeps I.bk) hm (by rw [I.ok.blt]; exact h1.keeps I.bk) ((h2 x hn).trans hv) h) hd
theorem J9V {x : Str} {v : V} {u : Value} {pos : Pos} (hg : Gl X x) (hm : X.mg x = none) (hv : bootBuiltins x = some u) (r : RelV v u) (hn : x ≠ "__name__":=by decide) (hd : (x == ("__debug__" : Str)) = false:=by decide) : PE X (.Name x pos) (tC v) :=
 fun _ _ _ H _ I h=>J2r I hg hm hv ⟨v,H,I,r,h⟩ hn hd
variable {a b : Expr} {ta tb : TE} {pos : Pos}
noncomputable def PC (X : Cx) (op : CmpOp) (a b : Expr) (t : TE) : Prop :=
 ∀ (pins : List (Addr × Obj)) (s : Shared) (σ : St) (H : Hp) (Q : VK),Inv X pins σ H s → t σ H Q →
  wpAny (model X.prog X.w) X.A (eval a X.env) (fun v s₁=>wpAny (model X.prog X.w) X.A (eval b X.env) (fun u s₂=>wpAny (model X.prog X.w) X.A (compareOp op v u) (EP X pins σ Q) X.xe s₂) X.xe s₁) X.xe s
noncomputable def tB (t : TE) : TT:=fun σ H Q=>t σ H fun x H1=>∃ c,x = .bl c ∧ Q c H1
theorem J4S {op : CmpOp} {t : TE} (h : PC X op a b t) (h1 : behindInMarks op b = false:=by first | exact nobehind _ (by decide) (by decide) | rfl) : PT X (.Compare a [op] [b] pos) (tB t):=by
 intro pins s σ H Q I hw
 refine wpAny_isTrue_Compare1 (thn (h pins s σ H _ I hw) fun v s1 h1=>thn h1 fun u s2 h2=>thn h2 fun c s3 ⟨x,H1,I1,r1,q1⟩=>?_) h1
 obtain ⟨d,rfl,q⟩:=q1
 cases r1
 exact wpAny_truthy_bool ⟨H1,I1,q⟩
theorem J0A {e : Expr} {t : TE} (h : PE X e t) (he : ∀ whole,isTrue e X.env whole = (do let v ← whole; standAt e.pos; holding [v] (truthy v)):=by intro _; rfl) : PT X e (tB t):=by
 intro pins s σ H Q I hw
 refine isTrue_plain (thn (h pins s σ H _ I hw) fun v s1 ⟨x,H1,I1,r1,q1⟩=>?_) (he _)
 obtain ⟨d,rfl,q⟩:=q1
 cases r1
 exact wpAny_truthy_bool ⟨H1,I1,q⟩
variable {tA tB' : TT} {rest : List Expr}
noncomputable def tAnd (t u : TT) : TT:=fun σ H Q=>t σ H fun c H1=>if c = true then u σ H1 Q else Q false H1
noncomputable def tOr (t u : TT) : TT:=fun σ H Q=>t σ H fun c H1=>if c = true then Q true H1 else u σ H1 Q
noncomputable def tNot (t : TT) : TT:=fun σ H Q=>t σ H fun c H1=>Q (!c) H1
theorem J0X (ha : PT X a tA) : PW X (.BoolOp .And [a] pos) tA:=by
 intro wh pins s σ H Q I h
 refine isTrue_and (thn (ha pins s σ H Q I h) fun c s1 e=>?_)
 cases c with
 | true=>exact isTrue_and_nil e
 | false=>exact e
theorem J1w (ha : PT X a tA) : PW X (.BoolOp .Or [a] pos) tA:=by
 intro wh pins s σ H Q I h
 refine isTrue_or (thn (ha pins s σ H Q I h) fun c s1 e=>?_)
 cases c with
 | false=>exact isTrue_or_nil e
 | true=>exact e
theorem J1x (ha : PT X a tA) (hb : PW X (.BoolOp .And (b :: rest) pos) tB') : PW X (.BoolOp .And (a :: b :: rest) pos) (tAnd tA tB'):=by
 intro wh pins s σ H Q I h
 refine isTrue_and (thn (ha pins s σ H _ I h) fun c s1 ⟨H1,I1,q1⟩=>?_)
 cases c with
 | true=>exact hb wh pins s1 σ H1 Q I1 q1
 | false=>exact ⟨H1,I1,q1⟩
theorem J1E (ha : PT X a tA) (hb : PW X (.BoolOp .Or (b :: rest) pos) tB') : PW X (.BoolOp .Or (a :: b :: rest) pos) (tOr tA tB'):=by
 intro wh pins s σ H Q I h
 refine isTrue_or (thn (ha pins s σ H _ I h) fun c s1 ⟨H1,I1,q1⟩=>?_)
 cases c with
 | true=>exact ⟨H1,I1,q1⟩
 | false=>exact hb wh pins s1 σ H1 Q I1 q1
theorem J0U (ha : PT X a tA) : PT X (.UnaryOp .Not a pos) (tNot tA):=by
 intro pins s σ H Q I h
 exact isTrue_not (ha pins s σ H (fun c H1=>Q (!c) H1) I h)
noncomputable def Jcs (ta tb : TE) : TE:=fun σ H Q=>ta σ H fun x H1=>∃ c,x = .bl c ∧ if c = true then tb σ H1 Q else Q (.bl false) H1
noncomputable def tOrV (ta tb : TE) : TE:=fun σ H Q=>ta σ H fun x H1=>∃ c,x = .bl c ∧ if c = true then Q (.bl true) H1 else tb σ H1 Q
noncomputable def Jck (ta : TE) : TE:=fun σ H Q=>ta σ H fun x H1=>∃ c,x = .bl c ∧ Q (.bl (!c)) H1
theorem J4Z {op} {t : TE} (h : PE X a t) : PE X (.BoolOp op [a] pos) t:=fun pins s σ H Q I hw=>BoolOp_one (h pins s σ H Q I hw)
theorem J4N (ha : PE X a ta) (hb : PE X (.BoolOp .And (b :: rest) pos) tb) : PE X (.BoolOp .And (a :: b :: rest) pos) (Jcs ta tb):=by
 intro pins s σ H Q I h
 refine BoolOp_and (thn (ha pins s σ H _ I h) fun v s1 ⟨x,H1,I1,r1,q1⟩=>?_)
 obtain ⟨c,rfl,q1⟩:=q1
 cases r1
 refine wpAny_truthy_bool ?_
 cases c with
 | true=>exact hb pins s1 σ H1 Q I1 q1
 | false=>exact ⟨.bl false,H1,I1,rfl,q1⟩
theorem Jcd (ha : PE X a ta) (hb : PE X (.BoolOp .Or (b :: rest) pos) tb) : PE X (.BoolOp .Or (a :: b :: rest) pos) (tOrV ta tb):=by
 intro pins s σ H Q I h
 refine BoolOp_or (thn (ha pins s σ H _ I h) fun v s1 ⟨x,H1,I1,r1,q1⟩=>?_)
 obtain ⟨c,rfl,q1⟩:=q1
 cases r1
 refine wpAny_truthy_bool ?_
 cases c with
 | false=>exact hb pins s1 σ H1 Q I1 q1
 | true=>exact ⟨.bl true,H1,I1,rfl,q1⟩
theorem J9v (ha : PE X a ta) : PE X (.UnaryOp .Not a pos) (Jck ta):=by
 intro pins s σ H Q I h
 refine UnaryOp_ (thn (ha pins s σ H _ I h) fun v s1 ⟨x,H1,I1,r1,q1⟩=>?_)
 obtain ⟨c,rfl,q1⟩:=q1
 cases r1
 exact not_of (wpAny_truthy_bool ⟨.bl (!c),H1,I1,rfl,q1⟩)
noncomputable def tIf (t : TT) (ta tb : TE) : TE:=fun σ H Q=>t σ H fun c H1=>if c = true then ta σ H1 Q else tb σ H1 Q
theorem J5x {c : Expr} (hc : PT X c tA) (ha : PE X a ta) (hb : PE X b tb) : PE X (.IfExp c a b pos) (tIf tA ta tb):=by
 intro pins s σ H Q I h
 refine wpAny_IfExp (thn (hc pins s σ H _ I h) fun d s1 ⟨H1,I1,q1⟩=>?_)
 cases d with
 | true=>exact ha pins s1 σ H1 Q I1 q1
 | false=>exact hb pins s1 σ H1 Q I1 q1
end
end L2
namespace L2
open PySem PySem.Spec PyProof.Rows
noncomputable def SqL (K : PySem.W.Frag) (H : Hp) (a : Addr) (xs : List V) : Prop :=
 Rd H a (.lst xs) ∨
  ∃ (o : Obj) (its : Array Value) (n : Nat),K.lookup a = some o ∧ o.cls = .type "list" ∧ o.dict = none ∧ o.data = .seq its n ∧ its.size ≤ sizeLine ∧ Vals xs its.toList
noncomputable def SqT (K : PySem.W.Frag) (H : Hp) (a : Addr) (xs : List V) : Prop :=
 Rd H a (.tup xs) ∨
  ∃ (o : Obj) (its : Array Value) (n : Nat),K.lookup a = some o ∧ o.cls = .type "tuple" ∧ o.data = .seq its n ∧ its.size ≤ sizeLine ∧ Vals xs its.toList
noncomputable def absV : Value → Option V
 | .none=>some .non
 | .bool b=>some (.bl b)
 | .int i _=>some (.int i)
 | .str x _=>some (.str x)
 | .bytes b _=>some (.byt b)
 | .float b _=>some (.flt b)
 | .ref a=>some (.ref a)
 | .type n=>some (.ty n)
 | _=>none
theorem RelV.abs {x : V} {u : Value} (r : RelV x u) : absV u = some x:=by
 cases x with
 | non=>cases r; rfl
 | bl _=>cases r; rfl
 | int _=>obtain ⟨t,rfl⟩:=r; rfl
 | str _=>obtain ⟨t,rfl⟩:=r; rfl
 | byt _=>obtain ⟨t,rfl⟩:=r; rfl
 | flt _=>obtain ⟨t,rfl⟩:=r; rfl
 | ref _=>cases r; rfl
 | ty _=>cases r; rfl
theorem RelV.inj {x y : V} {u : Value} (r : RelV x u) (q : RelV y u) : x = y:=Option.some.inj (r.abs.symm.trans q.abs)
theorem Vals.inj : ∀ {xs ys : List V} {us : List Value},Vals xs us → Vals ys us → xs = ys
 | _,_,_,.nil,.nil=>rfl
 | _,_,_,.cons r t,.cons r' t'=>by rw [r.inj r',Vals.inj t t']
section
variable {X : Cx} {pins : List (Addr × Obj)} {σ : St} {H : Hp} {s : Shared} {a : Addr} {xs ys : List V}
theorem SqL.of {K : PySem.W.Frag} (h : H a = some (.lst xs)) : SqL K H a xs:=.inl (.inl h)
theorem SqT.of {K : PySem.W.Frag} (h : H a = some (.tup xs)) : SqT K H a xs:=.inl (.inl h)
theorem Inv.list (I : Inv X pins σ H s) (h : SqL X.K H a xs) : ∃ its : List Value,Vals xs its ∧ PlainL s.heap a its.toArray ∧ xs.length ≤ sizeLine:=by
 rcases h with h | ⟨o,its,n,hk,hc,hd,hs,hz,r⟩
 ·obtain ⟨z,its,n,r,e⟩:=h.ok I.hok
  exact ⟨its,r,⟨_,n,e,rfl,rfl,rfl⟩,z⟩
 ·refine ⟨its.toList,r,⟨o,n,I.kIn a o hk,hc,hd,by simpa using hs⟩,?_⟩
  have e:=r.length
  simp only [Array.length_toList] at e
  omega
theorem Inv.tuple (I : Inv X pins σ H s) (h : SqT X.K H a xs) : ∃ its : List Value,Vals xs its ∧ IsTup s.heap a its.toArray ∧ xs.length ≤ sizeLine:=by
 rcases h with h | ⟨o,its,n,hk,hc,hs,hz,r⟩
 ·obtain ⟨z,its,r,p⟩:=h.ok I.hok
  exact ⟨its,r,p,z⟩
 ·refine ⟨its.toList,r,⟨o,I.kIn a o hk,hc,n,by simpa using hs⟩,?_⟩
  have e:=r.length
  simp only [Array.length_toList] at e
  omega
theorem Inv.list_inj (I : Inv X pins σ H s) (h : SqL X.K H a xs) (h' : SqL X.K H a ys) : xs = ys:=by
 obtain ⟨its,r,⟨o,n,e,_,_,d⟩,_⟩:=I.list h
 obtain ⟨its',r',⟨o',n',e',_,_,d'⟩,_⟩:=I.list h'
 rw [e] at e'; cases e'
 rw [d] at d'
 injection d' with d1 _
 have : its = its':=by simpa using congrArg Array.toList d1
 subst this
 exact r.inj r'
theorem Inv.tuple_inj (I : Inv X pins σ H s) (h : SqT X.K H a xs) (h' : SqT X.K H a ys) : xs = ys:=by
 obtain ⟨its,r,⟨o,e,_,n,d⟩,_⟩:=I.tuple h
 obtain ⟨its',r',⟨o',e',_,n',d'⟩,_⟩:=I.tuple h'
 rw [e] at e'; cases e'
 rw [d] at d'
 injection d' with d1 _
 have : its = its':=by simpa using congrArg Array.toList d1
 subst this
 exact r.inj r'
end
noncomputable abbrev Cx.wish (X : Cx) (E : Value → Shared → Prop) : Cx:={ X with xe:=E }
noncomputable abbrev Cx.nox (X : Cx) : Cx:=X.wish fun _ _=>False
theorem Cx.Ok.wish {X : Cx} (ok : X.Ok) (E : Value → Shared → Prop) : (X.wish E).Ok :=
 ⟨ok.mod,ok.kind,ok.glob,ok.blt,ok.above,ok.inj,ok.has,ok.cab,ok.hd,ok.frames,ok.stk,ok.exf,ok.bs,ok.bsz,ok.noex,ok.exfs,ok.funs,ok.frf⟩
theorem Cx.Ok.unwish {X : Cx} {E : Value → Shared → Prop} (ok : (X.wish E).Ok) : X.Ok :=
 ⟨ok.mod,ok.kind,ok.glob,ok.blt,ok.above,ok.inj,ok.has,ok.cab,ok.hd,ok.frames,ok.stk,ok.exf,ok.bs,ok.bsz,ok.noex,ok.exfs,ok.funs,ok.frf⟩
section
variable {X : Cx} {pins : List (Addr × Obj)} {σ : St} {H : Hp} {s : Shared} {E : Value → Shared → Prop}
theorem Inv.wish (I : Inv X pins σ H s) (E : Value → Shared → Prop) : Inv (X.wish E) pins σ H s:=⟨I.ok.wish E,I.os,I.bare,I.base,I.loc,I.cell,I.free,I.freeC,I.pin,I.hok,I.len⟩
theorem Inv.unwish (I : Inv (X.wish E) pins σ H s) : Inv X pins σ H s:=⟨I.ok.unwish,I.os,I.bare,I.base,I.loc,I.cell,I.free,I.freeC,I.pin,I.hok,I.len⟩
theorem SP.unwish {D : Ends} {f : Flow} {s' : Shared} (h : SP (X.wish E) pins D f s') : SP X pins D f s':=by
 cases f with
 | next=>obtain ⟨σ',H',I,q⟩:=h; exact ⟨σ',H',I.unwish,q⟩
 | brk=>obtain ⟨σ',H',I,q⟩:=h; exact ⟨σ',H',I.unwish,q⟩
 | cont=>obtain ⟨σ',H',I,q⟩:=h; exact ⟨σ',H',I.unwish,q⟩
 | ret u=>obtain ⟨v,σ',H',I,r,q⟩:=h; exact ⟨v,σ',H',I.unwish,r,q⟩
theorem PSs.nox {st : List Stmt} {t : TS} (h : PSs X.nox st t) : PSs X st t:=fun pins s σ H D I hw =>
 wpAny_mono (h pins s σ H D (I.wish _) hw) (fun _ _ q=>q.unwish) fun _ _ z=>False.elim z
end
section
variable {X : Cx} {st : Stmt} {rest : List Stmt} {t u : TS} {e : Expr} {te : TE} {pos : Pos}
noncomputable def Jcq : TS:=fun D σ H=>D.nx σ H
noncomputable def tSeq (t u : TS) : TS:=fun D σ H=>t { D with nx:=u D } σ H
theorem Ju : PSs X [] Jcq:=fun _ _ σ H _ I h=>wpAny_execs_nil ⟨σ,H,I,h⟩
theorem J5 (h1 : PS X st t) (h2 : PSs X rest u) : PSs X (st :: rest) (tSeq t u):=by
 intro pins s σ H D I h
 refine wpAny_execs_cons (thn (h1 pins s σ H { D with nx:=u D } I h) fun f s1 q=>?_)
 cases f with
 | next =>
  obtain ⟨σ',H',I',q⟩:=q
  exact h2 pins s1 σ' H' D I' q
 | ret v=>exact q
 | brk=>exact q
 | cont=>exact q
theorem Jd (h1 : PS X st t) : PSs X [st] t:=by
 intro pins s σ H D I h
 refine wpAny_execs_cons (thn (h1 pins s σ H D I h) fun f s1 q=>?_)
 cases f with
 | next=>exact wpAny_execs_nil q
 | ret v=>exact q
 | brk=>exact q
 | cont=>exact q
theorem Inv.quiet {pins : List (Addr × Obj)} {σ : St} {H : Hp} {s : Shared} (I : Inv X pins σ H s) : interactive X.env = false:=by simp [interactive,I.ok.kind]
noncomputable def Jce (te : TE) : TS:=fun D σ H=>te σ H fun _ H1=>D.nx σ H1
theorem J0K (he : PE X e te) (hs : swapsWith e none pos.line X.env = pure false:=by rfl) : PS X (.Expr e pos) (Jce te):=by
 intro pins s σ H D I h
 exact wpAny_Expr_any (thn (he pins s σ H _ I h) fun v s1 ⟨x,H1,I1,r1,q1⟩=>⟨σ,H1,I1,q1⟩) I.quiet hs
noncomputable def tRet (te : TE) : TS:=fun D σ H=>te σ H D.rt
theorem Jv (he : PE X e te) : PS X (.Return (some e) pos) (tRet te):=by
 intro pins s σ H D I h
 exact wpAny_Return_some (thn (he pins s σ H _ I h) fun v s1 ⟨x,H1,I1,r1,q1⟩=>⟨x,σ,H1,I1,r1,q1⟩)
noncomputable def tIfS (c : TT) (t u : TS) : TS:=fun D σ H=>c σ H fun b H1=>if b = true then t D σ H1 else u D σ H1
theorem JP {c : Expr} {a b : List Stmt} {tc : TT} (hc : PT X c tc) (ha : PSs X a t) (hb : PSs X b u) : PS X (.If c a b pos) (tIfS tc t u):=by
 intro pins s σ H D I h
 refine wpAny_If (thn (hc pins s σ H _ I h) fun d s1 ⟨H1,I1,q1⟩=>?_)
 cases d with
 | true=>exact ha pins s1 σ H1 D I1 q1
 | false=>exact hb pins s1 σ H1 D I1 q1
end
noncomputable abbrev TG:=V → St → Hp → (St → Hp → Prop) → Prop
noncomputable abbrev TGs:=List V → St → Hp → (St → Hp → Prop) → Prop
noncomputable def PG (X : Cx) (target : Expr) (t : TG) : Prop :=
 ∀ (pins : List (Addr × Obj)) (s : Shared) (σ : St) (H : Hp) (v : V) (u : Value) (Q : St → Hp → Prop),Inv X pins σ H s → RelV v u → t v σ H Q →
  wpAny (model X.prog X.w) X.A (assign target X.env u) (fun _ s'=>∃ σ' H',Inv X pins σ' H' s' ∧ Q σ' H') X.xe s
noncomputable def PGs (X : Cx) (ts : List Expr) (t : TGs) : Prop :=
 ∀ (pins : List (Addr × Obj)) (s : Shared) (σ : St) (H : Hp) (vs : List V) (us : List Value) (Q : St → Hp → Prop),Inv X pins σ H s → Vals vs us → t vs σ H Q →
  wpAny (model X.prog X.w) X.A (assignInOrder ((assignEach ts X.env).map (·.2)) us) (fun _ s'=>∃ σ' H',Inv X pins σ' H' s' ∧ Q σ' H') X.xe s
noncomputable abbrev TSet:=V → V → V → Hp → (Hp → Prop) → Prop
noncomputable def PSet (X : Cx) (t : TSet) : Prop :=
 ∀ (pins : List (Addr × Obj)) (s : Shared) (σ : St) (H : Hp) (o i v : V) (ov iv u : Value) (Q : Hp → Prop),Inv X pins σ H s → RelV o ov → RelV i iv → RelV v u → t o i v H Q →
  wpAny (model X.prog X.w) X.A (setItem ov iv u) (fun _ s'=>∃ H',Inv X pins σ H' s' ∧ Q H') X.xe s
noncomputable abbrev TIp:=V → V → Hp → VK → Prop
noncomputable def PIp (X : Cx) (op : Operator) (t : TIp) : Prop :=
 ∀ (pins : List (Addr × Obj)) (s : Shared) (σ : St) (H : Hp) (x y : V) (v u : Value) (Q : VK),Inv X pins σ H s → RelV x v → RelV y u → t x y H Q →
  wpAny (model X.prog X.w) X.A (inplaceOp op v u) (EP X pins σ Q) X.xe s
section
variable {X : Cx} {pos : Pos}
noncomputable def J4r (i : Nat) : TG:=fun v σ H Q=>Q (σ.set i (some v)) H
theorem Jn {i : Nat} {x : Str} (hN : X.N.Nodup) (hi : X.N[i]? = some x) (hx : Loc X.env.scope x) (hf : X.fn x = true ∨ X.env.scope.names.lookup x = some .local:=by first | exact .inl rfl | exact .inr rfl | assumption) : PG X (.Name x pos) (J4r i):=by
 intro pins s σ H v u Q I r h
 exact wpAny_assign_Name (J2A I hN hi hx r (fun s' I'=>⟨_,H,I',h⟩) hf)
noncomputable def gNil : TGs:=fun vs σ H Q=>vs = [] ∧ Q σ H
noncomputable def J8A (t : TG) (u : TGs) : TGs:=fun vs σ H Q=>∃ v r,vs = v :: r ∧ t v σ H fun σ' H'=>u r σ' H' Q
theorem J19 : PGs X [] gNil:=by
 intro pins s σ H vs us Q I r h
 obtain ⟨e,h⟩:=h
 subst e
 cases r
 exact assignInOrder_nil ⟨σ,H,I,h⟩
theorem Jx {e : Expr} {es : List Expr} {t : TG} {u : TGs} (h1 : PG X e t) (h2 : PGs X es u)
  (hs : (assignEach (e :: es) X.env).map (·.2) = assign e X.env :: (assignEach es X.env).map (·.2):=by rfl) : PGs X (e :: es) (J8A t u):=by
 intro pins s σ H vs us Q I r h
 obtain ⟨v,vr,e1,h⟩:=h
 subst e1
 cases r with
 | cons r rr =>
  rw [hs]
  refine assignInOrder_cons (thn (h1 pins s σ H _ _ _ I r h) fun _ s1 ⟨σ1,H1,I1,q1⟩=>?_)
  exact h2 pins s1 σ1 H1 _ _ Q I1 rr q1
noncomputable def gTup (K : PySem.W.Frag) (n : Nat) (t : TGs) : TG:=fun v σ H Q=>∃ a xs,v = .ref a ∧ SqT K H a xs ∧ xs.length = n ∧ t xs σ H Q
theorem J28 {es : List Expr} {k : Nat} {t : TGs} {n : Nat} (hc : X.calm = true) (h : PGs X es t)
  (hn : (assignEach es X.env).length = n:=by rfl) (hst : (assignEach es X.env).findIdx? (·.1) = none:=by rfl) : PG X (.Tuple es k pos) (gTup X.K n t):=by
 intro pins s σ H v u Q I r hw
 obtain ⟨a,xs,e1,hq,hl,hw⟩:=hw
 subst e1
 cases r
 obtain ⟨its,rv,ht,hz⟩:=I.tuple hq
 refine assign_Tuple_tuple (I.ok.hd hc) ht (by simp [hn,← hl,rv.length]) hst fun h' hx=>?_
 have I1 : Inv X pins σ H { s with heap:=h' }:=I.kept (t':=s.toks) fun b o e=>hx b o (Nat.ne_of_lt (Heap.lt_size e)) e
 exact h pins _ σ H xs _ Q I1 (by simpa using rv) hw
noncomputable def gSub (to ti : TE) (t : TSet) : TG:=fun v σ H Q=>to σ H fun o H1=>ti σ H1 fun i H2=>t o i v H2 fun H3=>Q σ H3
theorem J4O {o i : Expr} {to ti : TE} {t : TSet} (ho : PE X o to) (hi : PE X i ti) (hs : PSet X t)
  (ha : ∀ v,assign (.Subscript o i pos) X.env v = (do
   let ov ← holding [v] (eval o X.env)
   let iv ← holding [v,ov] (eval i X.env)
   standAt pos
   holding [v,ov,iv] (setItem ov iv v)
   release [v,ov,iv] []):=by intro _; rfl) : PG X (.Subscript o i pos) (gSub to ti t):=by
 intro pins s σ H v u Q I r h
 rw [ha]
 refine wpAny_bind (wpAny_holding (thn (ho pins s σ H _ I h) fun ov s1 ⟨x,H1,I1,r1,q1⟩=>?_))
 refine wpAny_bind (wpAny_holding (thn (hi pins s1 σ H1 _ I1 q1) fun iv s2 ⟨y,H2,I2,r2,q2⟩=>?_))
 refine wpAny_bind (wpAny_standAt (wpAny_bind (wpAny_holding (thn (hs pins s2 σ H2 x y v ov iv u _ I2 r1 r2 r q2) fun _ s3 ⟨H3,I3,q3⟩=>?_))))
 exact wpAny_release ⟨σ,H3,I3,q3⟩
noncomputable def tAsg (te : TE) (g : TG) : TS:=fun D σ H=>te σ H fun x H1=>g x σ H1 D.nx
theorem J4J {tg e : Expr} {te : TE} {g : TG} (he : PE X e te) (hg : PG X tg g) (hs : swapsWithSole [tg] e pos.line X.env = pure false:=by rfl) (hw : swappedStores [tg] e X.env = pure none:=by rfl)
  (h1 : (assignEach [tg] X.env).map (·.2) = [assign tg X.env]:=by rfl) : PS X (.Assign [tg] e pos) (tAsg te g):=by
 intro pins s σ H D I h
 refine wpAny_Assign_stores (thn (he pins s σ H _ I h) fun v s1 ⟨x,H1,I1,r1,q1⟩=>?_) hs hw
 rw [h1]
 exact thn (hg pins s1 σ H1 x v _ I1 r1 q1) fun _ s2 q=>q
theorem Jo {i : Nat} {x : Str} {e : Expr} {te : TE} {pos' : Pos} (hN : X.N.Nodup) (hi : X.N[i]? = some x) (hx : Loc X.env.scope x) (he : PE X e te) (hs : swapsWith e (some (.Name x pos')) pos.line X.env = pure false:=by rfl) (hf : X.fn x = true ∨ X.env.scope.names.lookup x = some .local:=by first | exact .inl rfl | exact .inr rfl | assumption) :
  PS X (.Assign [.Name x pos'] e pos) (tAsg te (J4r i)):=by
 intro pins s σ H D I h
 refine wpAny_Assign_Name (thn (he pins s σ H _ I h) fun v s1 ⟨y,H1,I1,r1,q1⟩=>?_) hs
 exact J2A I1 hN hi hx r1 (fun s2 I2=>⟨_,H1,I2,q1⟩) hf
noncomputable def tAug (i : Nat) (te : TE) (ti : TIp) : TS:=fun D σ H=>∃ x,σ[i]? = some (some x) ∧ te σ H fun y H1=>ti x y H1 fun z H2=>D.nx (σ.set i (some z)) H2
theorem Jc2 {i : Nat} {x : Str} {e : Expr} {te : TE} {op : Operator} {ti : TIp} {pos' : Pos} (hN : X.N.Nodup) (hi : X.N[i]? = some x) (hx : Loc X.env.scope x) (he : PE X e te) (ho : PIp X op ti) (hf : X.fn x = true ∨ X.env.scope.names.lookup x = some .local:=by first | exact .inl rfl | exact .inr rfl | assumption) :
  PS X (.AugAssign (.Name x pos') op e pos) (tAug i te ti):=by
 intro pins s σ H D I h
 obtain ⟨v,e1,h⟩:=h
 obtain ⟨m,hn,hl⟩:=I.loc
 have vis : Vis X.env.scope x:=by rcases hx with k | k; exact .inl k; exact .inr (.inl k)
 obtain ⟨u,r,l⟩:=hl i x v hi e1 vis
 refine wpAny_AugAssign_Name ?_
 have go : wpAny (model X.prog X.w) X.A (eval e X.env) (fun w s₂=>wpAny (model X.prog X.w) X.A (inplaceOp op u w) (fun r s₃=>wpAny (model X.prog X.w) X.A (storeName X.env x r) (fun _=>SP X pins D .next) X.xe s₃) X.xe s₂) X.xe s:=by
  refine thn (he pins s σ H _ I h) fun w s1 ⟨y,H1,I1,r1,q1⟩=>?_
  refine thn (ho pins s1 σ H1 v y u w _ I1 r r1 q1) fun z s2 ⟨zv,H2,I2,r2,q2⟩=>?_
  exact J2A I2 hN hi hx r2 (fun s3 I3=>⟨_,H2,I3,q2⟩) hf
 rcases l with ⟨hk,hm⟩ | ⟨hk,c,hc,hcell⟩
 ·exact wpAny_loadName_local I.ok.kind hk hn hm go
 ·rcases hk with hk | hk
  ·exact wpAny_loadName_cell I.ok.kind hk hc hcell go
  ·rcases hx with k | k
   ·have : X.env.scope.names.lookup x = some .free:=hk
    rw [k] at this; cases this
   ·have : X.env.scope.names.lookup x = some .free:=hk
    rw [k] at this; cases this
noncomputable def Jcx (to ti te : TE) (tget : V → V → Hp → VK → Prop) (tip : TIp) (tset : TSet) : TS:=fun D σ H=>to σ H fun o H1=>ti σ H1 fun i H2=>tget o i H2 fun x H3=>te σ H3 fun y H4=>tip x y H4 fun z H5=>tset o i z H5 fun H6=>D.nx σ H6
noncomputable def PGet (X : Cx) (t : V → V → Hp → VK → Prop) : Prop :=
 ∀ (pins : List (Addr × Obj)) (s : Shared) (σ : St) (H : Hp) (o i : V) (ov iv : Value) (Q : VK),Inv X pins σ H s → RelV o ov → RelV i iv → t o i H Q →
  wpAny (model X.prog X.w) X.A (getItem ov iv) (EP X pins σ Q) X.xe s
theorem J2i {o i e : Expr} {to ti te : TE} {tget : V → V → Hp → VK → Prop} {tip : TIp} {tset : TSet} {op : Operator} {tpos : Pos} (ho : PE X o to) (hi : PE X i ti) (hg : PGet X tget) (he : PE X e te) (hp : PIp X op tip) (hs : PSet X tset)
  (ha : ∀ ov iv new,augStore i ov iv new = (do holding [new,ov,iv] (setItem ov iv new); release [new,ov,iv] []; pure .next):=by intros; rfl) : PS X (.AugAssign (.Subscript o i tpos) op e pos) (Jcx to ti te tget tip tset):=by
 intro pins s σ H D I h
 refine wpAny_AugAssign_SubscriptAny (thn (ho pins s σ H _ I h) fun ov s1 ⟨x1,H1,I1,r1,q1⟩=>?_) ha
 refine thn (hi pins s1 σ H1 _ I1 q1) fun iv s2 ⟨x2,H2,I2,r2,q2⟩=>?_
 refine thn (hg pins s2 σ H2 x1 x2 ov iv _ I2 r1 r2 q2) fun old s3 ⟨x3,H3,I3,r3,q3⟩=>?_
 refine thn (he pins s3 σ H3 _ I3 q3) fun v s4 ⟨x4,H4,I4,r4,q4⟩=>?_
 refine thn (hp pins s4 σ H4 x3 x4 old v _ I4 r3 r4 q4) fun new s5 ⟨x5,H5,I5,r5,q5⟩=>?_
 exact thn (hs pins s5 σ H5 x1 x2 x5 ov iv new _ I5 r1 r2 r5 q5) fun _ s6 ⟨H6,I6,q6⟩=>⟨σ,H6,I6,q6⟩
noncomputable def ipI (f : Int → Int → Int) : TIp:=fun x y H Q=>∃ i j,x = .int i ∧ y = .int j ∧ Q (.int (f i j)) H
theorem J3O : PIp X .Add (ipI fun i j=>i + j):=by
 intro pins s σ H x y v u Q I r1 r2 h
 obtain ⟨i,j,e1,e2,q⟩:=h
 subst e1; subst e2
 obtain ⟨t,rfl⟩:=r1
 obtain ⟨t',rfl⟩:=r2
 exact iadd_int ⟨.int _,H,I.tok _,⟨_,rfl⟩,q⟩
theorem J9e : PIp X .Sub (ipI fun i j=>i - j):=by
 intro pins s σ H x y v u Q I r1 r2 h
 obtain ⟨i,j,e1,e2,q⟩:=h
 subst e1; subst e2
 obtain ⟨t,rfl⟩:=r1
 obtain ⟨t',rfl⟩:=r2
 exact isub_int ⟨.int _,H,I.tok _,⟨_,rfl⟩,q⟩
end
section
variable {X : Cx} {pos : Pos}
noncomputable def J8E (c : TT) (tb : TS) : TS:=fun D σ H=>∃ W : Nat → St → Hp → Prop,(∃ m,W m σ H) ∧ ∀ m σ H,W m σ H →
 c σ H fun b H1=>if b = true then ∃ N : St → Hp → Prop,(∀ σ' H',N σ' H' → ∃ m',m' < m ∧ W m' σ' H') ∧ tb { D with nx:=N,ct:=N,bk:=D.nx } σ H1 else D.nx σ H1
theorem J3J {c : Expr} {body : List Stmt} {tc : TT} {tb : TS} (hp : PassesOwn (model X.prog X.w) X.A X.env X.xe) (hc : PT X c tc) (hb : PSs X body tb) : PS X (.While c body [] pos) (J8E tc tb):=by
 intro pins s σ H D I h
 obtain ⟨W,⟨m0,w0⟩,turn⟩:=h
 refine wpAny_While (codeAny_whileLoop (fun n s'=>∃ σ' H',Inv X pins σ' H' s' ∧ W n σ' H') ?_ m0 ⟨σ,H,I,w0⟩)
 rintro n s1 ⟨σ1,H1,I1,w1⟩
 refine wpAny_passesOwn hp (thn (hc pins s1 σ1 H1 _ I1 (turn n σ1 H1 w1)) fun b s2 ⟨H2,I2,q2⟩=>?_)
 cases b with
 | true =>
  obtain ⟨N,hN,q2⟩:=q2
  rw [if_pos rfl]
  refine wpAny_passesOwn hp (thn (hb pins s2 σ1 H2 _ I2 q2) fun f s3 q3=>?_)
  cases f with
  | next =>
   obtain ⟨σ3,H3,I3,n3⟩:=q3
   obtain ⟨m',hm,w3⟩:=hN σ3 H3 n3
   exact ⟨m',hm,σ3,H3,I3,w3⟩
  | cont =>
   obtain ⟨σ3,H3,I3,n3⟩:=q3
   obtain ⟨m',hm,w3⟩:=hN σ3 H3 n3
   exact ⟨m',hm,σ3,H3,I3,w3⟩
  | brk=>exact q3
  | ret v=>exact q3
 | false =>
  rw [if_neg Bool.false_ne_true]
  exact wpAny_execs_nil ⟨σ1,H2,I2,q2⟩
end
structure It where
 go : Nat → Hp → Prop
 yld : Nat → Hp → V → Hp → Prop
 stop : Nat → Hp → Prop
noncomputable def FpOk (X : Cx) (pins : List (Addr × Obj)) (H : Hp) (b : Addr) : Prop :=
 H b = none ∧ b ≠ X.env.locals ∧ b ∉ X.fs ∧ (b ∈ X.ex ∨ X.s₀.heap.objs.size ≤ b) ∧ (∀ x c,X.env.cells.lookup x = some c → c ≠ b) ∧ ∀ p ∈ X.pn ++ pins,p.1 ≠ b
theorem Inv.fpOk {X : Cx} {pins : List (Addr × Obj)} {σ : St} {H H' : Hp} {s : Shared} {b : Addr} (I : Inv X pins σ H s) (hb : s.heap.objs.size ≤ b) (hn : H' b = none) : FpOk X pins H' b:=by
 refine ⟨hn,Nat.ne_of_gt (Nat.lt_of_lt_of_le I.lt hb),I.nofs hb,.inr (Nat.le_trans I.sz hb),fun x c e z=>?_,fun p hp z=>?_⟩
 ·obtain ⟨v,q⟩:=I.cell x c e
  exact absurd (Nat.lt_of_lt_of_le q.lt (by rw [z]; exact hb)) (Nat.lt_irrefl _)
 ·exact absurd (Nat.lt_of_lt_of_le (Heap.lt_size (I.pin p hp).1) (by rw [z]; exact hb)) (Nat.lt_irrefl _)
structure Turn (P : Program) (w : World) (K : PySem.W.Frag) (tg : Expr) (J : It) (fp : List Addr) (it : Addr) (tn : Nat → Heap → Prop) : Prop where
 mem : it ∈ fp
 obj : ∀ i h,tn i h → ∀ b ∈ fp,∃ o,h.get? b = some o ∧ ∀ v,o.data ≠ .cell v
 keep : ∀ i h h',tn i h → (∀ b ∈ fp,∀ o,h.get? b = some o → h'.get? b = some o) → tn i h'
 item : ∀ (X : Cx),X.prog = P → X.w = w → X.K = K → X.calm = true → ∀ (i : Nat) (pins : List (Addr × Obj)) (s : Shared) (σ : St) (H : Hp) (E : Value → Shared → Prop),Inv X pins σ H s → (∀ b ∈ fp,FpOk X pins H b) → tn i s.heap → J.go i H →
  wpAny (model P w) X.A (pyNext (.ref it)) (fun r s1=>∃ u,r = some u ∧
   wpAny (model P w) X.A (letOwnedTupleGo tg (.ref it) u) (fun _ s2=>∃ x H',Inv X pins σ H' s2 ∧ RelV x u ∧ J.yld i H x H' ∧ tn (i + 1) s2.heap ∧ ∀ b ∈ fp,H' b = none) E s1) E s
 done : ∀ (X : Cx),X.prog = P → X.w = w → X.K = K → X.calm = true → ∀ (i : Nat) (pins : List (Addr × Obj)) (s : Shared) (σ : St) (H : Hp) (E : Value → Shared → Prop),Inv X pins σ H s → (∀ b ∈ fp,FpOk X pins H b) → tn i s.heap → J.stop i H →
  wpAny (model P w) X.A (pyNext (.ref it)) (fun r s1=>r = none ∧ Inv X pins σ H s1) E s
 self : ∀ (A : Around) (i : Nat) (s : Shared) (Q : Value → Shared → Prop) (E : Value → Shared → Prop),tn i s.heap → Q (.ref it) s → wpAny (model P w) A (pyIter (.ref it)) Q E s
noncomputable abbrev TI:=St → Hp → (It → Hp → Prop) → Prop
noncomputable def PIE (X : Cx) (pins : List (Addr × Obj)) (σ : St) (tg : Expr) (R : It → Hp → Prop) (itv : Value) (s2 : Shared) : Prop :=
 ∃ (it : Addr) (fp : List Addr) (tn : Nat → Heap → Prop) (J : It) (H' : Hp),itv = .ref it ∧ Inv X pins σ H' s2 ∧ Turn X.prog X.w X.K tg J fp it tn ∧ tn 0 s2.heap ∧ (∀ b ∈ fp,FpOk X pins H' b) ∧ R J H'
noncomputable def PI (X : Cx) (tg iter : Expr) (wi : TI) : Prop :=
 ∀ (pins : List (Addr × Obj)) (s : Shared) (σ : St) (H : Hp) (R : It → Hp → Prop),Inv X pins σ H s → wi σ H R →
  wpAny (model X.prog X.w) X.A (eval iter X.env) (fun v s1=>wpAny (model X.prog X.w) X.A (pyIter v) (PIE X pins σ tg R) X.xe s1) X.xe s
theorem Jas {M : Model} {A : Around} {E : Value → Shared → Prop} {s : Shared} {tg : Expr} {it : Addr} {u : Value} {o : Obj} {n : String} {vs : Array Value} {Q : Unit → Shared → Prop} (ho : s.heap.get? it = some o) (hc : o.cls = .type n) (hd : o.data = .fields vs)
    (hn : ["enumerate","zip","dict_itemiterator","dict_reverseitemiterator","odict_iterator","itertools.zip_longest","itertools.pairwise"].contains n = false) (hQ : Q () s) : wpAny M A (letOwnedTupleGo tg (.ref it) u) Q E s:=by
  unfold letOwnedTupleGo
  cases tg <;> first
    | exact wpAny_pure hQ
    | (cases u <;> first
        | exact wpAny_pure hQ
        | (refine wpAny_bind (wpAny_load ho ?_)
           rw [hc,hd]
           show wpAny M A (if (["enumerate","zip","dict_itemiterator","dict_reverseitemiterator","odict_iterator","itertools.zip_longest","itertools.pairwise"].contains n && vs[0]? == some (rawInt _)) = true then _ else _) Q E s
           rw [if_neg (by intro h; rw [hn,Bool.false_and] at h; cases h)]
           exact wpAny_pure hQ))
noncomputable def Itl (K : PySem.W.Frag) (a : Addr) : It :=
 ⟨fun i H=>∃ xs x,SqL K H a xs ∧ xs[i]? = some x,fun i H x H'=>H' = H ∧ ∀ xs,SqL K H a xs → xs[i]? = some x,fun i H=>∃ xs,SqL K H a xs ∧ xs.length ≤ i⟩
noncomputable def Itr (lo : Int) (n : Nat) : It:=⟨fun i _=>i < n,fun i H x H'=>H' = H ∧ x = .int (lo + i),fun i _=>n ≤ i⟩
theorem J80 {P : Program} {w : World} {K : PySem.W.Frag} {tg : Expr} (a it : Addr) : Turn P w K tg (Itl K a) [it] it (fun i h=>h.IsListIter it a i) where
 mem:=by simp
 obj:=fun i h st b hb=>by
  have e : b = it:=by simpa using hb
  subst e
  obtain ⟨o,e,c,d⟩:=st
  exact ⟨o,e,fun v z=>by rw [d] at z; cases z⟩
 keep:=fun i h h' st k=>st.at fun o e=>k it (by simp) o e
 item:=by
  intro X hP hw hK hc i pins s σ H E I hf st hg
  subst hP hw hK
  obtain ⟨xs,x,hq,hx⟩:=hg
  obtain ⟨its,rv,p,hz⟩:=I.list hq
  obtain ⟨u,hu,ru⟩:=rv.get hx
  obtain ⟨f0,f1,f2,f3,f4,f5⟩:=hf it (by simp)
  refine wpAny_pyNext_list_item st p.isList (x:=u) (by simpa using hu) fun h' st' sb=>?_
  have I1 : Inv X pins σ H { s with heap:=h' }:=I.turned (t':=s.toks) (fun b o hb e=>(sb.2 b hb).trans e) f0 f1 f3 f4 f5
  obtain ⟨o,e,c,d⟩:=id st'
  exact ⟨u,rfl,Jas (s:={ s with heap:=h' }) e c d (by decide) ⟨x,H,I1,ru,⟨rfl,fun ys hy=>by rw [I.list_inj hy hq]; exact hx⟩,st',fun b hb=>(hf b hb).1⟩⟩
 done:=by
  intro X hP hw hK hc i pins s σ H E I hf st hg
  subst hP hw hK
  obtain ⟨xs,hq,hx⟩:=hg
  obtain ⟨its,rv,p,hz⟩:=I.list hq
  obtain ⟨f0,f1,f2,f3,f4,f5⟩:=hf it (by simp)
  have hl:=rv.length
  exact wpAny_pyNext_list_end (I.ok.hd hc) st p.isList (by simp; omega) fun h' eb=>⟨rfl,I.turned (t':=s.toks) (fun b o hb e=>eb b o hb e) f0 f1 f3 f4 f5⟩
 self:=fun _ _ _ _ _ st h=>wpAny_pyIter_listiter st h
theorem J6d {P : Program} {w : World} {K : PySem.W.Frag} {tg : Expr} (it : Addr) (lo : Int) (n : Nat) : Turn P w K tg (Itr lo n) [it] it (fun i h=>IsRangeIter h it (lo + (i : Nat) * 1) ((n : Int) - (i : Nat)) 1) where
 mem:=by simp
 obj:=fun i h st b hb=>by
  have e : b = it:=by simpa using hb
  subst e
  exact ⟨_,st,fun v z=>by
   have z' : Data.fields _ = Data.cell v:=z
   cases z'⟩
 keep:=fun i h h' st k=>k it (by simp) _ st
 item:=by
  intro X hP hw hK hc i pins s σ H E I hf st hg
  subst hP hw hK
  obtain ⟨f0,f1,f2,f3,f4,f5⟩:=hf it (by simp)
  have W:=Walks.range (prog:=X.prog) (w:=X.w) (I.ok.hd hc) it lo 1 n
  refine W.item i s _ _ hg st fun v h' tk hv st' kk=>?_
  obtain ⟨t,rfl⟩:=hv
  have I1 : Inv X pins σ H { s with heap:=h',toks:=tk }:=I.turned (fun b o hb e=>kk b o (by simpa using hb) e) f0 f1 f3 f4 f5
  refine ⟨_,rfl,Jas (s:={ s with heap:=h',toks:=tk }) (n:="range_iterator") st' rfl rfl (by decide) ⟨.int (lo + i),H,I1,⟨t,?_⟩,⟨rfl,rfl⟩,st',fun b hb=>(hf b hb).1⟩⟩
  rw [Int.mul_one]
 done:=by
  intro X hP hw hK hc i pins s σ H E I hf st hg
  subst hP hw hK
  obtain ⟨f0,f1,f2,f3,f4,f5⟩:=hf it (by simp)
  exact wpAny_pyNext_range_end (I.ok.hd hc) st (by have : n ≤ i:=hg; omega) fun h' eb=>⟨rfl,I.turned (t':=s.toks) (fun b o hb e=>eb b o hb e) f0 f1 f3 f4 f5⟩
 self:=fun _ _ _ _ _ st h=>wpAny_pyIter_rangeiter st h
end L2
namespace L2
open PySem PySem.Spec PyProof.Rows
section
variable {X : Cx} {tg : Expr}
noncomputable def Jat (K : PySem.W.Frag) (tl : TE) : TI:=fun σ H R=>tl σ H fun x H1=>∃ a,x = .ref a ∧ (∃ xs,SqL K H1 a xs) ∧ R (Itl K a) H1
theorem J9P {l : Expr} {tl : TE} (hl : PE X l tl) : PI X tg l (Jat X.K tl):=by
 intro pins s σ H R I h
 refine thn (hl pins s σ H _ I h) fun v s1 ⟨x,H1,I1,r1,q1⟩=>?_
 obtain ⟨a,e,⟨xs,hq⟩,q⟩:=q1
 subst e
 cases r1
 obtain ⟨its,rv,p,hz⟩:=I1.list hq
 refine wpAny_pyIter_list p.isList ?_
 refine ⟨s1.heap.objs.size,[s1.heap.objs.size],_,_,H1,rfl,I1.kept (t':=s1.toks) fun b o e=>Heap.get?_push_of_some _ e,J80 a _,⟨_,Heap.get?_push_size _ rfl,rfl,rfl⟩,fun b hb=>?_,q⟩
 have e : b = s1.heap.objs.size:=by simpa using hb
 subst e
 exact I1.fpOk (Nat.le_refl _) (I1.hok.fresh (Nat.le_refl _))
theorem J8C {pins : List (Addr × Obj)} {σ : St} {H : Hp} {s : Shared} {R : It → Hp → Prop} {E : Value → Shared → Prop} {lo hi : Int} {t u v : Tok} {tk : Nat} (I : Inv X pins σ H s) (h1 : -(2 ^ 62) ≤ lo) (h2 : lo < 2 ^ 62) (h3 : -(2 ^ 62) ≤ hi) (h4 : hi < 2 ^ 62)
  (q : R (Itr lo (hi - lo).toNat) H) : wpAny (model X.prog X.w) X.A (pyIter (.ref s.heap.objs.size)) (PIE X pins σ tg R) E { s with heap:=s.heap.push { cls:=.type "range",data:=.fields #[.int lo t,.int hi u,.int 1 v] },toks:=tk }:=by
 refine wpAny_pyIter_range (IsRange.new ..) (small_one h1 h2 h3 h4) ?_
 have I1 : Inv X pins σ H { s with heap:=s.heap.push { cls:=.type "range",data:=.fields #[.int lo t,.int hi u,.int 1 v] },toks:=tk }:=I.kept fun b o e=>Heap.get?_push_of_some _ e
 refine ⟨(s.heap.push { cls:=.type "range",data:=.fields #[.int lo t,.int hi u,.int 1 v] }).objs.size,[(s.heap.push { cls:=.type "range",data:=.fields #[.int lo t,.int hi u,.int 1 v] }).objs.size],_,_,H,rfl,
  I1.kept (t':=tk) fun b o e=>Heap.get?_push_of_some _ e,J6d _ lo (hi - lo).toNat,?_,fun b hb=>?_,q⟩
 ·have e1 : lo + ((0 : Nat) : Int) * 1 = lo:=by simp
  have e2 : (((hi - lo).toNat : Nat) : Int) - ((0 : Nat) : Int) = Builtin.Range.rangeSize lo hi 1:=by rw [rangeSize_one]; split <;> omega
  show IsRangeIter _ _ (lo + ((0 : Nat) : Int) * 1) ((((hi - lo).toNat : Nat) : Int) - ((0 : Nat) : Int)) 1
  rw [e1,e2]
  exact Heap.get?_push_size _ rfl
 ·have e : b = (s.heap.push { cls:=.type "range",data:=.fields #[.int lo t,.int hi u,.int 1 v] }).objs.size:=by simpa using hb
  subst e
  exact I1.fpOk (Nat.le_refl _) (I1.hok.fresh (Nat.le_refl _))
noncomputable def JcA (ta : TA) : TI:=fun σ H R=>ta σ H fun vs H1=>∃ j : Int,vs = [.int j] ∧ -(2 ^ 62) ≤ j ∧ j < 2 ^ 62 ∧ R (Itr 0 j.toNat) H1
theorem J0F {a : Expr} {ta : TA} {p pos : Pos} (hg : Gl X "range") (hm : X.mg "range" = none) (ha : PA X [a] ta) (hs : starEach [a] X.env = [(false,eval a X.env)]:=by rfl) : PI X tg (.Call (.Name "range" p) [a] [] pos) (JcA ta):=by
 intro pins s σ H R I h
 refine Call_ (J2r I hg hm boot_range (PyProof.Rows.callWith_type1 (thn (ha pos pins s σ H _ I h) fun us s1 ⟨vs,H1,I1,r1,q1⟩=>?_) hs rfl))
 obtain ⟨j,e,q1,q2,q⟩:=q1
 subst e
 cases r1 with
 | cons r rr =>
  cases rr
  obtain ⟨t,rfl⟩:=r
  exact call_range_1 (J8C I1 (by omega) (by omega) q1 q2 (by simpa using q))
noncomputable def tFor (wi : TI) (g : TG) (tb : TS) : TS:=fun D σ H=>wi σ H fun J H1=>∃ W : Nat → Nat → St → Hp → Prop,(∃ m,W 0 m σ H1) ∧ ∀ i m σ H,W i m σ H →
 (J.stop i H ∧ D.nx σ H) ∨ (J.go i H ∧ ∃ N : St → Hp → Prop,(∀ σ' H',N σ' H' → ∃ m',m' < m ∧ W (i + 1) m' σ' H') ∧ ∀ x H',J.yld i H x H' → g x σ H' fun σ2 H2=>tb { D with nx:=N,ct:=N,bk:=D.nx } σ2 H2)
noncomputable def J2U (fp : List Addr) (h : Heap) : List (Addr × Obj):=fp.filterMap fun b=>(h.get? b).map fun o=>(b,o)
theorem J0B {fp : List Addr} {h : Heap} {b : Addr} {o : Obj} (hb : b ∈ fp) (e : h.get? b = some o) : (b,o) ∈ J2U fp h:=List.mem_filterMap.mpr ⟨b,hb,by rw [e]; rfl⟩
theorem J7s {fp : List Addr} {h : Heap} {p : Addr × Obj} (hp : p ∈ J2U fp h) : p.1 ∈ fp ∧ h.get? p.1 = some p.2:=by
 obtain ⟨b,hb,e⟩:=List.mem_filterMap.mp hp
 cases q : h.get? b with
 | none=>rw [q] at e; cases e
 | some o =>
  rw [q] at e
  have e' : (b,o) = p:=Option.some.inj e
  subst e'
  exact ⟨hb,q⟩
theorem Inv.pinned {pins : List (Addr × Obj)} {σ : St} {H : Hp} {s : Shared} {fp : List Addr} (I : Inv X pins σ H s) (hf : ∀ b ∈ fp,FpOk X pins H b) (ho : ∀ b ∈ fp,∃ o,s.heap.get? b = some o ∧ ∀ v,o.data ≠ .cell v) : Inv X (pins ++ J2U fp s.heap) σ H s :=
 I.pins_of fun p hp=>(List.mem_append.mp hp).elim (fun z=>I.pin p (List.mem_append_right _ z)) fun z=>by
  obtain ⟨hb,e⟩:=J7s z
  obtain ⟨f0,f1,f2,_⟩:=hf p.1 hb
  obtain ⟨o,e',d⟩:=ho p.1 hb
  rw [e] at e'; cases e'
  exact ⟨e,f0,f1,f2,d⟩
theorem Inv.unpinned {pins pl : List (Addr × Obj)} {σ : St} {H : Hp} {s : Shared} (I : Inv X (pins ++ pl) σ H s) : Inv X pins σ H s:=I.pins_of fun p hp=>I.pin p (List.mem_append_right _ (List.mem_append_left _ hp))
theorem J0L {iter : Expr} {body : List Stmt} {wi : TI} {g : TG} {tb : TS} {pos : Pos} (hp : PassesOwn (model X.prog X.w) X.A X.env X.xe) (hc : X.calm = true) (hi : PI X tg iter wi) (hg : PG X tg g) (hb : PSs X body tb)
  (hs : ∀ x,foldedSetIterable iter X.env x = pure x:=by intro _; rfl) : PS X (.For tg iter body [] pos) (tFor wi g tb):=by
 intro pins s σ H D I h
 refine wpAny_For (thn (hi pins s σ H _ I h) fun v s1 h1=>thn h1 fun itv s2 h2=>?_) hs
 obtain ⟨it,fp,tn,J,H2,e,I2,T,st2,f2,W,⟨m0,w0⟩,turn⟩:=h2
 subst e
 have stat : ∀ {H' : Hp},(∀ b ∈ fp,H' b = none) → ∀ b ∈ fp,FpOk X pins H' b:=fun hn b hb=>⟨hn b hb,(f2 b hb).2⟩
 refine codeAny_forLoop_any (fun n s'=>∃ i σ' H',Inv X pins σ' H' s' ∧ tn i s'.heap ∧ (∀ b ∈ fp,H' b = none) ∧ W i n σ' H') ?_ m0 ⟨0,σ,H2,I2,st2,fun b hb=>(f2 b hb).1,w0⟩
 rintro n s3 ⟨i,σ3,H3,I3,st3,fr3,w3⟩
 rcases turn i n σ3 H3 w3 with ⟨stop,qn⟩ | ⟨go,N,hN,step⟩
 ·refine wpAny_passesOwn hp (thn (T.done X rfl rfl rfl hc i pins s3 σ3 H3 X.xe I3 (stat fr3) st3 stop) fun r s4 ⟨hr,I4⟩=>?_)
  subst hr
  exact wpAny_execs_nil ⟨σ3,H3,I4,qn⟩
 ·refine wpAny_passesOwn hp (thn (T.item X rfl rfl rfl hc i pins s3 σ3 H3 X.xe I3 (stat fr3) st3 go) fun r s4 ⟨u,hr,h4⟩=>?_)
  subst hr
  refine wpAny_passesOwn hp (thn h4 fun _ s5 ⟨x,H5,I5,r5,y5,st5,fr5⟩=>?_)
  have I5':=I5.pinned (stat fr5) (T.obj _ _ st5)
  refine wpAny_passesOwn hp (thn (hg _ s5 σ3 H5 x u _ I5' r5 (step x H5 y5)) fun _ s6 ⟨σ6,H6,I6,q6⟩=>?_)
  refine wpAny_passesOwn hp (thn (hb _ s6 σ6 H6 _ I6 q6) fun f s7 q7=>?_)
  have again : ∀ {σ7 : St} {H7 : Hp},Inv X (pins ++ J2U fp s5.heap) σ7 H7 s7 → N σ7 H7 → ∃ m,m < n ∧ ∃ i σ' H',Inv X pins σ' H' s7 ∧ tn i s7.heap ∧ (∀ b ∈ fp,H' b = none) ∧ W i m σ' H':=fun {σ7 H7} I7 n7=>by
   obtain ⟨m',hm,w7⟩:=hN σ7 H7 n7
   refine ⟨m',hm,i + 1,σ7,H7,I7.unpinned,T.keep _ _ _ st5 fun b hb o e=>(I7.pin (b,o) (List.mem_append_right _ (List.mem_append_right _ (J0B hb e)))).1,fun b hb=>?_,w7⟩
   obtain ⟨o,e,d⟩:=T.obj _ _ st5 b hb
   exact (I7.pin (b,o) (List.mem_append_right _ (List.mem_append_right _ (J0B hb e)))).2.1
  cases f with
  | next=>obtain ⟨σ7,H7,I7,n7⟩:=q7; exact again I7 n7
  | cont=>obtain ⟨σ7,H7,I7,n7⟩:=q7; exact again I7 n7
  | brk=>obtain ⟨σ7,H7,I7,q7⟩:=q7; exact ⟨σ7,H7,I7.unpinned,q7⟩
  | ret v=>obtain ⟨x7,σ7,H7,I7,r7,q7⟩:=q7; exact ⟨x7,σ7,H7,I7.unpinned,r7,q7⟩
end
theorem J2c {K : PySem.W.Frag} {a : Addr} {xs : List V} {g : TG} {tb : TS} {D : Ends} {σ : St} {H : Hp} (Pv : Nat → St → Hp → Prop) (h0 : Pv 0 σ H) (hl : ∀ i σ H,i ≤ xs.length → Pv i σ H → SqL K H a xs)
  (hs : ∀ i x σ H,xs[i]? = some x → Pv i σ H → g x σ H fun σ2 H2=>tb { D with nx:=Pv (i + 1),ct:=Pv (i + 1),bk:=D.nx } σ2 H2) (hd : ∀ σ H,Pv xs.length σ H → D.nx σ H) :
  ∃ W : Nat → Nat → St → Hp → Prop,(∃ m,W 0 m σ H) ∧ ∀ i m σ H,W i m σ H →
   ((Itl K a).stop i H ∧ D.nx σ H) ∨ ((Itl K a).go i H ∧ ∃ N : St → Hp → Prop,(∀ σ' H',N σ' H' → ∃ m',m' < m ∧ W (i + 1) m' σ' H') ∧ ∀ x H',(Itl K a).yld i H x H' → g x σ H' fun σ2 H2=>tb { D with nx:=N,ct:=N,bk:=D.nx } σ2 H2):=by
 refine ⟨fun i m σ H=>m = xs.length - i ∧ i ≤ xs.length ∧ Pv i σ H,⟨xs.length,by simp,Nat.zero_le _,h0⟩,?_⟩
 rintro i m σ H ⟨rfl,hi,p⟩
 have q:=hl i σ H hi p
 by_cases hlt : i < xs.length
 ·refine .inr ⟨⟨xs,xs[i],q,by simp [hlt]⟩,Pv (i + 1),fun σ' H' p'=>⟨xs.length - (i + 1),by omega,rfl,hlt,p'⟩,fun x H' y=>?_⟩
  obtain ⟨e,y⟩:=y
  subst e
  exact hs i x σ _ (y xs q) p
 ·have e : i = xs.length:=by omega
  subst e
  exact .inl ⟨⟨xs,q,Nat.le_refl _⟩,hd σ H p⟩
theorem J1F {lo : Int} {n : Nat} {g : TG} {tb : TS} {D : Ends} {σ : St} {H : Hp} (Pv : Nat → St → Hp → Prop) (h0 : Pv 0 σ H)
  (hs : ∀ i σ H,i < n → Pv i σ H → g (.int (lo + i)) σ H fun σ2 H2=>tb { D with nx:=Pv (i + 1),ct:=Pv (i + 1),bk:=D.nx } σ2 H2) (hd : ∀ σ H,Pv n σ H → D.nx σ H) :
  ∃ W : Nat → Nat → St → Hp → Prop,(∃ m,W 0 m σ H) ∧ ∀ i m σ H,W i m σ H →
   ((Itr lo n).stop i H ∧ D.nx σ H) ∨ ((Itr lo n).go i H ∧ ∃ N : St → Hp → Prop,(∀ σ' H',N σ' H' → ∃ m',m' < m ∧ W (i + 1) m' σ' H') ∧ ∀ x H',(Itr lo n).yld i H x H' → g x σ H' fun σ2 H2=>tb { D with nx:=N,ct:=N,bk:=D.nx } σ2 H2):=by
 refine ⟨fun i m σ H=>m = n - i ∧ i ≤ n ∧ Pv i σ H,⟨n,by simp,Nat.zero_le _,h0⟩,?_⟩
 rintro i m σ H ⟨rfl,hi,p⟩
 by_cases hlt : i < n
 ·refine .inr ⟨hlt,Pv (i + 1),fun σ' H' p'=>⟨n - (i + 1),by omega,rfl,hlt,p'⟩,fun x H' y=>?_⟩
  obtain ⟨e,y⟩:=y
  subst e y
  exact hs i σ _ hlt p
 ·have e : i = n:=by omega
  subst e
  exact .inl ⟨Nat.le_refl _,hd σ H p⟩
theorem J8R {c : TT} {tb : TS} {D : Ends} {σ : St} {H : Hp} (Pv : St → Hp → Prop) (μ : St → Hp → Nat) (h0 : Pv σ H)
  (hs : ∀ σ H,Pv σ H → c σ H fun b H1=>if b = true then tb { D with nx:=fun σ' H'=>Pv σ' H' ∧ μ σ' H' < μ σ H,ct:=fun σ' H'=>Pv σ' H' ∧ μ σ' H' < μ σ H,bk:=D.nx } σ H1 else D.nx σ H1)
  (mono : ∀ σ H Q Q',(∀ b H1,Q b H1 → Q' b H1) → c σ H Q → c σ H Q') : J8E c tb D σ H:=by
 refine ⟨fun m σ H=>m = μ σ H ∧ Pv σ H,⟨_,rfl,h0⟩,?_⟩
 rintro m σ H ⟨rfl,p⟩
 refine mono σ H _ _ (fun b H1 q=>?_) (hs σ H p)
 cases b with
 | true=>exact ⟨_,fun σ' H' ⟨p',l⟩=>⟨_,l,rfl,p'⟩,q⟩
 | false=>exact q
end L2
namespace L2
open PySem PySem.Spec PyProof.Rows
noncomputable abbrev R2:=V → V → Hp → VK → Prop
noncomputable def OpR (X : Cx) (f : Value → Value → Sem Value) (r : R2) : Prop :=
 ∀ (pins : List (Addr × Obj)) (s : Shared) (σ : St) (H : Hp) (x y : V) (v u : Value) (Q : VK),Inv X pins σ H s → RelV x v → RelV y u → r x y H Q →
  wpAny (model X.prog X.w) X.A (f v u) (EP X pins σ Q) X.xe s
noncomputable def UnR (X : Cx) (f : Value → Sem Value) (r : V → Hp → VK → Prop) : Prop :=
 ∀ (pins : List (Addr × Obj)) (s : Shared) (σ : St) (H : Hp) (x : V) (v : Value) (Q : VK),Inv X pins σ H s → RelV x v → r x H Q →
  wpAny (model X.prog X.w) X.A (f v) (EP X pins σ Q) X.xe s
noncomputable def J1m (X : Cx) (f : Value) (r : List V → Hp → VK → Prop) : Prop :=
 ∀ (pins : List (Addr × Obj)) (s : Shared) (σ : St) (H : Hp) (xs : List V) (us : List Value) (Q : VK),Inv X pins σ H s → Vals xs us → r xs H Q →
  wpAny (model X.prog X.w) X.A (call f us) (EP X pins σ Q) X.xe s
noncomputable def TruR (X : Cx) (r : V → Hp → (Bool → Hp → Prop) → Prop) : Prop :=
 ∀ (pins : List (Addr × Obj)) (s : Shared) (σ : St) (H : Hp) (x : V) (v : Value) (Q : Bool → Hp → Prop),Inv X pins σ H s → RelV x v → r x H Q →
  wpAny (model X.prog X.w) X.A (truthy v) (TP X pins σ Q) X.xe s
noncomputable def tOp (r : R2) (ta tb : TE) : TE:=fun σ H Q=>ta σ H fun x H1=>tb σ H1 fun y H2=>r x y H2 Q
noncomputable def tUn (r : V → Hp → VK → Prop) (ta : TE) : TE:=fun σ H Q=>ta σ H fun x H1=>r x H1 Q
noncomputable def rI (C : Int → Int → Prop) (g : Int → Int → V) : R2:=fun x y H Q=>∃ i j,x = .int i ∧ y = .int j ∧ C i j ∧ Q (g i j) H
noncomputable def rI0 (g : Int → Int → V) : R2:=fun x y H Q=>∃ i j,x = .int i ∧ y = .int j ∧ Q (g i j) H
noncomputable def rU (g : Int → V) : V → Hp → VK → Prop:=fun x H Q=>∃ i,x = .int i ∧ Q (g i) H
section
variable {X : Cx} {a b c : Expr} {ta tb tc : TE} {pos : Pos}
theorem binT (ha : PE X a ta) (hb : PE X b tb) {pins : List (Addr × Obj)} {s : Shared} {σ : St} {H : Hp} {R : V → V → Hp → Prop} (I : Inv X pins σ H s)
  (h : ta σ H fun x H1=>tb σ H1 fun y H2=>R x y H2) {Q : Value → Shared → Prop} {f : Value → Value → Sem Value}
  (hf : ∀ v u s2 x y H2,Inv X pins σ H2 s2 → RelV x v → RelV y u → R x y H2 → wpAny (model X.prog X.w) X.A (f v u) Q X.xe s2) :
  wpAny (model X.prog X.w) X.A (eval a X.env) (fun v s₁=>wpAny (model X.prog X.w) X.A (eval b X.env) (fun u s₂=>wpAny (model X.prog X.w) X.A (f v u) Q X.xe s₂) X.xe s₁) X.xe s:=by
 refine thn (ha pins s σ H _ I h) fun v s1 ⟨x,H1,I1,r1,q1⟩=>?_
 refine thn (hb pins s1 σ H1 _ I1 q1) fun u s2 ⟨y,H2,I2,r2,q2⟩=>?_
 exact hf v u s2 x y H2 I2 r1 r2 q2
theorem Jj {op : Operator} {r : R2} (ho : OpR X (binaryOp op) r) (ha : PE X a ta) (hb : PE X b tb) : PE X (.BinOp a op b pos) (tOp r ta tb):=by
 intro pins s σ H Q I h
 exact wpAny_BinOp (binT ha hb I h fun v u s2 x y H2 I2 rx ry q=>ho pins s2 σ H2 x y v u Q I2 rx ry q)
theorem J4n {op : UnaryOp} {r : V → Hp → VK → Prop} (ho : UnR X (unaryOp op) r) (ha : PE X a ta) : PE X (.UnaryOp op a pos) (tUn r ta):=by
 intro pins s σ H Q I h
 exact UnaryOp_ (thn (ha pins s σ H _ I h) fun v s1 ⟨x,H1,I1,r1,q1⟩=>ho pins s1 σ H1 x v Q I1 r1 q1)
theorem opI {f : Value → Value → Sem Value} {C : Int → Int → Prop} {g : Int → Int → Int}
  (rule : ∀ (i j : Int) (t u : Tok) (s : Shared) (Q : Value → Shared → Prop) (E : Value → Shared → Prop),C i j → Q (.int (g i j) s.toks) { s with toks:=s.toks + 1 } → wpAny (model X.prog X.w) X.A (f (.int i t) (.int j u)) Q E s) :
  OpR X f (rI C fun i j=>.int (g i j)):=by
 intro pins s σ H x y v u Q I rx ry h
 obtain ⟨i,j,rfl,rfl,hc,q⟩:=h
 obtain ⟨t,rfl⟩:=rx
 obtain ⟨t',rfl⟩:=ry
 exact rule i j t t' s _ _ hc ⟨.int (g i j),H,I.tok _,⟨_,rfl⟩,q⟩
theorem opI0 {f : Value → Value → Sem Value} {g : Int → Int → Int}
  (rule : ∀ (i j : Int) (t u : Tok) (s : Shared) (Q : Value → Shared → Prop) (E : Value → Shared → Prop),Q (.int (g i j) s.toks) { s with toks:=s.toks + 1 } → wpAny (model X.prog X.w) X.A (f (.int i t) (.int j u)) Q E s) :
  OpR X f (rI0 fun i j=>.int (g i j)):=by
 intro pins s σ H x y v u Q I rx ry h
 obtain ⟨i,j,rfl,rfl,q⟩:=h
 obtain ⟨t,rfl⟩:=rx
 obtain ⟨t',rfl⟩:=ry
 exact rule i j t t' s _ _ ⟨.int (g i j),H,I.tok _,⟨_,rfl⟩,q⟩
theorem opB0 {f : Value → Value → Sem Value} {g : Int → Int → Bool}
  (rule : ∀ (i j : Int) (t u : Tok) (s : Shared) (Q : Value → Shared → Prop) (E : Value → Shared → Prop),Q (.bool (g i j)) s → wpAny (model X.prog X.w) X.A (f (.int i t) (.int j u)) Q E s) :
  OpR X f (rI0 fun i j=>.bl (g i j)):=by
 intro pins s σ H x y v u Q I rx ry h
 obtain ⟨i,j,rfl,rfl,q⟩:=h
 obtain ⟨t,rfl⟩:=rx
 obtain ⟨t',rfl⟩:=ry
 exact rule i j t t' s _ _ ⟨.bl (g i j),H,I,rfl,q⟩
noncomputable def CDiv (i j : Int) : Prop:=0 < j ∧ j < 1073741824
noncomputable def CPow (i j : Int) : Prop:=0 ≤ j ∧ j ≤ 1000000 ∧ i.natAbs < 2 ^ 64
noncomputable def CMul (i j : Int) : Prop:=(-(2 ^ 64) < i ∧ i < 2 ^ 64) ∨ (-(2 ^ 64) < j ∧ j < 2 ^ 64)
theorem CMul.ok {i j : Int} (h : CMul i j) : IntMulOk i j:=by
 rcases h with ⟨h1,h2⟩ | ⟨h1,h2⟩
 ·exact .of_left (intBits_le_64 h1 h2)
 ·exact .of_right (intBits_le_64 h1 h2)
theorem J0r : OpR X (binaryOp .Add) (rI0 fun i j=>.int (i + j)):=opI0 fun _ _ _ _ _ _ _ q=>add_int q
theorem J1j : OpR X (binaryOp .Sub) (rI0 fun i j=>.int (i - j)):=opI0 fun _ _ _ _ _ _ _ q=>sub_int q
theorem J1y : OpR X (binaryOp .Mult) (rI CMul fun i j=>.int (i * j)):=opI fun _ _ _ _ _ _ _ hc q=>mul_int q hc.ok
theorem J0M : OpR X (binaryOp .FloorDiv) (rI CDiv fun i j=>.int (i / j)):=opI fun i j _ _ _ _ _ hc q=>by
 have h1 : (0 : Int) < j:=hc.1
 have h2 : j < 1073741824:=hc.2
 exact floordiv_int (by omega) (by rw [Int.fdiv_eq_ediv_of_nonneg i (by omega)]; exact q) (.inl (PyProof.noPylong_small (by omega)))
theorem Jy : OpR X (binaryOp .Mod) (rI (fun _ j=>0 < j) fun i j=>.int (i % j)):=opI fun i j _ _ _ _ _ hc q=>by
 have h1 : (0 : Int) < j:=hc
 exact mod_int' (by omega) (by rw [Int.fmod_eq_emod_of_nonneg i (by omega)]; exact q)
theorem J4T : OpR X (binaryOp .Pow) (rI CPow fun i j=>.int (i ^ j.toNat)):=opI fun _ _ _ _ _ _ _ hc q=>pow_int_small hc.1 hc.2.1 hc.2.2 q
theorem unI {f : Value → Sem Value} {g : Int → Int}
  (rule : ∀ (i : Int) (t : Tok) (s : Shared) (Q : Value → Shared → Prop) (E : Value → Shared → Prop),Q (.int (g i) s.toks) { s with toks:=s.toks + 1 } → wpAny (model X.prog X.w) X.A (f (.int i t)) Q E s) :
  UnR X f (rU fun i=>.int (g i)):=by
 intro pins s σ H x v Q I rx h
 obtain ⟨i,rfl,q⟩:=h
 obtain ⟨t,rfl⟩:=rx
 exact rule i t s _ _ ⟨.int (g i),H,I.tok _,⟨_,rfl⟩,q⟩
theorem J2S : UnR X (unaryOp .USub) (rU fun i=>.int (-i)):=unI fun _ _ _ _ _ q=>neg_int q
end
noncomputable def scal : V → V → Bool
 | .non,.non=>true | .non,.int _=>true | .int _,.non=>true | .non,.bl _=>true | .bl _,.non=>true | .non,.str _=>true | .str _,.non=>true
 | .int _,.int _=>true | .bl _,.bl _=>true | .str _,.str _=>true | .byt _,.byt _=>true
 | .int _,.str _=>true | .str _,.int _=>true | .bl _,.str _=>true | .str _,.bl _=>true
 | _,_=>false
noncomputable def rEq : R2:=fun x y H Q=>scal x y = true ∧ Q (.bl (decide (x = y))) H
noncomputable def rNe : R2:=fun x y H Q=>scal x y = true ∧ Q (.bl (!decide (x = y))) H
theorem J6Z {i j : Int} : decide (V.int i = V.int j) = (i == j):=by
 rw [Bool.eq_iff_iff]
 simp
theorem J9t {i j : Bool} : decide (V.bl i = V.bl j) = (i == j):=by
 rw [Bool.eq_iff_iff]
 simp
theorem J77 {i j : Str} : decide (V.str i = V.str j) = (i == j):=by
 rw [Bool.eq_iff_iff]
 simp
theorem J6R {i j : Array UInt8} : decide (V.byt i = V.byt j) = (i.toList == j.toList):=by
 rw [Bool.eq_iff_iff]
 cases i
 cases j
 simp
section
variable {X : Cx} {a b c : Expr} {ta tb tc : TE} {pos : Pos}
theorem Jz {pins : List (Addr × Obj)} {σ : St} {H : Hp} {s : Shared} {Q : VK} {k k' : Bool} (I : Inv X pins σ H s) (q : Q (.bl k) H) (e : k = k') : EP X pins σ Q (.bool k') s:=by
 subst e
 exact ⟨.bl k,H,I,rfl,q⟩
theorem J15 : OpR X (compareOp .Eq) rEq:=by
 intro pins s σ H x y v u Q I rx ry h
 obtain ⟨hs,q⟩:=h
 cases x with
 | non =>
  cases rx
  cases y with
  | non=>cases ry; exact PySem.EqNone.eq_none_none (Jz I q (by simp))
  | bl j=>cases ry; exact PySem.EqNone.eq_none_bool (Jz I q (by simp))
  | int j=>obtain ⟨t',rfl⟩:=ry; exact PySem.EqNone.eq_none_int (Jz I q (by simp))
  | str j=>obtain ⟨t',rfl⟩:=ry; exact PySem.EqNone.eq_none_str (Jz I q (by simp))
  | _=>exact absurd (show false = true from hs) Bool.false_ne_true
 | bl i =>
  cases rx
  cases y with
  | non=>cases ry; exact PySem.EqNone.eq_bool_none (Jz I q (by simp))
  | bl j=>cases ry; exact eq_bool (Jz I q J9t)
  | str j=>obtain ⟨t',rfl⟩:=ry; exact PySem.EqMixed.eq_bool_str (Jz I q (by simp))
  | _=>exact absurd (show false = true from hs) Bool.false_ne_true
 | int i =>
  obtain ⟨t,rfl⟩:=rx
  cases y with
  | non=>cases ry; exact PySem.EqNone.eq_int_none (Jz I q (by simp))
  | int j=>obtain ⟨t',rfl⟩:=ry; exact eq_int (Jz I q J6Z)
  | str j=>obtain ⟨t',rfl⟩:=ry; exact PySem.EqMixed.eq_int_str (Jz I q (by simp))
  | _=>exact absurd (show false = true from hs) Bool.false_ne_true
 | str i =>
  obtain ⟨t,rfl⟩:=rx
  cases y with
  | non=>cases ry; exact PySem.EqNone.eq_str_none (Jz I q (by simp))
  | bl j=>cases ry; exact PySem.EqMixed.eq_str_bool (Jz I q (by simp))
  | int j=>obtain ⟨t',rfl⟩:=ry; exact PySem.EqMixed.eq_str_int (Jz I q (by simp))
  | str j=>obtain ⟨t',rfl⟩:=ry; exact eq_str (Jz I q J77)
  | _=>exact absurd (show false = true from hs) Bool.false_ne_true
 | byt i =>
  obtain ⟨t,rfl⟩:=rx
  cases y with
  | byt j=>obtain ⟨t',rfl⟩:=ry; exact PySem.W.eq_bytes (Jz I q J6R)
  | _=>exact absurd (show false = true from hs) Bool.false_ne_true
 | _=>cases y <;> exact absurd (show false = true from hs) Bool.false_ne_true
theorem J2J : OpR X (compareOp .NotEq) rNe:=by
 intro pins s σ H x y v u Q I rx ry h
 obtain ⟨hs,q⟩:=h
 cases x with
 | non =>
  cases rx
  cases y with
  | non=>cases ry; exact PySem.EqNone.ne_none_none (Jz I q (by simp))
  | bl j=>cases ry; exact PySem.EqNone.ne_none_bool (Jz I q (by simp))
  | int j=>obtain ⟨t',rfl⟩:=ry; exact PySem.EqNone.ne_none_int (Jz I q (by simp))
  | str j=>obtain ⟨t',rfl⟩:=ry; exact PySem.EqNone.ne_none_str (Jz I q (by simp))
  | _=>exact absurd (show false = true from hs) Bool.false_ne_true
 | bl i =>
  cases rx
  cases y with
  | non=>cases ry; exact PySem.EqNone.ne_bool_none (Jz I q (by simp))
  | bl j=>cases ry; exact ne_bool (Jz I q (congrArg not J9t))
  | str j=>obtain ⟨t',rfl⟩:=ry; exact PySem.EqMixed.ne_bool_str (Jz I q (by simp))
  | _=>exact absurd (show false = true from hs) Bool.false_ne_true
 | int i =>
  obtain ⟨t,rfl⟩:=rx
  cases y with
  | non=>cases ry; exact PySem.EqNone.ne_int_none (Jz I q (by simp))
  | int j=>obtain ⟨t',rfl⟩:=ry; exact ne_int (Jz I q (congrArg not J6Z))
  | str j=>obtain ⟨t',rfl⟩:=ry; exact PySem.EqMixed.ne_int_str (Jz I q (by simp))
  | _=>exact absurd (show false = true from hs) Bool.false_ne_true
 | str i =>
  obtain ⟨t,rfl⟩:=rx
  cases y with
  | non=>cases ry; exact PySem.EqNone.ne_str_none (Jz I q (by simp))
  | bl j=>cases ry; exact PySem.EqMixed.ne_str_bool (Jz I q (by simp))
  | int j=>obtain ⟨t',rfl⟩:=ry; exact PySem.EqMixed.ne_str_int (Jz I q (by simp))
  | str j=>obtain ⟨t',rfl⟩:=ry; exact ne_str (Jz I q (congrArg not J77))
  | _=>exact absurd (show false = true from hs) Bool.false_ne_true
 | byt i =>
  obtain ⟨t,rfl⟩:=rx
  cases y with
  | byt j=>obtain ⟨t',rfl⟩:=ry; exact PySem.W.ne_bytes (Jz I q (congrArg not J6R))
  | _=>exact absurd (show false = true from hs) Bool.false_ne_true
 | _=>cases y <;> exact absurd (show false = true from hs) Bool.false_ne_true
theorem J3D : OpR X (compareOp .Lt) (rI0 fun i j=>.bl (decide (i < j))):=opB0 fun _ _ _ _ _ _ _ q=>lt_int q
theorem J4p : OpR X (compareOp .LtE) (rI0 fun i j=>.bl (decide (i ≤ j))):=opB0 fun _ _ _ _ _ _ _ q=>le_int q
theorem J29 : OpR X (compareOp .Gt) (rI0 fun i j=>.bl (decide (j < i))):=opB0 fun _ _ _ _ _ _ _ q=>gt_int q
theorem Jcz : OpR X (compareOp .GtE) (rI0 fun i j=>.bl (decide (j ≤ i))):=opB0 fun _ _ _ _ _ _ _ q=>ge_int q
theorem Jr (b : Expr) {op : CmpOp} (h : op ≠ .In:=by decide) (h2 : op ≠ .NotIn:=by decide) : behindInMarks op b = false:=by
 have e1 : (op == CmpOp.In) = false:=by cases op <;> first | rfl | exact absurd rfl h
 have e2 : (op == CmpOp.NotIn) = false:=by cases op <;> first | rfl | exact absurd rfl h2
 cases b <;> simp [behindInMarks,e1,e2]
theorem J18 {op : CmpOp} {r : R2} (ho : OpR X (compareOp op) r) (ha : PE X a ta) (hb : PE X b tb) (hm : behindInMarks op b = false) : PE X (.Compare a [op] [b] pos) (tOp r ta tb):=by
 intro pins s σ H Q I h
 exact wpAny_Compare1 (binT ha hb I h fun v u s2 x y H2 I2 rx ry q=>ho pins s2 σ H2 x y v u Q I2 rx ry q) hm
noncomputable def Jav (t : TE) : TT:=fun σ H Q=>t σ H fun x H'=>∃ k,x = .bl k ∧ Q k H'
theorem Jm {op : CmpOp} {r : R2} (ho : OpR X (compareOp op) r) (ha : PE X a ta) (hb : PE X b tb) (hm : behindInMarks op b = false) : PT X (.Compare a [op] [b] pos) (Jav (tOp r ta tb)):=by
 intro pins s σ H Q I h
 refine wpAny_isTrue_Compare1 (thn (ha pins s σ H _ I h) fun v s1 ⟨x,H1,I1,r1,q1⟩=>thn (hb pins s1 σ H1 _ I1 q1) fun u s2 ⟨y,H2,I2,r2,q2⟩ =>
  thn (ho pins s2 σ H2 x y v u _ I2 r1 r2 q2) fun c s3 ⟨z,H3,I3,r3,k,e,q3⟩=>?_) hm
 subst e
 cases r3
 exact wpAny_truthy_bool ⟨H3,I3,q3⟩
noncomputable def J8D (r r' : R2) (ta tb tc : TE) : TE:=fun σ H Q=>ta σ H fun x H1=>tb σ H1 fun y H2=>r x y H2 fun z H3=>∃ k,z = .bl k ∧
 (if k = true then tc σ H3 fun w' H4=>r' y w' H4 Q else Q (.bl false) H3)
theorem J5j {op op' : CmpOp} {r r' : R2} (ho : OpR X (compareOp op) r) (ho' : OpR X (compareOp op') r') (ha : PE X a ta) (hb : PE X b tb) (hc : PE X c tc)
  (hm : lastMarks [op,op'] [b,c] = false:=by with_unfolding_all rfl) : PE X (.Compare a [op,op'] [b,c] pos) (J8D r r' ta tb tc):=by
 intro pins s σ H Q I h
 refine Compare_chain (thn (ha pins s σ H _ I h) fun v s1 ⟨x,H1,I1,r1,q1⟩=>chain_link (thn (hb pins s1 σ H1 _ I1 q1) fun u s2 ⟨y,H2,I2,r2,q2⟩ =>
  thn (ho pins s2 σ H2 x y v u _ I2 r1 r2 q2) fun d s3 ⟨z,H3,I3,r3,k,e,q3⟩=>?_)) hm
 subst e
 cases r3
 refine wpAny_truthy_bool ?_
 cases k with
 | false=>exact ite_ff ⟨.bl false,H3,I3,rfl,q3⟩
 | true=>exact ite_tt (chain_last (thn (hc pins s3 σ H3 _ I3 q3) fun w' s4 ⟨z',H4,I4,r4,q4⟩=>ho' pins s4 σ H4 y z' u w' Q I4 r2 r4 q4))
theorem J91 {op op' : CmpOp} {r r' : R2} (ho : OpR X (compareOp op) r) (ho' : OpR X (compareOp op') r') (ha : PE X a ta) (hb : PE X b tb) (hc : PE X c tc)
  (hm : lastMarks [op,op'] [b,c] = false:=by with_unfolding_all rfl) : PT X (.Compare a [op,op'] [b,c] pos) (Jav (J8D r r' ta tb tc)):=by
 intro pins s σ H Q I h
 refine isTrue_chain (thn (ha pins s σ H _ I h) fun v s1 ⟨x,H1,I1,r1,q1⟩=>test_link (thn (hb pins s1 σ H1 _ I1 q1) fun u s2 ⟨y,H2,I2,r2,q2⟩ =>
  thn (ho pins s2 σ H2 x y v u _ I2 r1 r2 q2) fun d s3 ⟨z,H3,I3,r3,k,e,q3⟩=>?_)) hm
 subst e
 cases r3
 refine wpAny_truthy_bool ?_
 cases k with
 | false =>
  obtain ⟨k',e',q'⟩:=q3
  cases e'
  exact ite_ff ⟨H3,I3,q'⟩
 | true =>
  refine ite_tt (test_last (thn (hc pins s3 σ H3 _ I3 q3) fun w' s4 ⟨z',H4,I4,r4,q4⟩=>thn (ho' pins s4 σ H4 y z' u w' _ I4 r2 r4 q4) fun d' s5 ⟨z2,H5,I5,r5,k2,e2,q5⟩=>?_))
  subst e2
  cases r5
  exact wpAny_truthy_bool ⟨H5,I5,q5⟩
noncomputable def TruV (K : PySem.W.Frag) (x : V) (H : Hp) (k : Bool) : Prop :=
 match x with
 | .non=>k = false
 | .bl b=>k = b
 | .int i=>k = (i != 0)
 | .str y=>y.length ≤ sizeLine ∧ k = ((y.length : Int) != 0)
 | .byt y=>y.size ≤ sizeLine ∧ k = ((y.size : Int) != 0)
 | .ref p=>(∃ xs,SqL K H p xs ∧ k = !xs.isEmpty) ∨ (∃ xs,SqT K H p xs ∧ k = !xs.isEmpty) ∨ ∃ kvs,H p = some (.dK kvs) ∧ k = !kvs.isEmpty
 | _=>False
theorem J6m {κ : Type} {kvs : List (κ × V)} {vs : List (κ × Value)} (r : KV kvs vs) : (!vs.isEmpty) = !kvs.isEmpty:=by
 cases r <;> rfl
theorem J3H {xs : List V} {its : List Value} (r : Vals xs its) : (!its.toArray.isEmpty) = !xs.isEmpty:=by
 cases r <;> simp
theorem J2P : (sizeLine : Nat) < 2 ^ 63:=by rw [sizeLine_eq]; decide
theorem Jc5 : TruR X (fun x H Q=>∃ k,TruV X.K x H k ∧ Q k H):=by
 intro pins s σ H x v Q I rx h
 obtain ⟨k,e,q⟩:=h
 have hl:=J2P
 have hs : sizeLine = 16777216:=sizeLine_eq
 cases x with
 | non =>
  cases rx
  have e' : k = false:=e
  subst e'
  exact truthy_none ⟨H,I,q⟩
 | bl b =>
  cases rx
  have e' : k = b:=e
  subst e'
  exact wpAny_truthy_bool ⟨H,I,q⟩
 | int i =>
  obtain ⟨t,rfl⟩:=rx
  have e' : k = (i != 0):=e
  subst e'
  exact PySem.P.truthy_int ⟨H,I,q⟩
 | str y =>
  obtain ⟨t,rfl⟩:=rx
  obtain ⟨hy,e'⟩ : y.length ≤ sizeLine ∧ k = ((y.length : Int) != 0):=e
  subst e'
  exact PySem.P.truthy_str (by omega) ⟨H,I.tok _,q⟩
 | byt y =>
  obtain ⟨t,rfl⟩:=rx
  obtain ⟨hy,e'⟩ : y.size ≤ sizeLine ∧ k = ((y.size : Int) != 0):=e
  subst e'
  exact PySem.W.truthy_bytes (by omega) ⟨H,I.tok _,q⟩
 | ref p =>
  cases rx
  have e' : (∃ xs,SqL X.K H p xs ∧ k = !xs.isEmpty) ∨ (∃ xs,SqT X.K H p xs ∧ k = !xs.isEmpty) ∨ ∃ kvs,H p = some (.dK kvs) ∧ k = !kvs.isEmpty:=e
  rcases e' with ⟨xs,hx,e'⟩ | ⟨xs,hx,e'⟩ | ⟨kvs,hx,e'⟩
  ·subst e'
   obtain ⟨its,r,pl,hz⟩:=I.list hx
   have hlen:=r.length
   exact wpAny_truthy_list pl.isList (by simp only [List.size_toArray]; omega) ⟨H,I.tok _,by rw [J3H r]; exact q⟩
  ·subst e'
   obtain ⟨its,r,pl,hz⟩:=I.tuple hx
   have hlen:=r.length
   exact truthy_tuple pl (by simp only [List.size_toArray]; omega) ⟨H,I.tok _,by rw [J3H r]; exact q⟩
  ·subst e'
   obtain ⟨hz,hS,vs,r,m⟩ : kvs.length ≤ sizeLine ∧ (p == sysModules) = false ∧ ∃ vs,KV kvs vs ∧ s.heap.DictOf (JG X.prog X.w) p vs:=I.hok p _ hx
   have hlen : kvs.length = vs.length:=Paired.length r
   exact wpAny_truthy_dict hS m (by omega) ⟨H,I.tok _,by rw [J6m r]; exact q⟩
 | _=>exact (show False from e).elim
theorem J8x (ha : PE X a ta) (he : ∀ whole,isTrue a X.env whole = (do let v ← whole; standAt a.pos; holding [v] (truthy v))) :
  PT X a (fun σ H Q=>ta σ H fun x H'=>∃ k,TruV X.K x H' k ∧ Q k H'):=by
 intro pins s σ H Q I h
 exact isTrue_plain (thn (ha pins s σ H _ I h) fun v s1 ⟨x,H1,I1,r1,q1⟩=>Jc5 pins s1 σ H1 x v Q I1 r1 q1) (he _)
theorem Jaw {x : V} {us : List Value} (r : Vals [x] us) : ∃ u,us = [u] ∧ RelV x u:=by
 cases r with
 | cons r1 r2=>cases r2; exact ⟨_,rfl,r1⟩
theorem Jcm {x y : V} {us : List Value} (r : Vals [x,y] us) : ∃ u w',us = [u,w'] ∧ RelV x u ∧ RelV y w':=by
 cases r with
 | cons r1 r2 =>
  cases r2 with
  | cons r3 r4=>cases r4; exact ⟨_,_,rfl,r1,r3⟩
theorem J7J (hc : X.calm = true) : J1m X (.builtin "min") (fun xs H Q=>∃ i j,xs = [.int i,.int j] ∧ Q (.int (if j < i then j else i)) H):=by
 intro pins s σ H xs us Q I r h
 obtain ⟨i,j,rfl,q⟩:=h
 obtain ⟨u,w',rfl,⟨t,rfl⟩,⟨t',rfl⟩⟩:=Jcm r
 refine min_two_ints (I.ok.hd hc) fun h' tk k=>⟨_,H,I.kept k,?_,q⟩
 by_cases hj : j < i
 ·rw [if_pos hj,if_pos hj]; exact ⟨_,rfl⟩
 ·rw [if_neg hj,if_neg hj]; exact ⟨_,rfl⟩
end
end L2
namespace L2
open PySem PySem.Spec PyProof.Rows
structure ObjM (h : Heap) (x dx C : Addr) (mA : Str → Option Value) : Prop where
 obj : h.get? x = some (PySem.W.instObj C dx)
 ns : h.Ns1 dx mA
 ne : dx ≠ x
theorem J7v {h : Heap} {dx : Addr} {mA : Str → Option Value} (n : h.Ns1 dx mA) : ∃ od,h.get? dx = some od ∧ ∀ name,PySem.W.lookIn name od = some (mA name):=by
 obtain ⟨o,es,ep,ho,hd,hk,_,hm⟩:=n
 refine ⟨o,ho,fun name=>?_⟩
 have e:=hm name
 unfold nsFind findBy at e
 rw [← Array.find?_toList] at e
 unfold PySem.W.lookIn
 rw [hd]
 dsimp only
 split
 ·rename_i y q
  rw [q] at e
  exact congrArg some e
 ·rename_i q
  rw [q] at e
  have a : es.toList.any (·.refKey) = false:=by
   rw [List.any_eq_false]
   intro y hy
   obtain ⟨z,t,hkey⟩:=hk y (Array.mem_toList_iff.mp hy)
   simp [DictEntry.refKey,hkey]
  have a' : ¬ es.toList.any (·.refKey) = true:=by rw [a]; exact Bool.false_ne_true
  rw [if_neg a']
  exact congrArg some e
theorem ObjM.look {h : Heap} {x dx C : Addr} {mA : Str → Option Value} (I : ObjM h x dx C mA) : ∃ od,PySem.W.InstAt h x (PySem.W.instObj C dx) C (some od) ∧ ∀ name,PySem.W.lookIn name od = some (mA name) :=
 let ⟨od,ho,hl⟩:=J7v I.ns
 ⟨od,⟨I.obj,rfl,rfl,ho⟩,hl⟩
section
variable {prog : Program} {w : World} {A : Around} {E : Value → Shared → Prop} {s : Shared} {K : PySem.W.Frag} {x dx C f : Addr} {mA : Str → Option Value} {name : Str} {v : Value}
theorem Jac {expr : Bool} {Q : Value → Shared → Prop} (X : K.In s.heap) (I : ObjM s.heap x dx C mA) (hg : PySem.W.plainGet K C name = true) (hh : PySem.W.hasDictIn K C = true)
  (ha : PySem.W.findIn K (.ref C) name = some none) (hv : mA name = some v) (hv' : PySem.W.handedIn v = true) (h : Q v { s with toks:=s.toks + 1 }) :
  wpAny (model prog w) A (getAttr (.ref x) name expr) Q E s:=by
 obtain ⟨od,J,hl⟩:=I.look
 exact PySem.W.get_value X J (PySem.W.plainGet_of hg).1 (PySem.W.findObj_own hh ha rfl (by rw [hl,hv])) hv' h
theorem J9M {ns : List Str} {Q : Unit → Shared → Prop} (X : K.In s.heap) (I : ObjM s.heap x dx C mA)
  (hs : PySem.W.findIn K (.ref C) "__setattr__" = some (some (.builtin "object.__setattr__"))) (hp : PySem.W.plainOver K C = true) (ht : PySem.W.takerIn K C name = some none) (hh : PySem.W.hasDictIn K C = true)
  (hw : PySem.Within mA ns) (hsz : ns.length ≤ sizeLine)
  (h : ∀ h',ObjM h' x dx C (fun y=>if y = name then some v else mA y) → Heap.SameBut dx s.heap h' → Q () { s with heap:=h',toks:=s.toks + 2 }) :
  wpAny (model prog w) A (setAttr (.ref x) name v) Q E s:=by
 obtain ⟨od,J,hl⟩:=I.look
 refine PySem.W.set_plain X J hs (PySem.W.osa_open (s:={ s with toks:=s.toks + 1 }) (r:=none) X J hp ht fun b=>?_)
 obtain ⟨cd,hc,hd'⟩:=PySem.W.any_some hh
 have hx : s.heap.get? x = some ⟨.ref C,some dx,.plain,#[]⟩:=I.obj
 refine wpAny_bind (wpAny_pure (wpAny_bind (wpAny_bind (wpAny_loadPart hx (wpAny_bind (PySem.W.Looks.here (s:={ s with toks:=s.toks + 1 }) (PySem.W.looks_clsIn X hc) ?_))))))
 rw [hd']
 refine wpAny_pure (a:=some dx) (wpAny_bind (wpAny_pure (wpAny_bind ?_)))
 refine wpAny_nsSet1 (s:={ s with toks:=s.toks + 1 }) I.ns fun h' hn2 hs2=>?_
 obtain ⟨oD,esD,epD,hoD,hdD,hcD⟩:=hn2.count (PySem.Within.cons name v hw)
 refine wpAny_bind (wpAny_lookBehind hoD (by rw [hdD]; exact pastItsLine_dict (Nat.le_trans hcD (by rw [List.length_cons]; omega))) ?_)
 exact wpAny_pure (h _ ⟨(hs2.2 _ (Ne.symm I.ne)).trans I.obj,hn2,I.ne⟩ hs2)
theorem J9j {R : Result → Shared → Prop} {vs : List Value} {kw : List (Str × Value)} (X : K.In s.heap) (hm : PySem.W.makesIn K C = true)
  (hi : PySem.W.findIn K (.ref C) "__init__" = some (some (.ref f))) (hf : PySem.W.typeIn K (.ref f) = some (.type "function"))
  (h : codeAny (model prog w) (A.under (.builtin "type.__call__" ⟨.ref C :: vs,kw⟩)) (.call (.ref f) ⟨.ref (s.heap.objs.size + 1) :: vs,kw⟩) (PySem.W.InitBack (s.heap.objs.size + 1) R)
   {s with heap:=(s.heap.push PySem.W.emptyDict).push (PySem.W.instObj C s.heap.objs.size) }) :
  codeAny (model prog w) A (.call (.ref C) ⟨vs,kw⟩) R s:=by
 obtain ⟨hh,g,d,t,os⟩:=s
 exact PySem.W.make_core (PySem.W.makes_of X hm) (PySem.W.looks_findIn X hi) (fun self=>PySem.W.bind_fn X self hf) (.inl rfl) h
end
noncomputable def putF (f : Str) (v : V) : List (Str × V) → List (Str × V)
 | []=>[(f,v)]
 | (g,x) :: r=>if g = f then (g,v) :: r else (g,x) :: putF f v r
theorem J31 (f g : Str) (v : V) : ∀ fs : List (Str × V),(putF f v fs).lookup g = if g = f then some v else fs.lookup g
 | []=>by
  show List.lookup g [(f,v)] = _
  by_cases h : g = f
  ·have hb : (g == f) = true:=beq_iff_eq.mpr h
   simp only [List.lookup,hb,if_pos h]
  ·have hb : (g == f) = false:=beq_eq_false_iff_ne.mpr h
   simp only [List.lookup,hb,if_neg h]
 | (k,x) :: r=>by
  have ih:=J31 f g v r
  rw [show putF f v ((k,x) :: r) = (if k = f then (k,v) :: r else (k,x) :: putF f v r) from rfl]
  by_cases hk : k = f
  ·rw [if_pos hk]
   by_cases h : g = k
   ·have hb : (g == k) = true:=beq_iff_eq.mpr h
    simp only [List.lookup,hb,if_pos (h.trans hk)]
   ·have hb : (g == k) = false:=beq_eq_false_iff_ne.mpr h
    simp only [List.lookup,hb,if_neg (fun e : g = f=>h (e.trans hk.symm))]
  ·rw [if_neg hk]
   by_cases h : g = k
   ·have hb : (g == k) = true:=beq_iff_eq.mpr h
    simp only [List.lookup,hb,if_neg (fun e : g = f=>hk (h.symm.trans e))]
   ·have hb : (g == k) = false:=beq_eq_false_iff_ne.mpr h
    simp only [List.lookup,hb]
    exact ih
theorem J2N (f : Str) (v : V) : ∀ fs : List (Str × V),f ∈ (putF f v fs).map (·.1) ∧ ∀ g,g ∈ fs.map (·.1) → g ∈ (putF f v fs).map (·.1)
 | []=>⟨by simp [putF],fun g h=>by simp at h⟩
 | (k,x) :: r=>by
  obtain ⟨i1,i2⟩:=J2N f v r
  rw [show putF f v ((k,x) :: r) = (if k = f then (k,v) :: r else (k,x) :: putF f v r) from rfl]
  by_cases hk : k = f
  ·rw [if_pos hk]
   subst hk
   exact ⟨by simp,fun g h=>by simpa using h⟩
  ·rw [if_neg hk]
   refine ⟨?_,fun g h=>?_⟩
   ·rw [List.map_cons]
    exact List.mem_cons_of_mem _ i1
   ·rw [List.map_cons] at h ⊢
    rcases List.mem_cons.mp h with e | e
    ·exact List.mem_cons.mpr (.inl e)
    ·exact List.mem_cons_of_mem _ (i2 g e)
theorem J36 (f : Str) (v : V) : ∀ fs : List (Str × V),(putF f v fs).length ≤ fs.length + 1
 | []=>by simp [putF]
 | (k,x) :: r=>by
  have ih:=J36 f v r
  rw [show putF f v ((k,x) :: r) = (if k = f then (k,v) :: r else (k,x) :: putF f v r) from rfl]
  by_cases hk : k = f
  ·rw [if_pos hk,List.length_cons,List.length_cons]; omega
  ·rw [if_neg hk,List.length_cons,List.length_cons]; omega
theorem RelO.some_of {v : V} {o : Option Value} (r : RelO (some v) o) : ∃ u,o = some u ∧ RelV v u:=by
 cases o with
 | none=>exact (show False from r).elim
 | some u=>exact ⟨u,rfl,r⟩
theorem J7w {v : V} {u : Value} (r : RelV v u) : PySem.W.handedIn u = true:=by
 cases v with
 | non=>cases (show u = Value.none from r); rfl
 | bl b=>cases (show u = Value.bool b from r); rfl
 | int i=>obtain ⟨t,e⟩:=(show ∃ t,u = Value.int i t from r); cases e; rfl
 | str x=>obtain ⟨t,e⟩:=(show ∃ t,u = Value.str x t from r); cases e; rfl
 | byt b=>obtain ⟨t,e⟩:=(show ∃ t,u = Value.bytes b t from r); cases e; rfl
 | flt b=>obtain ⟨t,e⟩:=(show ∃ t,u = Value.float b t from r); cases e; rfl
 | ref a=>cases (show u = Value.ref a from r); rfl
 | ty n=>cases (show u = Value.type n from r); rfl
section
variable {P : Program} {w : World} {H H' : Hp} {h h' : Heap} {a C dx : Addr} {fs fs' : List (Str × V)}
theorem J6S (hok : HOk P w H h) (e : H a = some (.ins C dx fs)) : ∃ mA,ObjM h a dx C mA ∧ (∀ f,RelO (fs.lookup f) (mA f)) ∧ PySem.Within mA (fs.map (·.1)) ∧ fs.length ≤ 1000 ∧ H dx = some (.own a):=by
 obtain ⟨d,z,ne,ob,mA,n,r,q⟩:=(show J0a P w H h a (.ins C dx fs) from hok a _ e)
 exact ⟨mA,⟨ob,n,ne⟩,r,q,z,d⟩
end
structure Cls (K : PySem.W.Frag) (C : Addr) : Prop where
 pg : PySem.W.plainGet K C Str.empty = true
 hd : PySem.W.hasDictIn K C = true
 po : PySem.W.plainOver K C = true
 sa : PySem.W.findIn K (.ref C) "__setattr__" = some (some (.builtin "object.__setattr__"))
theorem Cls.get {K : PySem.W.Frag} {C : Addr} (c : Cls K C) (f : Str) : PySem.W.plainGet K C f = true:=c.pg
noncomputable def J0V (K : PySem.W.Frag) (C : Addr) (f : Str) : Prop:=PySem.W.findIn K (.ref C) f = some none
theorem J0V.taker {K : PySem.W.Frag} {C : Addr} {f : Str} (n : J0V K C f) : PySem.W.takerIn K C f = some none:=by
 unfold PySem.W.takerIn
 rw [show PySem.W.findIn K (.ref C) f = some none from n]
 rfl
structure Meth (K : PySem.W.Frag) (C : Addr) (m : Str) (f : Addr) : Prop where
 at_ : PySem.W.findIn K (.ref C) m = some (some (.ref f))
 fn : PySem.W.isFn K (.ref f) = true
 kp : PySem.W.keepIn K (.ref f) = true
section
variable {X : Cx} {pins : List (Addr × Obj)} {σ : St} {H : Hp} {s : Shared} {a C dx : Addr} {fs : List (Str × V)} {f : Str} {v : V} {A : Around} {E : Value → Shared → Prop}
theorem J6g {b : Bool} {Q : Value → Shared → Prop} (I : Inv X pins σ H s) (e : H a = some (.ins C dx fs)) (c : Cls X.K C) (n : J0V X.K C f) (l : fs.lookup f = some v)
  (h : ∀ u s',Inv X pins σ H s' → RelV v u → Q u s') : wpAny (model X.prog X.w) A (getAttr (.ref a) f b) Q E s:=by
 obtain ⟨mA,O,r,_,_,_⟩:=J6S I.hok e
 obtain ⟨u,hu,ru⟩:=RelO.some_of (v:=v) (o:=mA f) (by rw [← l]; exact r f)
 exact Jac I.kIn O (c.get f) c.hd n hu (J7w ru) (h u _ (I.tok _) ru)
theorem J6v {y : V} {u : Value} {Q : Unit → Shared → Prop} (I : Inv X pins σ H s) (e : H a = some (.ins C dx fs)) (c : Cls X.K C) (n : J0V X.K C f) (hl : fs.length < 1000) (ry : RelV y u)
  (h : ∀ s',Inv X pins σ (upd H a (.ins C dx (putF f y fs))) s' → Q () s') : wpAny (model X.prog X.w) A (setAttr (.ref a) f u) Q E s:=by
 obtain ⟨mA,O,r,wi,_,ho⟩:=J6S I.hok e
 have hz : (fs.map (·.1)).length ≤ sizeLine:=by rw [List.length_map,sizeLine_eq]; omega
 refine J9M I.kIn O c.sa c.po n.taker c.hd wi hz fun h' O' sb=>h _ ?_
 have hd : ∃ o,h'.get? dx = some o:=let ⟨o,_,_,e',_⟩:=O'.ns; ⟨o,e'⟩
 refine I.write (x:=a) (e:=dx) (by rw [e]; exact True.intro) (.inr ho) (fun b q hb z=>(sb.2 b hb).trans z) hd ?_
 refine ⟨by rw [J7 O.ne]; exact ho,?_,O.ne,O'.obj,_,O'.ns,fun g=>?_,fun g hg=>?_⟩
 ·have:=J36 f y fs; omega
 ·show RelO ((putF f y fs).lookup g) (if g = f then some u else mA g)
  rw [J31]
  by_cases q : g = f
  ·rw [if_pos q,if_pos q]; exact ry
  ·rw [if_neg q,if_neg q]; exact r g
 ·by_cases q : g = f
  ·rw [q]; exact (J2N f y fs).1
  ·refine (J2N f y fs).2 g (wi g fun z=>hg ?_)
   show (if g = f then some u else mA g) = none
   rw [if_neg q]; exact z
theorem Inv.made (I : Inv X pins σ H s) : Inv X pins σ (upd (upd H s.heap.objs.size (.own (s.heap.objs.size + 1))) (s.heap.objs.size + 1) (.ins C s.heap.objs.size []))
  {s with heap:=(s.heap.push PySem.W.emptyDict).push (PySem.W.instObj C s.heap.objs.size) }:=by
 have e1 : (s.heap.push PySem.W.emptyDict).get? s.heap.objs.size = some PySem.W.emptyDict:=Heap.get?_push_size s.heap rfl
 have e2 : ((s.heap.push PySem.W.emptyDict).push (PySem.W.instObj C s.heap.objs.size)).get? (s.heap.objs.size + 1) = some (PySem.W.instObj C s.heap.objs.size):=by
  have:=Heap.get?_push_size (s.heap.push PySem.W.emptyDict) (o:=PySem.W.instObj C s.heap.objs.size) rfl
  rwa [Heap.size_push] at this
 have e3 : (s.heap.push PySem.W.emptyDict).Ns s.heap.objs.size (fun _=>none):=⟨PySem.W.emptyDict,#[],_,e1,rfl,(fun e he=>absurd he (by simp)),fun _=>rfl⟩
 have I1:=I.laid (a:=s.heap.objs.size) (o:=.own (s.heap.objs.size + 1)) (h':=s.heap.push PySem.W.emptyDict) (t':=s.toks) (fun b u q=>Heap.get?_push_of_some _ q) (Nat.le_refl _) ⟨_,e1⟩
 refine I1.laid (a:=s.heap.objs.size + 1) (o:=.ins C s.heap.objs.size []) (t':=s.toks) (fun b u q=>Heap.get?_push_of_some _ q) (Nat.le_of_eq (Heap.size_push _ _)) ?_
 have ne : s.heap.objs.size ≠ s.heap.objs.size + 1:=Nat.ne_of_lt (Nat.lt_succ_self _)
 refine ⟨by rw [J7 ne,Jc],Nat.zero_le _,ne,e2,fun _=>none,(Heap.Ns1.of_empty e3).at fun o q=>Heap.get?_push_of_some _ q,fun _=>True.intro,fun y hy=>absurd rfl hy⟩
theorem Jaa {prog : Program} {w : World} {env : Env} {e : Expr} {f : Str} {pos : Pos} {s : Shared} {Q : Value → Shared → Prop} (hb : attributeBase e f env (eval e env) = eval e env)
  (h : wpAny (model prog w) A (eval e env) (fun o s₁=>wpAny (model prog w) A (getAttr o f true) Q E s₁) E s) : wpAny (model prog w) A (eval (.Attribute e f pos) env) Q E s :=
 Attribute_any_ h (by rw [arm_eval_Attribute,hb])
end
noncomputable def tFld (K : PySem.W.Frag) (ta : TE) (f : Str) : TE:=fun σ H Q=>ta σ H fun x H1=>∃ a C dx fs v,x = .ref a ∧ H1 a = some (.ins C dx fs) ∧ Cls K C ∧ J0V K C f ∧ fs.lookup f = some v ∧ Q v H1
noncomputable def sFld (K : PySem.W.Frag) (ta tv : TE) (f : Str) : TS:=fun D σ H=>tv σ H fun y H1=>ta σ H1 fun x H2=>∃ a C dx fs,x = .ref a ∧ H2 a = some (.ins C dx fs) ∧ Cls K C ∧ J0V K C f ∧ fs.length < 1000 ∧
 D.nx σ (upd H2 a (.ins C dx (putF f y fs)))
section
variable {X : Cx} {o e value : Expr} {f : Str} {pos pos' tpos : Pos} {ta tv : TE}
theorem Jcc (he : PE X e ta) (hb : attributeBase e f X.env (eval e X.env) = eval e X.env) : PE X (.Attribute e f pos) (tFld X.K ta f):=by
 intro pins s σ H Q I h
 refine Jaa hb (thn (he pins s σ H _ I h) fun u s1 ⟨x,H1,I1,rx,a,C,dx,fs,v,ex,ea,c,n,l,q⟩=>?_)
 subst ex
 obtain rfl : u = Value.ref a:=rx
 exact J6g I1 ea c n l fun u' s2 I2 ru=>⟨v,H1,I2,ru,q⟩
theorem J2s (ha : PE X o ta) (hv : PE X value tv) (hs : swapsWith value (some (.Attribute o f pos')) pos.line X.env = pure false) : PS X (.Assign [.Attribute o f pos'] value pos) (sFld X.K ta tv f):=by
 intro pins s σ H D I h
 refine plainObj_wpAny_Assign_Attribute (thn (hv pins s σ H _ I h) fun u s1 ⟨y,H1,I1,ry,q⟩=>thn (ha pins s1 σ H1 _ I1 q) fun ov s2 ⟨x,H2,I2,rx,a,C,dx,fs,ex,ea,c,n,l,q2⟩=>?_) hs
 subst ex
 obtain rfl : ov = Value.ref a:=rx
 exact J6v I2 ea c n l ry fun s3 I3=>⟨σ,_,I3,q2⟩
end
section
variable {X : Cx} {pins : List (Addr × Obj)} {σ : St} {H : Hp} {s : Shared} {A : Around} {E : Value → Shared → Prop} {Q : Value → Shared → Prop} {c : Value} {b : Bool}
end
end L2
namespace L2
open PySem PySem.Spec PyProof.Rows
structure Room (k : Nat) (A : Around) : Prop where
 hd : A.handled = none
 dp : A.depth + 3 * k + 5 < recursionLimit
 un : A.units + 16 * k + 200 < cLine
theorem Room.mono {j k : Nat} {A : Around} (r : Room k A) (h : j ≤ k) : Room j A:=⟨r.hd,by have:=r.dp; omega,by have:=r.un; omega⟩
theorem Room.deeper {k : Nat} {A : Around} (r : Room (k + 1) A) (env : Env) : Room k (A.deeper env) :=
 ⟨r.hd,by have:=r.dp; show A.depth + 1 + 3 * k + 5 < _; omega,by have:=r.un; show A.units + 3 + 16 * k + 200 < _; omega⟩
theorem J6h {A : Around} {C : Addr} {us : List Value} {kw : List (Str × Value)} : (A.under (.builtin "type.__call__" ⟨.ref C :: us,kw⟩)).depth = A.depth + 1:=by
 first | rfl | simp [Around.under,Code.weight,Code.isCreation,Code.isGuard,Code.isCaller,Code.frames,Code.isFrame,guardIds]
theorem J6n {A : Around} {C : Addr} {us : List Value} {kw : List (Str × Value)} : (A.under (.builtin "type.__call__" ⟨.ref C :: us,kw⟩)).units = A.units + 1:=by
 first | rfl | simp [Around.under,Code.cUnits,Code.frames,Code.isFrame]
theorem Room.make {k : Nat} {A : Around} (r : Room (k + 1) A) (C : Addr) (us : List Value) (kw : List (Str × Value)) : Room k (A.under (.builtin "type.__call__" ⟨.ref C :: us,kw⟩)) :=
 ⟨r.hd,by have:=r.dp; rw [J6h]; omega,by have:=r.un; rw [J6n]; omega⟩
theorem Room.depth {k : Nat} {A : Around} (r : Room k A) : A.depth < recursionLimit:=by have:=r.dp; omega
theorem Room.units {k : Nat} {A : Around} (r : Room k A) : A.units + 64 < cLine:=by have:=r.un; omega
theorem Room.units0 {k : Nat} {A : Around} (r : Room k A) : A.units < cLine:=by have:=r.un; omega
noncomputable def tNil : TA:=fun _ H Q=>Q [] H
noncomputable def Jaq (ta : TE) (tr : TA) : TA:=fun σ H Q=>ta σ H fun x H1=>tr σ H1 fun xs H2=>Q (x :: xs) H2
section
variable {X : Cx} {e : Expr} {es : List Expr} {te : TE} {t : TA} {pos : Pos}
theorem J9 : PA X [] tNil:=fun _ _ _ _ H Q I h=>Calls.spliced_nil ⟨[],H,I,.nil,h⟩
theorem J0 (ha : PE X e te) (hr : PA X es t) (hs : starEach (e :: es) X.env = (false,eval e X.env) :: starEach es X.env:=by rfl) : PA X (e :: es) (Jaq te t):=by
 intro pos pins s σ H Q I h
 rw [hs]
 show wpAny _ _ (spliced ((false,eval e X.env) :: backTo pos (starEach es X.env))) _ _ s
 refine Calls.spliced_cons (thn (ha pins s σ H _ I h) fun u s1 ⟨x,H1,I1,r1,q1⟩=>?_)
 exact thn (hr pos pins s1 σ H1 _ I1 q1) fun us s2 ⟨xs,H2,I2,r2,q2⟩=>⟨x :: xs,H2,I2,.cons r1 r2,q2⟩
noncomputable def tTup (t : TA) : TE:=fun σ H Q=>t σ H fun xs H1=>xs.length ≤ sizeLine ∧ ∀ p,H1 p = none → Q (.ref p) (upd H1 p (.tup xs))
noncomputable def tLst (t : TA) : TE:=fun σ H Q=>t σ H fun xs H1=>xs.length ≤ sizeLine ∧ ∀ p,H1 p = none → Q (.ref p) (upd H1 p (.lst xs))
theorem J1u {x1} (h : PA X es t) : PE X (.Tuple es x1 pos) (tTup t):=by
 intro pins s σ H Q I hq
 refine wpAny_Tuple_spliced (thn (h pos pins s σ H _ I hq) fun us s1 ⟨xs,H1,I1,r,z,q⟩=>⟨by rw [← r.length]; exact z,?_⟩)
 have hf : H1 s1.heap.objs.size = none:=I1.hok.fresh (Nat.le_refl _)
 refine ⟨.ref s1.heap.objs.size,upd H1 s1.heap.objs.size (.tup xs),I1.laid (t':=s1.toks) (fun b u e=>Heap.get?_push_of_some _ e) (Nat.le_refl _) ?_,rfl,q _ hf⟩
 exact ⟨z,us,r,⟨_,Heap.get?_push_size _ rfl,rfl,_,rfl⟩⟩
theorem J1l (h : PA X es t) : PE X (.List es pos) (tLst t):=by
 intro pins s σ H Q I hq
 refine wpAny_List_spliced (thn (h pos pins s σ H _ I hq) fun us s1 ⟨xs,H1,I1,r,z,q⟩=>⟨by rw [← r.length]; exact z,?_⟩)
 have hf : H1 s1.heap.objs.size = none:=I1.hok.fresh (Nat.le_refl _)
 refine ⟨.ref s1.heap.objs.size,upd H1 s1.heap.objs.size (.lst xs),I1.laid (t':=s1.toks) (fun b u e=>Heap.get?_push_of_some _ e) (Nat.le_refl _) ?_,rfl,q _ hf⟩
 exact ⟨z,us,0,r,Heap.get?_push_size _ rfl⟩
end
noncomputable abbrev Sp:=List V → Hp → VK → XK → Prop
noncomputable abbrev CXT:=List Env → Hp → Shared → XK → Value → Shared → Prop
structure Env0 (P : Program) (w : World) (K : PySem.W.Frag) (mg : Str → Option Value) (base : Heap) (A : Around) (outer : List Env) (s : Shared) (H : Hp) : Prop where
 frames : A.frames = some outer
 mod : Mod K mg base
 bs : ∀ b o,base.get? b = some o → s.heap.get? b = some o ∧ H b = none
 bsz : base.objs.size ≤ s.heap.objs.size
 funs : s.heap.FunFrames base outer
 frf : ∀ b ∈ frs outer,H b = none
 hok : HOk P w H s.heap
 bare : AllBare s.gens
noncomputable def CE (outer : List Env) (P : Program) (w : World) (H : Hp) (s : Shared) (Q : VK) (u : Value) (s' : Shared) : Prop :=
 ∃ v H',s'.os = s.os ∧ AllBare s'.gens ∧ Un (frs outer) [] H H' s.heap s'.heap ∧ HOk P w H' s'.heap ∧ RelV v u ∧ Q v H'
noncomputable def CR (CX : CXT) (outer : List Env) (P : Program) (w : World) (H : Hp) (s : Shared) (Q : VK) (E : XK) (r : Result) (s' : Shared) : Prop :=
 match r with
 | .ok (.ret u)=>CE outer P w H s Q u s'
 | .ok _=>False
 | .error e=>CX outer H s E e s'
structure FnOk (P : Program) (w : World) (K : PySem.W.Frag) (mg : Str → Option Value) (base : Heap) (CX : CXT) (k : Nat) (f : Addr) (fd : FuncData) (ps : List Str) (sp : Sp) : Prop where
 len : ∀ vs H Q E,sp vs H Q E → vs.length = ps.length
 run : ∀ (A : Around) (outer : List Env) (s : Shared) (H : Hp) (args : Args) (us : List Value) (vs : List V) (Q : VK) (E : XK),Room k A → Env0 P w K mg base A outer s H → BindsTo s fd args (ps.zip us) → Vals vs us → sp vs H Q E →
  codeAny (model P w) A (.call (.ref f) args) (CR CX outer P w H s Q E) s
theorem Env0.make {P : Program} {w : World} {K : PySem.W.Frag} {mg : Str → Option Value} {base : Heap} {A : Around} {outer : List Env} {s : Shared} {H : Hp} (e : Env0 P w K mg base A outer s H) (C : Addr) (us : List Value) (kw : List (Str × Value)) :
  Env0 P w K mg base (A.under (.builtin "type.__call__" ⟨.ref C :: us,kw⟩)) outer s H:=⟨by first | exact e.frames | (simpa [Around.under,Code.envs,Code.isFrame,pushEnvs] using e.frames),e.mod,e.bs,e.bsz,e.funs,e.frf,e.hok,e.bare⟩
section
variable {X : Cx} {pins : List (Addr × Obj)} {σ : St} {H : Hp} {s s' : Shared}
theorem Inv.env0 (I : Inv X pins σ H s) : Env0 X.prog X.w X.K X.mg X.base X.A X.stack s H :=
 ⟨I.ok.frames,I.ok.mod,I.bs,Nat.le_trans I.ok.bsz I.sz,I.stack,I.stkFree,I.hok,I.bare⟩
theorem Inv.after {Q : VK} {u : Value} (I : Inv X pins σ H s) (h : CE X.stack X.prog X.w H s Q u s') : EP X pins σ Q u s':=by
 obtain ⟨v,H',os,bare,un,hok,r,q⟩:=h
 obtain ⟨hh,g,d,t,os'⟩:=s'
 obtain rfl : os' = s.os:=os
 exact ⟨v,H',I.call (h':=hh) (g':=g) (d':=d) (t':=t) (ch:=[]) un hok bare (fun b z=>absurd z (by simp)),r,q⟩
end
noncomputable def Jau (sp : Sp) (dvs : List V) (E : XK) (t : TA) : TE:=fun σ H Q=>t σ H fun vs H1=>sp (vs ++ dvs) H1 Q E
noncomputable def J2F (K : PySem.W.Frag) (fd : FuncData) (ps : List Str) (ds : List Value) : Prop :=
 ∀ (s : Shared) (us : List Value),K.In s.heap → (us ++ ds).length = ps.length → BindsTo s fd ⟨us,[]⟩ (ps.zip (us ++ ds))
theorem J2F.all {K : PySem.W.Frag} {fd : FuncData} {ps : List Str} (h : ∀ us : List Value,us.length = ps.length → bindArgs fd ⟨us,[]⟩ = pure (ps.zip us)) : J2F K fd ps []:=fun s us _ hl=>by
 rw [List.append_nil] at hl ⊢
 exact .of_eq (h us hl)
noncomputable def J4R (CX : CXT) (X : Cx) (E : XK) : Prop:=∀ (pins : List (Addr × Obj)) (σ : St) (H : Hp) (s : Shared) (e : Value) (s' : Shared),Inv X pins σ H s → CX X.stack H s E e s' → X.xe e s'
section
variable {X : Cx} {CX : CXT} {k : Nat} {f C : Addr} {fd : FuncData} {ps : List Str} {sp : Sp} {dvs : List V} {ds : List Value} {E : XK} {x m : Str} {p pos apos : Pos} {e o : Expr} {es : List Expr} {ta : TE} {t : TA}
theorem JbE {pins : List (Addr × Obj)} {σ : St} {H : Hp} {s : Shared} {Q : VK} {us : List Value} {vs : List V} (F : FnOk X.prog X.w X.K X.mg X.base CX k f fd ps sp) (hr : Room k X.A) (hb : J2F X.K fd ps ds) (hd : Vals dvs ds) (hx : J4R CX X E)
  (I : Inv X pins σ H s) (r : Vals vs us) (h : sp (vs ++ dvs) H Q E) : wpAny (model X.prog X.w) X.A (call (.ref f) us) (EP X pins σ Q) X.xe s:=by
 have r2 : Vals (vs ++ dvs) (us ++ ds):=r.append hd
 have hl : (us ++ ds).length = ps.length:=by rw [← r2.length]; exact F.len _ _ _ _ h
 refine wpAny_call (codeAny_mono (F.run X.A X.stack s H ⟨us,[]⟩ (us ++ ds) (vs ++ dvs) Q E hr I.env0 (hb s us I.kIn hl) r2 h) fun r s' hq=>?_)
 cases r with
 | error e=>exact hx pins σ H s e s' I hq
 | ok fl =>
  cases fl with
  | ret u=>exact I.after hq
  | next=>exact False.elim hq
  | brk=>exact False.elim hq
  | cont=>exact False.elim hq
theorem Ja6 (F : FnOk X.prog X.w X.K X.mg X.base CX k f fd ps sp) (hr : Room k X.A) (hg : Gl X x) (hm : X.mg x = some (.ref f)) (hk : PySem.W.keepIn X.K (.ref f) = true) (hb : J2F X.K fd ps ds) (hd : Vals dvs ds) (hx : J4R CX X E)
  (ha : PA X (e :: es) t) (hdb : (x == ("__debug__" : Str)) = false:=by decide) (he : starEach (e :: es) X.env = (false,eval e X.env) :: starEach es X.env:=by rfl) (hpl : (backTo pos (starEach es X.env)).any (·.1) = false:=by rfl) :
  PE X (.Call (.Name x p) (e :: es) [] pos) (Jau sp dvs E t):=by
 intro pins s σ H Q I h
 refine wpAny_Call_Name_kw (J6Q I hg hm ?_ hdb)
 refine PySem.W.callWith_K (h₀:=X.base) I.ok.mod.kin hk (thn (ha pos pins s σ H _ I h) fun us s1 ⟨vs,H1,I1,r,q⟩=>⟨I1.kIn,?_⟩) he hpl
 exact JbE F hr hb hd hx I1 r q
structure Mk (K : PySem.W.Frag) (C f : Addr) : Prop where
 makes : PySem.W.makesIn K C = true
 init : PySem.W.findIn K (.ref C) "__init__" = some (some (.ref f))
 fn : PySem.W.isFn K (.ref f) = true
 kp : PySem.W.keepIn K (.ref C) = true
theorem J8W {pins : List (Addr × Obj)} {σ : St} {H : Hp} {s : Shared} {Q : VK} {us : List Value} {vs : List V} (M : Mk X.K C f) (F : FnOk X.prog X.w X.K X.mg X.base CX k f fd ps sp) (hr : Room (k + 1) X.A) (hb : J2F X.K fd ps ds) (hd : Vals dvs ds)
  (hx : J4R CX X E) (I : Inv X pins σ H s) (r : Vals vs us)
  (h : ∀ x dx,H x = none → H dx = none → dx ≠ x → sp (.ref x :: (vs ++ dvs)) (upd (upd H dx (.own x)) x (.ins C dx [])) (fun v H2=>v = .non ∧ Q (.ref x) H2) E) :
  wpAny (model X.prog X.w) X.A (call (.ref C) us) (EP X pins σ Q) X.xe s:=by
 have hq:=h (s.heap.objs.size + 1) s.heap.objs.size (I.hok.fresh (Nat.le_succ _)) (I.hok.fresh (Nat.le_refl _)) (Nat.ne_of_lt (Nat.lt_succ_self _))
 have I2:=Inv.made (C:=C) I
 have r2 : Vals (V.ref (s.heap.objs.size + 1) :: (vs ++ dvs)) (Value.ref (s.heap.objs.size + 1) :: (us ++ ds)):=.cons rfl (r.append hd)
 have hl : (Value.ref (s.heap.objs.size + 1) :: us ++ ds).length = ps.length:=by
  have e:=r2.length
  rw [F.len _ _ _ _ hq] at e
  exact e.symm
 refine wpAny_call (J9j (f:=f) I.kIn M.makes M.init (beq_iff_eq.mp M.fn) (codeAny_mono (F.run _ X.stack _ _ ⟨Value.ref (s.heap.objs.size + 1) :: us,[]⟩ (Value.ref (s.heap.objs.size + 1) :: (us ++ ds)) _ _ E (hr.make C us [])
  (I2.env0.make C us []) (hb _ (Value.ref (s.heap.objs.size + 1) :: us) I2.kIn hl) r2 hq) fun r s' hq'=>?_))
 cases r with
 | error e=>exact hx pins σ _ _ e s' I2 hq'
 | ok fl =>
  cases fl with
  | ret u =>
   obtain ⟨v,H',I3,rv,ev,q3⟩:=I2.after hq'
   subst ev
   exact ⟨rv,⟨V.ref (s.heap.objs.size + 1),H',I3,rfl,q3⟩⟩
  | next=>exact False.elim hq'
  | brk=>exact False.elim hq'
  | cont=>exact False.elim hq'
end
noncomputable def PK (X : Cx) (kws : List Keyword) (t : TA) : Prop :=
 ∀ (pos : Pos) (pins : List (Addr × Obj)) (s : Shared) (σ : St) (H : Hp) (Q : List V → Hp → Prop),Inv X pins σ H s → t σ H Q → wpAny (model X.prog X.w) X.A (evalAll ((backToKw pos (keywordEach kws X.env)).map (·.2))) (AP X pins σ Q) X.xe s
section
variable {X : Cx} {CX : CXT} {k : Nat} {f C : Addr} {fd : FuncData} {ps ks : List Str} {sp : Sp} {E : XK} {x m : Str} {p pos apos kpos : Pos} {e o : Expr} {es : List Expr} {kws : List Keyword} {te ta : TE} {t tk : TA} {nm : Option Str}
theorem JbX : PK X [] tNil:=fun _ _ _ _ H Q I h=>wpAny_evalAll_nil ⟨[],H,I,.nil,h⟩
theorem Jai (ha : PE X e te) (hr : PK X kws t) : PK X (⟨nm,e,kpos⟩ :: kws) (Jaq te t):=by
 intro pos pins s σ H Q I h
 show wpAny _ _ (evalAll ((do let v ← eval e X.env; standAt pos; pure v) :: (backToKw pos (keywordEach kws X.env)).map (·.2))) _ _ s
 refine wpAny_evalAll_cons (wpAny_bind (thn (ha pins s σ H _ I h) fun u s1 ⟨x,H1,I1,r1,q1⟩=>wpAny_bind (wpAny_standAt (wpAny_pure ?_))))
 exact thn (hr pos pins s1 σ H1 _ I1 q1) fun us s2 ⟨xs,H2,I2,r2,q2⟩=>⟨x :: xs,H2,I2,.cons r1 r2,q2⟩
variable {g : List Value → List Value → List Value} {gV : List V → List V → List V}
end
structure Jw (N P : List Str) (sc : Scope) : Prop where
 kind : sc.kind = .function
 co : sc.isCoroutine = false
 gen : sc.isGenerator = false
 nd : N.Nodup
 pre : N.take P.length = P
 par : ∀ x ∈ P,sc.names.lookup x = some .local ∨ sc.names.lookup x = some .cell
 nofree : ∀ y ∈ sc.names,y.2 ≠ .free
theorem J4m {kindOf : Str → Option NameKind} {x : Str} : ∀ {binds : List (Str × Value)} {m : Str → Option Value},(∀ v,(x,v) ∉ binds) → bindL kindOf binds m x = m x
 | [],_,_=>rfl
 | (n,v) :: r,m,h=>by
  unfold bindL
  rw [J4m fun w hw=>h w (List.mem_cons_of_mem _ hw)]
  split
  ·have : x ≠ n:=by rintro rfl; exact h v List.mem_cons_self
   simp [this]
  ·rfl
theorem J4a {kindOf : Str → Option NameKind} {x : Str} : ∀ {binds : List (Str × Value)} {m : Str → Option Value},(∀ v,(x,v) ∉ binds) → bindC kindOf binds m x = m x
 | [],_,_=>rfl
 | (n,v) :: r,m,h=>by
  unfold bindC
  rw [J4a fun w hw=>h w (List.mem_cons_of_mem _ hw)]
  split
  ·rfl
  ·have : x ≠ n:=by rintro rfl; exact h v List.mem_cons_self
   simp [this]
theorem J4i {kindOf : Str → Option NameKind} {x : Str} {v : Value} : ∀ {P : List Str} {vs : List Value} {i : Nat} {m : Str → Option Value},P.Nodup → P[i]? = some x → vs[i]? = some v → kindOf x = some .local →
  bindL kindOf (P.zip vs) m x = some v
 | [],_,_,_,_,h,_,_=>by simp at h
 | _ :: _,[],_,_,_,_,h,_=>by simp at h
 | p :: P,w :: vs,0,m,nd,h1,h2,hk=>by
  simp at h1 h2; subst h1; subst h2
  show bindL kindOf ((p,w) :: P.zip vs) m p = _
  unfold bindL
  rw [J4m fun v hv=>(List.nodup_cons.mp nd).1 (List.of_mem_zip hv).1,if_pos hk]
  simp
 | p :: P,w :: vs,i + 1,m,nd,h1,h2,hk=>by
  show bindL kindOf ((p,w) :: P.zip vs) m x = _
  unfold bindL
  exact J4i (i:=i) (List.nodup_cons.mp nd).2 (by simpa using h1) (by simpa using h2) hk
theorem J4g {kindOf : Str → Option NameKind} {x : Str} {v : Value} : ∀ {P : List Str} {vs : List Value} {i : Nat} {m : Str → Option Value},P.Nodup → P[i]? = some x → vs[i]? = some v → kindOf x ≠ some .local →
  bindC kindOf (P.zip vs) m x = some v
 | [],_,_,_,_,h,_,_=>by simp at h
 | _ :: _,[],_,_,_,_,h,_=>by simp at h
 | p :: P,w :: vs,0,m,nd,h1,h2,hk=>by
  simp at h1 h2; subst h1; subst h2
  show bindC kindOf ((p,w) :: P.zip vs) m p = _
  unfold bindC
  rw [J4a fun v hv=>(List.nodup_cons.mp nd).1 (List.of_mem_zip hv).1,if_neg hk]
  simp
 | p :: P,w :: vs,i + 1,m,nd,h1,h2,hk=>by
  show bindC kindOf ((p,w) :: P.zip vs) m x = _
  unfold bindC
  exact J4g (i:=i) (List.nodup_cons.mp nd).2 (by simpa using h1) (by simpa using h2) hk
noncomputable def start (N : List Str) (vs : List V) : St:=vs.map some ++ List.replicate (N.length - vs.length) none
noncomputable def cxOf (CX : CXT) (P : Program) (w : World) (K : PySem.W.Frag) (mg : Str → Option Value) (base : Heap) (N : List Str) (qual : Str) (scope : Scope) (f : Addr) (cd : Value) (A : Around) (outer : List Env) (s : Shared) (H : Hp) (E : XK) : Cx where
 prog:=P
 w:=w
 K:=K
 mg:=mg
 base:=base
 A:=A.deeper (envOfC qual scope s.heap.objs.size f cd)
 N:=N
 s₀:=s
 H₀:=H
 env:=envOfC qual scope s.heap.objs.size f cd
 outer:=outer
 stack:=envOfC qual scope s.heap.objs.size f cd :: outer
 ex:=[]
 calm:=true
 fn:=fun _=>true
 pn:=[]
 xe:=fun e s'=>wpAny (model P w) (A.deeper (envOfC qual scope s.heap.objs.size f cd)) (leaving (envOfC qual scope s.heap.objs.size f cd) e) (fun _ s''=>CX outer H s E e s'') (fun e' s''=>CX outer H s E e' s'') s'
theorem J5o {sc : Scope} {n : Nat} {x : Str} (h : sc.names.lookup x = some .cell) : ∃ c,(cellsFrom n sc.names []).lookup x = some c:=by
 have q:=PySem.W.cellsFrom_some sc.names n [] (.inl h)
 exact Option.isSome_iff_exists.mp q
theorem J82 {CX : CXT} {P : Program} {w : World} {K : PySem.W.Frag} {mg : Str → Option Value} {base : Heap} {N ps : List Str} {qual : Str} {scope : Scope} {f : Addr} {cd : Value} {A : Around} {outer : List Env} {s s1 : Shared} {H : Hp} {E : XK} {us : List Value} {vs : List V}
  (S : Jw N ps scope) (hd : A.handled = none) (e0 : Env0 P w K mg base A outer s H) (hl : vs.length = ps.length) (r : Vals vs us)
  (x : InCallC s s.heap.objs.size (bindL (envOfC qual scope s.heap.objs.size f cd).kindOf (ps.zip us) fun _=>none) (cellsFrom (s.heap.objs.size + 1) scope.names []) (bindC (envOfC qual scope s.heap.objs.size f cd).kindOf (ps.zip us) fun _=>none) s1) :
  Inv (cxOf CX P w K mg base N qual scope f cd A outer s H E) [] (start N vs) H s1:=by
 have hpl : ps.length ≤ N.length:=by have:=congrArg List.length S.pre; rw [List.length_take] at this; omega
 obtain ⟨h1,tk,rfl,hk⟩:=x.done
 have noA : ∀ b : Addr,b ∉ (cxOf CX P w K mg base N qual scope f cd A outer s H E).ex:=fun b z=>absurd (show b ∈ ([] : List Addr) from z) (by simp)
 refine ⟨⟨e0.mod,S.kind,rfl,rfl,Nat.le_refl _,fun y z c h1 h2=>?_,fun y hy=>?_,fun y c _ h=>?_,fun _=>hd,Around.frames_deeper e0.frames,.inr ⟨rfl,rfl⟩,fun b z=>absurd z (noA b),e0.bs,e0.bsz,fun b _ _=>noA b,fun b z=>absurd z (noA b),e0.funs,e0.frf⟩,
  rfl,e0.bare,Un.kept hk,⟨_,x.toInCall.ns,fun i y v h1 h2 h3=>?_⟩,fun y c h=>⟨_,x.cell y c h⟩,e0.hok.fresh (Nat.le_refl _),fun y c h=>?_,fun p hp=>absurd (show p ∈ ([] : List (Addr × Obj)) from hp) (by simp),e0.hok.kept hk,?_⟩
 ·exact name_of_addr x.apart (PySem.mem_of_lookup h1) (PySem.mem_of_lookup h2)
 ·have hy : scope.names.lookup y = some .cell ∨ scope.names.lookup y = some .free:=hy
  rcases hy with hy | hy
  ·exact J5o hy
  ·exact absurd rfl (S.nofree _ (PySem.mem_of_lookup hy))
 ·exact Nat.le_of_lt (x.above y c (PySem.mem_of_lookup h))
 ·have hi : i < vs.length:=by
   unfold start at h2
   by_cases hi : i < vs.length
   ·exact hi
   ·rw [List.getElem?_append_right (by simpa using hi)] at h2
    rw [List.getElem?_replicate] at h2
    split at h2 <;> cases h2
  have ha : vs[i]? = some v:=by
   unfold start at h2
   rw [List.getElem?_append_left (by simpa using hi),List.getElem?_map] at h2
   cases e : vs[i]? with
   | none=>rw [e] at h2; cases h2
   | some a=>rw [e] at h2; cases h2; rfl
  obtain ⟨u,hu,rv⟩:=r.get ha
  have hp : ps[i]? = some y:=by
   rw [← S.pre,List.getElem?_take_of_lt (by omega)]; exact h1
  have ndP : ps.Nodup:=by rw [← S.pre]; exact S.nd.sublist (List.take_sublist _ _)
  refine ⟨u,rv,?_⟩
  rcases S.par y (List.mem_of_getElem? hp) with k | k
  ·exact .inl ⟨k,J4i ndP hp hu k⟩
  ·obtain ⟨c,e⟩:=J5o (n:=s.heap.objs.size + 1) k
   refine .inr ⟨.inl k,c,e,?_⟩
   have q:=x.cell y c e
   rw [J4g ndP hp hu (by show scope.names.lookup y ≠ _; rw [k]; decide)] at q
   exact q
 ·exact e0.hok.fresh (Nat.le_of_lt (x.above y c (PySem.mem_of_lookup h)))
 ·unfold start
  show _ = N.length
  rw [List.length_append,List.length_map,List.length_replicate]
  omega
theorem Jam {CX : CXT} {P : Program} {w : World} {K : PySem.W.Frag} {mg : Str → Option Value} {base : Heap} {k : Nat} {f : Addr} {name qual : Str} {params : Arguments} {body : List Stmt} {scope : Scope} {dV kV doc pm cdv ct oc : Value} {an od : Option Addr}
  {osl : Array (Option Value)} {N ps : List Str} {sp : Sp} (lk : K.lookup f = some ⟨oc,od,.func (PySem.W.fnOf name qual params body scope dV kV doc pm an cdv ct),osl⟩) (hcd : PySem.W.codeIn K cdv qual = true) (S : Jw N ps scope)
  (len : ∀ vs H Q E,sp vs H Q E → vs.length = ps.length)
  (hbody : ∀ (A : Around) (outer : List Env) (s : Shared) (H : Hp) (vs : List V) (Q : VK) (E : XK),Room k (A.deeper (envOfC qual scope s.heap.objs.size f cdv)) → sp vs H Q E →
   ∃ t,PSs (cxOf CX P w K mg base N qual scope f cdv A outer s H E) body t ∧ t { nx:=fun _ H'=>Q .non H',rt:=Q } (start N vs) H) :
  FnOk P w K mg base CX (k + 1) f (PySem.W.fnOf name qual params body scope dV kV doc pm an cdv ct) ps sp:=by
 refine ⟨len,fun A outer s H args us vs Q E hr e0 hb r hsp=>?_⟩
 have hl:=len _ _ _ _ hsp
 have KX : K.In s.heap:=e0.mod.kin.keeps fun b o e=>(e0.bs b o e).1
 have lim : s.heap.NoLimit:=e0.mod.nolimit.keeps fun b o e=>(e0.bs b o e).1
 have hkind : ∀ y ∈ ps.zip us,scope.names.lookup y.1 = some .local ∨ (scope.names.lookup y.1 = some .cell ∧ ((cellsFrom (s.heap.objs.size + 1) scope.names []).lookup y.1).isSome = true):=fun ⟨n,v⟩ hy=>by
  rcases S.par n (List.of_mem_zip hy).1 with q | q
  ·exact .inl q
  ·exact .inr ⟨q,PySem.W.cellsFrom_some _ _ _ (.inl q)⟩
 refine codeAny_call_function hr.depth (KX _ _ lk) rfl S.co S.gen rfl (PySem.W.codeRec_of KX hcd) (hb _ _ _ _ ?_)
 refine wpAny_newFunctionEnv_cells S.kind hkind fun env he s1 x=>?_
 subst he
 refine ⟨lim.keeps x.toInCall.keep,codeAny_func ?_⟩
 obtain ⟨t,ht,hq⟩:=hbody A outer s H vs Q E (hr.deeper _) hsp
 have I : Inv (cxOf CX P w K mg base N qual scope f cdv A outer s H E) [] (start N vs) H s1:=J82 S hr.hd e0 hl r x
 refine wpAny_mono (ht [] s1 (start N vs) H _ I hq) (fun fl s' hs=>?_) fun e s' hs=>hs
 have fin : ∀ {σ' : St} {H' : Hp} {v : V} {u : Value},Inv (cxOf CX P w K mg base N qual scope f cdv A outer s H E) [] σ' H' s' → RelV v u → Q v H' → CE outer P w H s Q u s' :=
  fun {σ' H' v u} J rv q=>⟨v,H',J.os,J.bare,J.base,J.hok,rv,q⟩
 cases fl with
 | ret u =>
  obtain ⟨v,σ',H',J,rv,q⟩:=hs
  exact fin J rv q
 | next =>
  obtain ⟨σ',H',J,q⟩:=hs
  exact fin (v:=V.non) (u:=Value.none) J rfl q
 | brk =>
  obtain ⟨_,_,_,q⟩:=hs
  exact False.elim q
 | cont =>
  obtain ⟨_,_,_,q⟩:=hs
  exact False.elim q
end L2
namespace L2
open PySem PySem.Spec PyProof.Rows
section
variable {X : Cx} {x : Str} {p pos : Pos} {e : Expr} {es : List Expr} {t : TA} {id T : String} {r : List V → Hp → VK → Prop}
noncomputable def tCB (r : List V → Hp → VK → Prop) (t : TA) : TE:=fun σ H Q=>t σ H fun vs H1=>r vs H1 Q
theorem Jp (hc : J1m X (.builtin id) r) (hg : Gl X x) (hm : X.mg x = none) (hv : bootBuiltins x = some (.builtin id)) (ha : PA X (e :: es) t) (hn : x ≠ "__name__":=by decide) (hdb : (x == ("__debug__" : Str)) = false:=by decide)
  (he : starEach (e :: es) X.env = (false,eval e X.env) :: starEach es X.env:=by rfl) (hpl : (backTo pos (starEach es X.env)).any (·.1) = false:=by rfl) : PE X (.Call (.Name x p) (e :: es) [] pos) (tCB r t):=by
 intro pins s σ H Q I h
 refine wpAny_Call_Name_kw (J2r I hg hm hv ?_ hn hdb)
 exact PyProof.Rows.callWith_builtin1 (thn (ha pos pins s σ H _ I h) fun us s1 ⟨vs,H1,I1,r1,q1⟩=>hc pins s1 σ H1 vs us Q I1 r1 q1) he hpl
theorem J0q (hc : J1m X (.type T) r) (hg : Gl X x) (hm : X.mg x = none) (hv : bootBuiltins x = some (.type T)) (ha : PA X (e :: es) t) (hn : x ≠ "__name__":=by decide) (hdb : (x == ("__debug__" : Str)) = false:=by decide)
  (he : starEach (e :: es) X.env = (false,eval e X.env) :: starEach es X.env:=by rfl) (hpl : (backTo pos (starEach es X.env)).any (·.1) = false:=by rfl) : PE X (.Call (.Name x p) (e :: es) [] pos) (tCB r t):=by
 intro pins s σ H Q I h
 refine wpAny_Call_Name_kw (J2r I hg hm hv ?_ hn hdb)
 exact PyProof.Rows.callWith_type1 (thn (ha pos pins s σ H _ I h) fun us s1 ⟨vs,H1,I1,r1,q1⟩=>hc pins s1 σ H1 vs us Q I1 r1 q1) he hpl
end
end L2
namespace HT
open PySem PyProof.Rows
section
open PySem.SeqAt
open PySem.AutoSeq1 (wpAny_loadPart')
open PySem.MeetsSeq PySem.MeetsSeq2 PySem.MeetsSeq3
end
section
variable {prog : Program} {w : World} {A : Around} {E : Value → Shared → Prop} {s : Shared}
noncomputable def sIx (n d : Nat) : Option Int → Nat
 | none=>d
 | some v=>if v < 0 then (v + (n : Int)).toNat else min v.toNat n
theorem sIx_none (n d : Nat) : sIx n d none = d:=rfl
end
end HT
namespace L2
open PySem PySem.Spec PyProof.Rows
noncomputable abbrev TO:=St → Hp → (Option Int → Hp → Prop) → Prop
noncomputable def PO (X : Cx) (e : Option Expr) (t : TO) : Prop :=
 ∀ (pins : List (Addr × Obj)) (s : Shared) (σ : St) (H : Hp) (Q : Option Int → Hp → Prop),Inv X pins σ H s → t σ H Q →
  wpAny (model X.prog X.w) X.A (evalPart e X.env) (fun u s'=>∃ o H',Inv X pins σ H' s' ∧ IsPart u o ∧ Q o H') X.xe s
noncomputable def Jag : TO:=fun _ H Q=>Q none H
noncomputable def Jcr (t : TE) : TO:=fun σ H Q=>t σ H fun x H1=>∃ i,x = .int i ∧ Q (some i) H1
section
variable {X : Cx} {e : Expr} {te : TE} {lo hi : Option Expr} {tl th : TO} {pos p2 : Pos}
theorem J51 : PO X none Jag:=by
 intro pins s σ H Q I h
 rw [evalPart_none]
 exact wpAny_pure ⟨none,H,I,.none,h⟩
theorem J2x (h : PE X e te) : PO X (some e) (Jcr te):=by
 intro pins s σ H Q I hw
 rw [evalPart_some]
 refine thn (h pins s σ H _ I hw) fun u s1 ⟨x,H1,I1,r1,q1⟩=>?_
 obtain ⟨i,rfl,q⟩:=q1
 obtain ⟨t,rfl⟩:=r1
 exact ⟨some i,H1,I1,.int i t,q⟩
noncomputable def SlR (X : Cx) (r : V → Option Int → Option Int → Hp → VK → Prop) : Prop :=
 ∀ (pins : List (Addr × Obj)) (s : Shared) (σ : St) (H : Hp) (x : V) (v vl vu : Value) (lo hi : Option Int) (sl : Addr) (Q : VK),Inv X pins σ H s → RelV x v → s.heap.IsSliceOf sl vl vu .none → IsPart vl lo → IsPart vu hi → r x lo hi H Q →
  ∃ T id,typeLookup (.type T) "__getitem__" = pure (some (.builtin id)) ∧ s.TypeIs v T ∧ wpAny (model X.prog X.w) X.A (getItem v (.ref sl)) (EP X pins σ Q) X.xe s
noncomputable def tSl (r : V → Option Int → Option Int → Hp → VK → Prop) (te : TE) (tl th : TO) : TE:=fun σ H Q=>te σ H fun x H1=>tl σ H1 fun l H2=>th σ H2 fun u H3=>r x l u H3 Q
theorem J2B {r : V → Option Int → Option Int → Hp → VK → Prop} (hr : SlR X r) (he : PE X e te) (hl : PO X lo tl) (hu : PO X hi th) : PE X (.Subscript e (.Slice lo hi none p2) pos) (tSl r te tl th):=by
 intro pins s σ H Q I h
 refine Subscript_ (thn (he pins s σ H _ I h) fun v s1 ⟨x,H1,I1,r1,q1⟩=>?_)
 refine wpAny_Slice (thn (hl pins s1 σ H1 _ I1 q1) fun vl s2 ⟨l,H2,I2,pl,q2⟩=>thn (hu pins s2 σ H2 _ I2 q2) fun vu s3 ⟨u,H3,I3,pu,q3⟩=>?_)
 rw [evalPart_none]
 refine wpAny_pure ?_
 have I4 : Inv X pins σ H3 { s3 with heap:=s3.heap.push { cls:=.type "slice",data:=.fields #[vl,vu,.none] } }:=I3.kept (t':=s3.toks) fun b ob q=>Heap.get?_push_of_some _ q
 obtain ⟨T,id,hT,ht,hg⟩:=hr pins { s3 with heap:=s3.heap.push { cls:=.type "slice",data:=.fields #[vl,vu,.none] } } σ H3 x v vl vu l u s3.heap.objs.size Q I4 r1 (Heap.IsSliceOf.new ..) pl pu q3
 show wpAny (model X.prog X.w) X.A (subscriptTail e (.Slice lo hi none p2) v (.ref s3.heap.objs.size)) (EP X pins σ Q) X.xe { s3 with heap:=s3.heap.push { cls:=.type "slice",data:=.fields #[vl,vu,.none] } }
 exact tail_any (ops:=[.ref s3.heap.objs.size,v]) ht hT hg (by with_unfolding_all rfl)
noncomputable def cutV (xs : List V) (lo hi : Option Int) : List V:=(xs.drop (HT.sIx xs.length 0 lo)).take (HT.sIx xs.length xs.length hi - HT.sIx xs.length 0 lo)
theorem J5A (xs : List V) (lo hi : Option Int) : (cutV xs lo hi).length ≤ xs.length:=by
 unfold cutV
 rw [List.length_take,List.length_drop]
 omega
end
end L2
namespace L2
open PySem PySem.Spec PyProof.Rows
noncomputable def ixN (n : Nat) (i : Int) : Option Nat:=if 0 ≤ i then (if i < n then some i.toNat else none) else if -(n : Int) ≤ i then some (i + n).toNat else none
noncomputable def atI {α : Type} (xs : List α) (i : Int) : Option α:=(ixN xs.length i).bind fun j=>xs[j]?
theorem J70 {n : Nat} {i : Int} {j : Nat} (h : ixN n i = some j) : seqIndex? i n = some j ∧ j < n ∧ -(n : Int) ≤ i ∧ i < n:=by
 unfold ixN at h
 by_cases h0 : 0 ≤ i
 ·rw [if_pos h0] at h
  by_cases h1 : i < n
  ·rw [if_pos h1] at h
   have e : i.toNat = j:=Option.some.inj h
   exact ⟨by rw [seqIndex_of h0 h1,e],by omega,by omega,h1⟩
  ·rw [if_neg h1] at h; cases h
 ·rw [if_neg h0] at h
  by_cases h1 : -(n : Int) ≤ i
  ·rw [if_pos h1] at h
   have e : (i + n).toNat = j:=Option.some.inj h
   exact ⟨by rw [seqIndex_neg (by omega) h1,e],by omega,h1,by omega⟩
  ·rw [if_neg h1] at h; cases h
theorem J50 {α : Type} {xs : List α} {i : Int} {v : α} (h : atI xs i = some v) : ∃ j,seqIndex? i xs.length = some j ∧ xs[j]? = some v ∧ j < xs.length ∧ -(xs.length : Int) ≤ i ∧ i < xs.length:=by
 unfold atI at h
 cases e : ixN xs.length i with
 | none=>rw [e] at h; cases h
 | some j =>
  rw [e] at h
  obtain ⟨h1,h2,h3,h4⟩:=J70 e
  exact ⟨j,h1,h,h2,h3,h4⟩
theorem J0z {α : Type} {xs : List α} {j : Nat} {v : α} (h : xs[j]? = some v) : atI xs (j : Int) = some v:=by
 have hj : j < xs.length:=(List.getElem?_eq_some_iff.mp h).1
 have e : ixN xs.length (j : Int) = some j:=by
  unfold ixN
  rw [if_pos (by omega),if_pos (by omega)]; simp
 unfold atI; rw [e]; exact h
noncomputable def Ja1 (b : Expr) : Prop:=∀ o i,subscripted b false o i = operate [o,i] (getItem o i)
noncomputable def IxR (X : Cx) (r : R2) : Prop :=
 ∀ (value slice : Expr) (pins : List (Addr × Obj)) (s : Shared) (σ : St) (H : Hp) (x y : V) (v u : Value) (Q : VK),Inv X pins σ H s → RelV x v → RelV y u → r x y H Q →
  subscripted slice false v u = operate [v,u] (getItem v u) → wpAny (model X.prog X.w) X.A (subscriptTail value slice v u) (EP X pins σ Q) X.xe s
noncomputable def MtR (X : Cx) (id : String) (r : V → List V → Hp → VK → Prop) : Prop :=
 ∀ (pins : List (Addr × Obj)) (s : Shared) (σ : St) (H : Hp) (x : V) (xs : List V) (v : Value) (us : List Value) (Q : VK),Inv X pins σ H s → RelV x v → Vals xs us → r x xs H Q →
  wpAny (model X.prog X.w) X.A (call (.builtin id) (v :: us)) (EP X pins σ Q) X.xe s
section
variable {X : Cx} {a b : Expr} {ta tb : TE} {pos : Pos}
theorem Jg {r : R2} (hr : IxR X r) (ha : PE X a ta) (hb : PE X b tb) (hs : Ja1 b) : PE X (.Subscript a b pos) (tOp r ta tb):=by
 intro pins s σ H Q I h
 exact Subscript_ (binT ha hb I h fun v u s2 x y H2 I2 rx ry q=>hr a b pins s2 σ H2 x y v u Q I2 rx ry q (hs _ _))
noncomputable def rIxL (K : PySem.W.Frag) : R2:=fun x y H Q=>∃ p xs i v,x = .ref p ∧ y = .int i ∧ SqL K H p xs ∧ atI xs i = some v ∧ Q v H
noncomputable def rIxT (K : PySem.W.Frag) : R2:=fun x y H Q=>∃ p xs i v,x = .ref p ∧ y = .int i ∧ SqT K H p xs ∧ atI xs i = some v ∧ Q v H
theorem J9R : IxR X (rIxL X.K):=by
 intro value slice pins s σ H x y v u Q I rx ry h hs
 obtain ⟨p,xs,i,z,rfl,rfl,hq,he,q⟩:=h
 cases rx
 obtain ⟨t,rfl⟩:=ry
 obtain ⟨its,r,pl,hz⟩:=I.list hq
 obtain ⟨j,h1,h2,h3,h4,h5⟩:=J50 he
 obtain ⟨w,ew,rw'⟩:=r.get h2
 have hl:=r.length
 have hn:=J2P
 have fin : EP X pins σ Q w s:=⟨z,H,I,rw',q⟩
 by_cases h0 : 0 ≤ i
 ·have hj : i.toNat = j:=by
   rw [seqIndex_of h0 h5] at h1
   exact Option.some.inj h1
  exact item_listR pl.isList h0 (by omega) (by rw [hj]; simpa using ew) fin hs
 ·have hj : (i + (its.toArray.size : Int)).toNat = j:=by
   rw [seqIndex_neg (by omega) h4] at h1
   rw [List.size_toArray,← hl]
   exact Option.some.inj h1
  exact subscriptTail_builtinR (x:=w) pl.isList.typeIs slot_list_getitem.lookup
   (wpAny_getItem_list_neg (Q:=fun r s'=>r = w ∧ EP X pins σ Q r s') pl.isList (by omega) (by rw [List.size_toArray] <;> omega) (by omega) (by rw [hj]; simpa using ew) ⟨rfl,fin⟩) hs
theorem Jc0 : IxR X (rIxT X.K):=by
 intro value slice pins s σ H x y v u Q I rx ry h hs
 obtain ⟨p,xs,i,z,rfl,rfl,hq,he,q⟩:=h
 cases rx
 obtain ⟨t,rfl⟩:=ry
 obtain ⟨its,r,pl,hz⟩:=I.tuple hq
 obtain ⟨j,h1,h2,h3,h4,h5⟩:=J50 he
 obtain ⟨w,ew,rw'⟩:=r.get h2
 have hl:=r.length
 have hn:=J2P
 have fin : EP X pins σ Q w s:=⟨z,H,I,rw',q⟩
 exact subscriptTail_builtinR (x:=w) pl.typeIs slot_tuple_getitem.lookup
  (getItem_tuple (j:=j) (Q:=fun r s'=>r = w ∧ EP X pins σ Q r s') pl (by omega) (by omega) (by rw [List.size_toArray,← hl]; exact h1) (by simpa using ew) ⟨rfl,fin⟩) hs
theorem J6e (its : List Value) (n j : Nat) (u : Value) : Obj.mapSeq (·.setIfInBounds j u) { cls:=.type "list",data:=.seq its.toArray n } = { cls:=.type "list",data:=.seq (its.set j u).toArray n }:=by
 simp [Obj.mapSeq]
theorem Inv.lst {pins : List (Addr × Obj)} {σ : St} {H : Hp} {s : Shared} {p : Addr} {xs : List V} (I : Inv X pins σ H s) (h : H p = some (.lst xs)) :
  ∃ (its : List Value) (n : Nat),Vals xs its ∧ s.heap.get? p = some { cls:=.type "list",data:=.seq its.toArray n } ∧ xs.length ≤ sizeLine:=by
 obtain ⟨z,its,n,r,e⟩:=I.hok p _ h
 exact ⟨its,n,r,e,z⟩
theorem Inv.lstUpd {pins : List (Addr × Obj)} {σ : St} {H : Hp} {s : Shared} {p : Addr} {xs ys : List V} {its its' : List Value} {n n' : Nat} {f : Obj → Obj} (I : Inv X pins σ H s) (h : H p = some (.lst xs))
  (ho : s.heap.get? p = some { cls:=.type "list",data:=.seq its.toArray n }) (hf : f { cls:=.type "list",data:=.seq its.toArray n } = { cls:=.type "list",data:=.seq its'.toArray n' }) (r : Vals ys its') (hz : ys.length ≤ sizeLine) (t : Nat) :
  Inv X pins σ (upd H p (.lst ys)) { s with heap:=s.heap.update p f,toks:=t }:=by
 have e : (s.heap.update p f).get? p = some { cls:=.type "list",data:=.seq its'.toArray n' }:=by
  rw [Heap.get?_update_self f ho (by rw [hf] <;> rfl),hf]
 refine I.write (x:=p) (e:=p) (by rw [h]; trivial) (.inl rfl) (fun b u hb q=>(Heap.get?_update_other _ _ (Ne.symm hb)).trans q) ⟨_,e⟩ ?_
 exact ⟨hz,its',n',r,e⟩
noncomputable def Jcy : V → V → V → Hp → (Hp → Prop) → Prop:=fun o i v H Q=>∃ p xs k j,o = .ref p ∧ i = .int k ∧ H p = some (.lst xs) ∧ ixN xs.length k = some j ∧ Q (upd H p (.lst (xs.set j v)))
theorem J0u : PSet X Jcy:=by
 intro pins s σ H o i v ov iv u Q I ro ri rv h
 obtain ⟨p,xs,k,j,rfl,rfl,hp,hj,q⟩:=h
 cases ro
 obtain ⟨t,rfl⟩:=ri
 obtain ⟨its,n,r,ho,hz⟩:=I.lst hp
 obtain ⟨h1,h2,h3,h4⟩:=J70 hj
 have hl:=r.length
 have hn:=J2P
 have I' : Inv X pins σ (upd H p (.lst (xs.set j v))) { s with heap:=s.heap.update p (Obj.mapSeq (·.setIfInBounds j u)) } :=
  I.lstUpd hp ho (J6e its n j u) (r.set rv j) (by rw [List.length_set]; exact hz) s.toks
 by_cases h0 : 0 ≤ k
 ·have hk : k.toNat = j:=by
   rw [seqIndex_of h0 h4] at h1
   exact Option.some.inj h1
  exact PySem.W.ki_setAt ho h0 (by omega) (by rw [List.size_toArray,← hl]; exact h4) (by rw [hk]; exact ⟨_,I',q⟩)
 ·have hk : (k + (its.toArray.size : Int)).toNat = j:=by
   rw [seqIndex_neg (by omega) h3] at h1
   rw [List.size_toArray,← hl]
   exact Option.some.inj h1
  exact PySem.W.ki_setBack ho (by omega) (by rw [List.size_toArray,← hl]; exact h3) (by omega) (by rw [hk]; exact ⟨_,I',q⟩)
theorem J52 (lo hi : Option Int) (n : Nat) : (sliceBounds lo hi none n).1 = ((HT.sIx n 0 lo : Nat) : Int) ∧ (sliceBounds lo hi none n).2.1 = ((HT.sIx n n hi : Nat) : Int) ∧ (sliceBounds lo hi none n).2.2 = 1:=by
 refine ⟨?_,?_,rfl⟩
 ·cases lo with
  | none=>simp [sliceBounds,HT.sIx]
  | some i =>
   simp only [sliceBounds,HT.sIx,Option.getD_none,show (1 : Int) > 0 by decide,if_true]
   by_cases h : i < 0
   ·simp only [h,if_true] <;> omega
   ·simp only [h,if_false] <;> omega
 ·cases hi with
  | none=>simp [sliceBounds,HT.sIx]
  | some i =>
   simp only [sliceBounds,HT.sIx,Option.getD_none,show (1 : Int) > 0 by decide,if_true]
   by_cases h : i < 0
   ·simp only [h,if_true] <;> omega
   ·simp only [h,if_false] <;> omega
theorem J40 (its : List Value) (lo hi : Option Int) : slicePick its.toArray lo hi none = ((its.drop (HT.sIx its.length 0 lo)).take (HT.sIx its.length its.length hi - HT.sIx its.length 0 lo)).toArray:=by
 obtain ⟨h1,h2,h3⟩:=J52 lo hi its.toArray.size
 unfold slicePick
 rw [h1,h2,h3]
 simp only [sliceRange_one,pick_run,List.size_toArray] <;> rfl
noncomputable def rSlL (K : PySem.W.Frag) : V → Option Int → Option Int → Hp → VK → Prop:=fun x lo hi H Q=>∃ a xs,x = .ref a ∧ SqL K H a xs ∧ ∀ p,H p = none → Q (.ref p) (upd H p (.lst (cutV xs lo hi)))
theorem J9S : SlR X (rSlL X.K):=by
 intro pins s σ H x v vl vu lo hi sl Q I rx hs pl pu h
 obtain ⟨a,xs,rfl,hx,q⟩:=h
 cases rx
 obtain ⟨its,r,ht,hz⟩:=I.list hx
 have hlen:=r.length
 refine ⟨"list",_,slot_list_getitem.lookup,ht.isList.typeIs,?_⟩
 refine wpAny_getItem_list_slice ht.isList hs pl pu .none (by simp) ?_ (by rw [List.size_toArray] <;> omega)
 rw [J40,← hlen]
 refine ⟨.ref s.heap.objs.size,_,I.laid (t':=s.toks) (o:=.lst (cutV xs lo hi)) (fun b ob q=>Heap.get?_push_of_some _ q) (Nat.le_refl _) ?_,rfl,q _ (I.hok.fresh (Nat.le_refl _))⟩
 exact ⟨Nat.le_trans (J5A xs lo hi) hz,_,0,(r.drop (HT.sIx xs.length 0 lo)).take (HT.sIx xs.length xs.length hi - HT.sIx xs.length 0 lo),Heap.get?_push_size _ rfl⟩
noncomputable def J0E : V → Bool
 | .non=>true
 | .bl _=>true
 | .int _=>true
 | .str _=>true
 | _=>false
noncomputable def eqV : V → V → Bool
 | .non,.non=>true
 | .bl a,.bl b=>a == b
 | .bl a,.int b=>(if a then 1 else 0) == b
 | .int a,.bl b=>a == (if b then 1 else 0)
 | .int a,.int b=>a == b
 | .str a,.str b=>a == b
 | _,_=>false
theorem J9u {A : Around} {s : Shared} {y x : V} {u v : Value} (ry : RelV y u) (rx : RelV x v) (fy : J0E y = true) (fx : J0E x = true) : SeqAt.EqAt A s u v (eqV y x):=by
 cases y with
 | non =>
  cases ry
  cases x with
  | non=>cases rx; exact SeqAt.EqAt.same _
  | bl b=>cases rx; exact SeqAt.EqAt.none_bool b
  | int b=>obtain ⟨t,rfl⟩:=rx; exact SeqAt.EqAt.none_int b t
  | str b=>obtain ⟨t,rfl⟩:=rx; exact SeqAt.EqAt.none_str b t
  | _=>exact absurd (show false = true from fx) Bool.false_ne_true
 | bl a =>
  cases ry
  cases x with
  | non=>cases rx; exact SeqAt.EqAt.bool_none a
  | bl b=>cases rx; exact SeqAt.EqAt.bool_bool a b
  | int b=>obtain ⟨t,rfl⟩:=rx; exact SeqAt.EqAt.bool_int a b t
  | str b=>obtain ⟨t,rfl⟩:=rx; exact SeqAt.EqAt.bool_str a b t
  | _=>exact absurd (show false = true from fx) Bool.false_ne_true
 | int a =>
  obtain ⟨t',rfl⟩:=ry
  cases x with
  | non=>cases rx; exact SeqAt.EqAt.int_none a t'
  | bl b=>cases rx; exact SeqAt.EqAt.int_bool a t' b
  | int b=>obtain ⟨t,rfl⟩:=rx; exact SeqAt.EqAt.int_int a t' b t
  | str b=>obtain ⟨t,rfl⟩:=rx; exact SeqAt.EqAt.int_str a t' b t
  | _=>exact absurd (show false = true from fx) Bool.false_ne_true
 | str a =>
  obtain ⟨t',rfl⟩:=ry
  cases x with
  | non=>cases rx; exact SeqAt.EqAt.str_none a t'
  | bl b=>cases rx; exact SeqAt.EqAt.str_bool a t' b
  | int b=>obtain ⟨t,rfl⟩:=rx; exact SeqAt.EqAt.str_int a t' b t
  | str b=>obtain ⟨t,rfl⟩:=rx; exact SeqAt.EqAt.str_str a t' b t
  | _=>exact absurd (show false = true from fx) Bool.false_ne_true
 | _=>exact absurd (show false = true from fy) Bool.false_ne_true
noncomputable def eqU (x : V) (u : Value) : Bool:=match u with
 | .none=>eqV .non x
 | .bool b=>eqV (.bl b) x
 | .int i _=>eqV (.int i) x
 | .str z _=>eqV (.str z) x
 | _=>false
theorem J97 {x y : V} {u : Value} (r : RelV y u) (f : J0E y = true) : eqU x u = eqV y x:=by
 cases y with
 | non=>cases r; rfl
 | bl b=>cases r; rfl
 | int i=>obtain ⟨t,rfl⟩:=r; rfl
 | str z=>obtain ⟨t,rfl⟩:=r; rfl
 | _=>exact absurd (show false = true from f) Bool.false_ne_true
theorem J2E {x : V} : ∀ {xs : List V} {us : List Value},Vals xs us → xs.all J0E = true → us.any (eqU x) = xs.any fun y=>eqV y x
 | _,_,.nil,_=>rfl
 | y :: xs,u :: us,.cons r t,f=>by
  rw [List.all_cons,Bool.and_eq_true] at f
  rw [List.any_cons,List.any_cons,J97 r f.1,J2E t f.2]
theorem J27 {A : Around} {s : Shared} {x : V} {v : Value} (rx : RelV x v) (fx : J0E x = true) : ∀ {xs : List V} {us : List Value},Vals xs us → xs.all J0E = true → ∀ u ∈ us,SeqAt.EqAt A s u v (eqU x u)
 | _,_,.nil,_=>fun u hu=>by cases hu
 | y :: xs,u :: us,.cons r t,f=>fun u' hu=>by
  rw [List.all_cons,Bool.and_eq_true] at f
  rcases List.mem_cons.mp hu with rfl | hu
  ·rw [J97 r f.1]; exact J9u r rx f.1 fx
  ·exact J27 rx fx t f.2 u' hu
noncomputable def inV (x : V) (xs : List V) : Bool:=xs.any fun y=>eqV y x
noncomputable def rIn (K : PySem.W.Frag) (neg : Bool) : R2:=fun x y H Q=>∃ p xs,y = .ref p ∧ (SqL K H p xs ∨ SqT K H p xs) ∧ J0E x = true ∧ xs.all J0E = true ∧ Q (.bl (if neg then !inV x xs else inV x xs)) H
theorem J7q : OpR X (compareOp .In) (rIn X.K false):=by
 intro pins s σ H x y v u Q I rx ry h
 obtain ⟨p,xs,rfl,hq,fx,fs,q⟩:=h
 cases ry
 rcases hq with hq | hq
 ·obtain ⟨its,r,pl,hz⟩:=I.list hq
  refine SeqAt.in_listAt (eqU x) pl.isList (fun w hw=>J27 rx fx r fs w (by simpa using hw)) ⟨.bl _,H,I,rfl,?_⟩
  rw [show its.toArray.any (eqU x) = its.any (eqU x) by simp,J2E r fs]
  exact q
 ·obtain ⟨its,r,pl,hz⟩:=I.tuple hq
  refine SeqAt.in_tupleAt (eqU x) pl (fun w hw=>J27 rx fx r fs w (by simpa using hw)) ⟨.bl _,H,I,rfl,?_⟩
  rw [show its.toArray.any (eqU x) = its.any (eqU x) by simp,J2E r fs]
  exact q
theorem J4V : OpR X (compareOp .NotIn) (rIn X.K true):=by
 intro pins s σ H x y v u Q I rx ry h
 obtain ⟨p,xs,rfl,hq,fx,fs,q⟩:=h
 cases ry
 rcases hq with hq | hq
 ·obtain ⟨its,r,pl,hz⟩:=I.list hq
  refine SeqAt.notIn_listAt (eqU x) pl.isList (fun w hw=>J27 rx fx r fs w (by simpa using hw)) ⟨.bl _,H,I,rfl,?_⟩
  rw [show its.toArray.any (eqU x) = its.any (eqU x) by simp,J2E r fs]
  exact q
 ·obtain ⟨its,r,pl,hz⟩:=I.tuple hq
  refine SeqAt.notIn_tupleAt (eqU x) pl (fun w hw=>J27 rx fx r fs w (by simpa using hw)) ⟨.bl _,H,I,rfl,?_⟩
  rw [show its.toArray.any (eqU x) = its.any (eqU x) by simp,J2E r fs]
  exact q
theorem J4Q : J1m X (.builtin "len") (fun xs H Q=>∃ p ys,xs = [.ref p] ∧ (SqL X.K H p ys ∨ SqT X.K H p ys) ∧ Q (.int ys.length) H):=by
 intro pins s σ H xs us Q I r h
 obtain ⟨p,ys,rfl,hq,q⟩:=h
 obtain ⟨u,rfl,rx⟩:=Jaw r
 cases rx
 have hn:=J2P
 rcases hq with hq | hq
 ·obtain ⟨its,r',pl,hz⟩:=I.list hq
  have hlen:=r'.length
  exact Calls.call_len_list pl.isList (by simp only [List.size_toArray] <;> omega) ⟨.int ys.length,H,I.tok _,⟨s.toks + 1,by rw [List.size_toArray,hlen]⟩,q⟩
 ·obtain ⟨its,r',pl,hz⟩:=I.tuple hq
  have hlen:=r'.length
  exact len_tuple pl (by simp only [List.size_toArray] <;> omega) ⟨.int ys.length,H,I.tok _,⟨s.toks + 1,by rw [List.size_toArray,hlen]⟩,q⟩
theorem J00 : J1m X (.type "list") (fun xs H Q=>∃ p ys,xs = [.ref p] ∧ (SqL X.K H p ys ∨ SqT X.K H p ys) ∧ ∀ l,H l = none → Q (.ref l) (upd H l (.lst ys))):=by
 intro pins s σ H xs us Q I r h
 obtain ⟨p,ys,rfl,hq,q⟩:=h
 obtain ⟨u,rfl,rx⟩:=Jaw r
 cases rx
 have fin : ∀ (its : List Value),Vals ys its → ys.length ≤ sizeLine → ∀ (h' : Heap) (c' : Nat),(∀ b o',s.heap.get? b = some o' → h'.get? b = some o') →
   h'.get? s.heap.objs.size = some { cls:=.type "list",dict:=none,data:=.seq its.toArray c',slots:=#[] } → EP X pins σ Q (.ref s.heap.objs.size) { s with heap:=h' }:=fun its r' hz h' c' kp e =>
  ⟨.ref s.heap.objs.size,_,I.laid (t':=s.toks) kp (Nat.le_refl _) (show J0a X.prog X.w _ h' _ (.lst ys) from ⟨hz,its,c',r',e⟩),rfl,q _ (I.hok.fresh (Nat.le_refl _))⟩
 rcases hq with hq | hq
 ·obtain ⟨its,r',pl,hz⟩:=I.list hq
  have hlen:=r'.length
  obtain ⟨o,ho,hc,n,hd⟩:=pl.isList
  exact call_list_seq p (.inl rfl) ho hc hd (fun h' c' kp e=>fin its r' hz h' c' kp e) (by simp only [List.size_toArray] <;> omega)
 ·obtain ⟨its,r',pl,hz⟩:=I.tuple hq
  have hlen:=r'.length
  obtain ⟨o,ho,hc,n,hd⟩:=pl
  exact call_list_seq p (.inr rfl) ho hc hd (fun h' c' kp e=>fin its r' hz h' c' kp e) (by simp only [List.size_toArray] <;> omega)
noncomputable def tyV (K : PySem.W.Frag) (T : String) (x : V) (H : Hp) : Prop:=match x with
 | .str _=>T = "str"
 | .int _=>T = "int"
 | .ref p=>(T = "list" ∧ ∃ xs,SqL K H p xs) ∨ (T = "tuple" ∧ ∃ o,K.lookup p = some o ∧ o.cls = .type "tuple" ∧ o.dict = none) ∨
   (T = "dict" ∧ ((∃ kvs,H p = some (.dK kvs)) ∨ ∃ kvs,H p = some (.dT kvs))) ∨ (T = "set" ∧ ∃ S n,H p = some (.set S n))
 | _=>False
theorem J8Q {pins : List (Addr × Obj)} {σ : St} {H : Hp} {s : Shared} {T : String} {x : V} {v : Value} (I : Inv X pins σ H s) (r : RelV x v) (ty : tyV X.K T x H) :
  s.TypeIs v T ∧ ∀ a,v = .ref a → ∃ ob,s.heap.get? a = some ob ∧ ob.dict = none:=by
 cases x with
 | str z =>
  obtain ⟨t,rfl⟩:=r
  cases (show T = "str" from ty)
  exact ⟨typeIs_str s z t,fun _ e=>nomatch e⟩
 | int i =>
  obtain ⟨t,rfl⟩:=r
  cases (show T = "int" from ty)
  exact ⟨typeIs_int s i t,fun _ e=>nomatch e⟩
 | ref p =>
  cases r
  rcases ty with ⟨rfl,xs,hq⟩ | ⟨rfl,o,hk,hc,hd⟩ | ⟨rfl,hk⟩ | ⟨rfl,S,n,hk⟩
  ·obtain ⟨its,_,pl,_⟩:=I.list hq
   refine ⟨pl.isList.typeIs,fun a e=>?_⟩
   cases e
   obtain ⟨o,n,e,c,hd,_⟩:=pl
   exact ⟨o,e,hd⟩
  ·refine ⟨⟨o,I.kIn p o hk,hc⟩,fun a e=>?_⟩
   cases e
   exact ⟨o,I.kIn _ o hk,hd⟩
  ·have z : ∃ o,s.heap.get? p = some o ∧ o.ExactDict:=by
    rcases hk with ⟨kvs,hk⟩ | ⟨kvs,hk⟩
    ·obtain ⟨_,_,_,_,o,_,_,e,ex,_⟩:=I.hok p _ hk
     exact ⟨o,e,ex⟩
    ·obtain ⟨_,_,_,_,o,_,_,e,ex,_⟩:=I.hok p _ hk
     exact ⟨o,e,ex⟩
   obtain ⟨o,e,ex⟩:=z
   refine ⟨⟨o,e,ex.1⟩,fun a e2=>?_⟩
   cases e2
   exact ⟨o,e,ex.2.1⟩
  ·obtain ⟨o,_,_,_,e,ex,_⟩:=I.hok p _ hk
   refine ⟨⟨o,e,ex.1⟩,fun a e2=>?_⟩
   cases e2
   exact ⟨o,e,ex.2.1⟩
 | _=>exact False.elim ty
noncomputable def tBM0 (K : PySem.W.Frag) (T : String) (r : V → List V → Hp → VK → Prop) (to : TE) : TE:=fun σ H Q=>to σ H fun x H1=>tyV K T x H1 ∧ r x [] H1 Q
noncomputable def tBM (K : PySem.W.Frag) (T : String) (r : V → List V → Hp → VK → Prop) (to : TE) (t : TA) : TE:=fun σ H Q=>to σ H fun x H1=>tyV K T x H1 ∧ t σ H1 fun xs H2=>r x xs H2 Q
variable {o e : Expr} {es : List Expr} {to : TE} {t : TA} {name : Str} {apos cpos : Pos} {T id : String} {r : V → List V → Hp → VK → Prop}
theorem JbH (pa : PlainAttrs T) (slot : Slot T name id) (hty : typeOf (.builtin id) = pure (.type "method_descriptor")) (hm : MtR X id r) (ho : PE X o to)
  (hbase : attributeBase o name X.env (eval o X.env) = eval o X.env:=by rfl) (hline : (apos.endLine == cpos.line) = true:=by rfl) : PE X (.Call (.Attribute o name apos) [] [] cpos) (tBM0 X.K T r to):=by
 intro pins s σ H Q I h
 refine wpAny_Call_method0_late hbase hline (thn (ho pins s σ H _ I h) fun v s1 ⟨x,H1,I1,r1,ty,q1⟩=>?_)
 obtain ⟨h1,h2⟩:=J8Q I1 r1 ty
 exact ⟨T,id,pa,slot,hty,h1,h2,Calls.callWith_builtin rfl (PySem.evalArgs_none (hm pins s1 σ H1 x [] v [] Q I1 r1 .nil q1))⟩
theorem J33 (pa : PlainAttrs T) (slot : Slot T name id) (hty : typeOf (.builtin id) = pure (.type "method_descriptor")) (hm : MtR X id r) (ho : PE X o to) (ha : PA X (e :: es) t)
  (hbase : attributeBase o name X.env (eval o X.env) = eval o X.env:=by rfl)
  (hfew : ((backTo cpos (starEach (e :: es) X.env)).all (fun x=>!x.1) && (backToKw cpos (keywordEach [] X.env)).all (fun x=>x.1.isSome)
   && decide ((e :: es).length + ([] : List Keyword).length + (if ([] : List Keyword).isEmpty then 0 else 1) < 30)) = true:=by rfl)
  (hline : (apos.endLine == cpos.line) = true:=by rfl) (hs : starEach (e :: es) X.env = (false,eval e X.env) :: starEach es X.env:=by rfl) (hplain : (backTo cpos (starEach es X.env)).any (·.1) = false:=by rfl) :
  PE X (.Call (.Attribute o name apos) (e :: es) [] cpos) (tBM X.K T r to t):=by
 intro pins s σ H Q I h
 refine wpAny_Call_method_late hbase hfew hline rfl (thn (ho pins s σ H _ I h) fun v s1 ⟨x,H1,I1,r1,ty,q1⟩=>?_)
 obtain ⟨h1,h2⟩:=J8Q I1 r1 ty
 refine ⟨T,id,pa,slot,hty,h1,h2,?_⟩
 have hA:=ha cpos pins s1 σ H1 _ I1 q1
 rw [hs] at hA ⊢
 refine Calls.callWith_builtin (by show (false || (backTo cpos (starEach es X.env)).any (·.1)) = false; rw [hplain] <;> rfl) (Calls.evalArgs_plain ?_)
 exact thn hA fun us s2 ⟨vs,H2,I2,r2,q2⟩=>hm pins s2 σ H2 x vs v us Q I2 r1 r2 q2
end
end L2
namespace L2
open PySem PySem.Spec PyProof.Rows
noncomputable def MtM (X : Cx) (id : String) (r : V → List V → Hp → VK → Prop) : Prop :=
 ∀ (pins : List (Addr × Obj)) (s : Shared) (σ : St) (H : Hp) (x : V) (xs : List V) (v : Value) (us : List Value) (Q : VK),Inv X pins σ H s → RelV x v → Vals xs us → r x xs H Q →
  wpAny (model X.prog X.w) X.A (call (.builtin id) (v :: us)) (EP X pins σ Q) X.xe s
theorem Vals.one : ∀ {x : V} {us : List Value},Vals [x] us → ∃ u,us = [u] ∧ RelV x u
 | _,_,.cons r .nil=>⟨_,rfl,r⟩
theorem Vals.two : ∀ {x y : V} {us : List Value},Vals [x,y] us → ∃ u v,us = [u,v] ∧ RelV x u ∧ RelV y v
 | _,_,_,.cons r (.cons q .nil)=>⟨_,_,rfl,r,q⟩
theorem Vals.zero : ∀ {us : List Value},Vals [] us → us = []
 | _,.nil=>rfl
theorem Vals.rep {xs : List V} {us : List Value} (h : Vals xs us) : ∀ k : Nat,Vals (List.replicate k xs).flatten (List.replicate k us).flatten
 | 0=>.nil
 | k + 1=>by
  rw [List.replicate_succ,List.replicate_succ,List.flatten_cons,List.flatten_cons]
  exact Vals.append h (Vals.rep h k)
theorem J4h (its : List Value) : ∀ (k : Nat) (acc : List Value),
  List.foldl (fun x1 x2=>x1 ++ x2) acc.toArray (List.replicate k its.toArray) = (acc ++ (List.replicate k its).flatten).toArray
 | 0,acc=>by simp
 | k + 1,acc=>by
  have e : acc.toArray ++ its.toArray = (acc ++ its).toArray:=by simp
  have e2 : (acc ++ its) ++ (List.replicate k its).flatten = acc ++ (List.replicate (k + 1) its).flatten:=by
   rw [List.replicate_succ,List.flatten_cons,List.append_assoc]
  rw [← e2,← J4h its k (acc ++ its),← e,List.replicate_succ,List.foldl_cons]
section
variable {X : Cx} {pins : List (Addr × Obj)} {σ : St} {H : Hp} {s : Shared} {l b : Addr} {xs ys zs : List V}
theorem Inv.lset {its its' : List Value} {n : Nat} {f : Array Value → Array Value} {t' : Nat} (I : Inv X pins σ H s) (hH : H l = some (.lst xs))
  (e : s.heap.get? l = some { cls:=.type "list",data:=.seq its.toArray n }) (hf : f its.toArray = its'.toArray) (hv : Vals ys its') (hz : ys.length ≤ sizeLine) :
  Inv X pins σ (upd H l (.lst ys)) { s with heap:=s.heap.update l (Obj.mapSeq f),toks:=t' }:=by
 have q:=PySem.IsL.update e f
 rw [hf] at q
 refine I.write (x:=l) (e:=l) (by rw [hH]; exact trivial) (.inl rfl) (fun b' u hb hu=>(Heap.get?_update_other s.heap (Obj.mapSeq f) (Ne.symm hb)).trans hu) ⟨_,q⟩ ?_
 exact ⟨hz,its',_,hv,q⟩
theorem Inv.lnew {its : List Value} {t' : Nat} (I : Inv X pins σ H s) (hv : Vals ys its) (hz : ys.length ≤ sizeLine) :
  Inv X pins σ (upd H s.heap.objs.size (.lst ys)) { s with heap:=s.heap.push { cls:=.type "list",data:=.seq its.toArray },toks:=t' } :=
 I.laid (fun _ _ q=>Heap.get?_push_of_some _ q) (Nat.le_refl _) ⟨hz,its,0,hv,Heap.get?_push_size _ rfl⟩
theorem Inv.fresh (I : Inv X pins σ H s) : H s.heap.objs.size = none:=I.hok.fresh (Nat.le_refl _)
theorem Inv.lstM (I : Inv X pins σ H s) (hH : H l = some (.lst xs)) : xs.length ≤ sizeLine ∧ ∃ (its : List Value) (n : Nat),Vals xs its ∧ xs.length = its.length ∧ s.heap.get? l = some { cls:=.type "list",data:=.seq its.toArray n }:=by
 obtain ⟨z,its,n,r,e⟩:=I.hok l _ hH
 exact ⟨z,its,n,r,r.length,e⟩
theorem J9o {n : Nat} (h : n ≤ sizeLine) : Builtin.List.listTooLong n = false:=by
 unfold Builtin.List.listTooLong
 exact decide_eq_false (by omega)
end
section
variable {X : Cx}
noncomputable def Ja7 : V → List V → Hp → VK → Prop:=fun x vs H Q=>∃ l xs y,x = .ref l ∧ vs = [y] ∧ H l = some (.lst xs) ∧ xs.length < sizeLine ∧ Q .non (upd H l (.lst (xs ++ [y])))
theorem J0p : MtM X "list.append" Ja7:=by
 intro pins s σ H x vs v us Q I rx rv h
 obtain ⟨l,xs,y,rfl,rfl,hH,hz,q⟩:=h
 cases rx
 obtain ⟨u,rfl,ru⟩:=rv.one
 obtain ⟨z,its,n,r,hl,e⟩:=I.lstM hH
 refine call_meets F.slot_list_append ⟨_,e,rfl⟩ F.entry_list_append (F.args_list_append_2 _ _) (PySem.list_append l its.toArray n u (by rw [List.size_toArray]; omega)) ⟨e,?_⟩
 refine ⟨.non,_,I.lset (its':=its ++ [u]) hH e (by simp) (r.append (.cons ru .nil)) ?_,rfl,q⟩
 rw [List.length_append,List.length_singleton]
 omega
noncomputable def JbR : V → List V → Hp → VK → Prop:=fun x vs H Q=>∃ l xs,x = .ref l ∧ vs = [] ∧ H l = some (.lst xs) ∧ Q .non (upd H l (.lst []))
theorem J9g : MtM X "list.clear" JbR:=by
 intro pins s σ H x vs v us Q I rx rv h
 obtain ⟨l,xs,rfl,rfl,hH,q⟩:=h
 cases rx
 have hus:=rv.zero
 subst hus
 obtain ⟨z,its,n,r,hl,e⟩:=I.lstM hH
 refine call_meets F.slot_list_clear ⟨_,e,rfl⟩ F.entry_list_clear (F.args_list_clear_1 _) (AutoSeq1.list_clear_list_0 l its.toArray n (by rw [List.size_toArray]; omega)) ⟨e,?_⟩
 exact ⟨.non,_,I.lset (its':=[]) (ys:=[]) hH e rfl .nil (Nat.zero_le _),rfl,q⟩
noncomputable def rCat : R2:=fun x y H Q=>∃ l b xs zs,x = .ref l ∧ y = .ref b ∧ H l = some (.lst xs) ∧ H b = some (.lst zs) ∧ xs.length + zs.length ≤ sizeLine ∧ ∀ p,H p = none → Q (.ref p) (upd H p (.lst (xs ++ zs)))
theorem Jc1 : OpR X (binaryOp .Add) rCat:=by
 intro pins s σ H x y v u Q I rx ry h
 obtain ⟨l,b,xs,zs,rfl,rfl,hH,hB,hz,q⟩:=h
 cases rx
 cases ry
 obtain ⟨z,its,n,r,hl,e⟩:=I.lstM hH
 obtain ⟨z2,its2,n2,r2,hl2,e2⟩:=I.lstM hB
 refine PySem.P.add_list e e2 ?_ (by rw [List.size_toArray,List.size_toArray]; omega)
 have ea : its.toArray ++ its2.toArray = (its ++ its2).toArray:=by simp
 rw [ea]
 exact ⟨.ref _,_,I.lnew (t':=s.toks) (r.append r2) (by rw [List.length_append]; omega),rfl,q _ I.fresh⟩
noncomputable def rRep : R2:=fun x y H Q=>∃ l k xs,x = .ref l ∧ y = .int k ∧ H l = some (.lst xs) ∧ -(2 ^ 63) ≤ k ∧ k < 2 ^ 63 ∧ xs.length * k.toNat ≤ sizeLine ∧
 ∀ p,H p = none → Q (.ref p) (upd H p (.lst (List.replicate k.toNat xs).flatten))
theorem J9L {α : Type} (xs : List α) (k : Nat) : (List.replicate k xs).flatten.length = k * xs.length:=by
 induction k with
 | zero=>simp
 | succ k ih=>rw [List.replicate_succ,List.flatten_cons,List.length_append,ih,Nat.succ_mul,Nat.add_comm]
theorem J6A : OpR X (binaryOp .Mult) rRep:=by
 intro pins s σ H x y v u Q I rx ry h
 obtain ⟨l,k,xs,rfl,rfl,hH,h1,h2,hz,q⟩:=h
 cases rx
 obtain ⟨t,rfl⟩:=ry
 obtain ⟨z,its,n,r,hl,e⟩:=I.lstM hH
 have hlen : its.toArray.size * k.toNat ≤ sizeLine:=by rw [List.size_toArray,← hl]; exact hz
 have hcap : ¬ its.toArray.size * k.toNat > (2 ^ 63 - 1) / 8:=by
  have : (sizeLine : Nat) ≤ (2 ^ 63 - 1) / 8:=by decide
  omega
 have hfit : ¬ (!Builtin.List.listFitsIndex k) = true:=by
  rw [fitsIndex_both h1 h2]
  exact Bool.false_ne_true
 have hlong : ¬ Builtin.List.listTooLong (its.toArray.size * k.toNat) = true:=by
  rw [J9o hlen]
  exact Bool.false_ne_true
 have hnew : List.foldl (fun x1 x2=>x1 ++ x2) #[] (List.replicate (if its.toArray.isEmpty = true then 0 else k.toNat) its.toArray) = (List.replicate k.toNat its).flatten.toArray:=by
  have f0 : ∀ m : Nat,List.foldl (fun x1 x2=>x1 ++ x2) #[] (List.replicate m its.toArray) = (List.replicate m its).flatten.toArray:=fun m=>by
   have:=J4h its m []
   rw [List.nil_append] at this
   exact this
  rw [f0]
  cases its with
  | nil=>simp
  | cons a r'=>rw [if_neg (by simp)]
 refine wpAny_binaryOp_repeat_ref (T:="list") (U:="int") (by decide) ⟨_,e,rfl⟩ (fun s'=>typeIs_int s' k t) noFill_list_mul F.fills_int_mul F.slot_int_rmul repeat_list F.slot_int_index.lookup
  (call_meets F.slot_int_rmul (typeIs_int s k t) F.entry_int_rmul (F.args_int_rmul_2 _ _) (int___rmul___int_list k t l its.toArray n)
   ⟨e,rfl,⟨_,e,rfl⟩,call_meets F.slot_list_mul ⟨_,e,rfl⟩ F.entry_list_mul (F.args_list_mul_2 _ _) (AutoListH.list___mul___list_int_3 l its.toArray n k t hfit hcap hlong) ⟨e,?_⟩⟩)
 rw [hnew]
 exact ⟨.ref _,_,I.lnew (t':=s.toks) (r.rep k.toNat) (by rw [J9L,Nat.mul_comm]; exact hz),rfl,q _ I.fresh⟩
end
section
variable {prog : Program} {w : World} {A : Around} {E : Value → Shared → Prop} {s : Shared}
end
section
variable {X : Cx}
end
end L2
namespace Att
open PySem PySem.W PySem.Calls PyProof.Rows
theorem J38 {P : Params} {h : Heap} : ∀ (ns : List Int) (vs : List Value),WellAll P h vs (ns.map WData.int) → IntsAre vs ns:=by
 intro ns
 induction ns with
 | nil =>
  intro vs w
  rw [List.map_nil] at w
  cases w
  exact .nil
 | cons n ns ih =>
  intro vs w
  rw [List.map_cons] at w
  cases w with
  | cons a b =>
   cases a
   exact .cons _ _ (ih _ b)
theorem J7D {l : OpenLaw} {n : Nat} (hn : l.most = some n) {P : Params} {h : Heap} {args : List WData} {vals : List Value}
  (hpre : l.row.toRowW.claim.pre args = true) (hwl : WellAll P h vals args) :
  ∃ a vs ns,vals = [Value.ref a] ∧ args = [WData.list (ns.map WData.int)] ∧ h.get? a = some { cls:=.type "list",data:=.seq vs.toArray } ∧ IntsAre vs ns ∧ ns.length ≤ n:=by
 have hsh : WShape.hasAll [] args [.list .int] = true:=(pre_splitW hpre).1
 have hc : l.pre.holds [] { args:=args } = true:=(pre_splitW hpre).2
 obtain ⟨d,r,rfl,h1,h2⟩:=hasAllW_cons hsh
 obtain rfl:=hasAllW_nil h2
 obtain ⟨xs,rfl,h3⟩:=hasW_list h1
 obtain ⟨ns,rfl⟩:=items_int h3
 have hlen : ns.length ≤ n:=by
  unfold OpenLaw.pre at hc
  have h4 : (WTm.not (.lt (.lit (.int (n : Int))) (.len (.arg 0)))).holds [] { args:=[.list (ns.map .int)] } = true:=by
   have h4:=(holds_andW hc).1
   rw [hn] at h4
   exact h4
  have h5:=condW_of h4 (w_not (w_lt w_lit (w_len_list (w_arg rfl))))
  rw [List.length_map] at h5
  refine Nat.le_of_not_lt fun q=>?_
  have q' : (n : Int) < ((ns.length : Nat) : Int):=by omega
  first
   | (rw [decide_eq_true q'] at h5; exact absurd h5 (by decide))
   | (simp at h5; omega)
 cases hwl with
 | cons w1 w2 =>
  cases w2
  cases w1 with
  | list ho hall=>exact ⟨_,_,ns,rfl,rfl,ho,J38 ns _ hall,hlen⟩
theorem J7N (l : OpenLaw) (args : List WData) : l.row.toRowW.claim.post args (.bool true) args = true :=
 postW_of (r:=l.row.toRowW) (X:=(true == true))
  (show WShape.has [] (.bool true) .bool = true by first | rfl | decide | simp [WShape.has,WShape.arms,WShape.armsAll])
  (show (WTm.eq .res (.lit (.bool true))).value [] { args:=args,res:=some (.bool true),after:=args } = some (.bool (true == true)) from w_eq_bool (w_res rfl) w_lit) rfl
theorem attach_call {l : OpenLaw} {n : Nat} {q : Program} {loose : List Str} {XP : (Str → Option Value) → Heap → Prop} {YP : World → Heap → Prop} {d : DefRec}
  (hn : l.most = some n) (hdf : d.params.defaults = [])
  (call : ∀ (w : World) (s₀ s₁ : Shared) (mg mb : Str → Option Value) (fa : Addr) (o : Obj) (pm cd doc : Value) (a : Addr) (vs : List Value) (ns : List Int),
   Ground q loose [] XP w s₀ mg mb s₁.heap → YP w s₁.heap →
   s₁.heap.get? fa = some o → o.data = .func (docDef d.name d.params d.body d.scope pm cd doc) → s₁.heap.CodeRec cd d.name → mg d.name = some (.ref fa) →
   s₁.heap.get? a = some { cls:=.type "list",data:=.seq vs.toArray } → IntsAre vs ns → ns.length ≤ n → s₁.gens = #[] →
   codeAny (model l.prog w) callerA (.call (.ref fa) ⟨[.ref a],[]⟩) (fun r s'=>r = .ok (.ret (.bool true)) ∧ OldK s₁.heap s'.heap ∧ s'.os = s₁.os ∧ AllBare s'.gens) s₁) :
  WalkO q loose XP YP l.row.toRowW d [] (fun f vs=>PySem.call f vs):=by
 intro w s₀ s₁ mg mb G Y fa o pm cd doc dV kV ho hd hcd hD hmg hg args vals as hpre hlay hrd hwl hlo
 obtain rfl : dV = .none:=Dflts.none hD hdf
 obtain rfl : kV = .none:=Dflts.noKw hD
 obtain ⟨a,vs,ns,rfl,rfl,hobj,hints,hlen⟩:=J7D hn hpre hwl
 refine enter_call (codeAny_mono (call w s₀ s₁ mg mb fa o pm cd doc a vs ns G Y ho (fd_plain hd) hcd hmg hobj hints hlen hg) fun r s' hq=>?_)
 obtain ⟨rfl,h2,h3,h4⟩:=hq
 exact ⟨.inl ⟨.bool true,.bool true,[],rfl,fun _=>rfl,.bool true,J7N l _,fun _=>⟨List.Pairwise.nil,fun _ hm=>(nomatch hm)⟩⟩,h2,h3,h4⟩
section
variable {prog : Program} {w : World} {A : Around} {E : Value → Shared → Prop} {s : Shared} {K : Frag}
end
end Att
namespace L2
open PySem PySem.Spec PyProof.Rows
theorem J4c : ∀ {vs : List Value} {ns : List Int},IntsAre vs ns → Vals (ns.map V.int) vs
 | _,_,.nil=>.nil
 | _,_,.cons n t h=>.cons ⟨t,rfl⟩ (J4c h)
end L2
namespace L2
open PySem PySem.Spec PyProof.Rows
end L2
namespace L2
open PySem PySem.Spec PyProof.Rows
noncomputable def J71 (s : Stmt) (j : Nat) : Stmt:=match s with
 | .ClassDef _ _ _ body _ _ _ _ _ _ _=>body.getD j (.Pass ⟨0,0,0,0⟩)
 | _=>.Pass ⟨0,0,0,0⟩
noncomputable def Jh (s : Stmt) : Arguments:=match s with
 | .FunctionDef _ a _ _ _ _ _ _ _ _=>a
 | _=>{ posonlyargs:=[],args:=[],vararg:=none,kwonlyargs:=[],kw_defaults:=[],kwarg:=none,defaults:=[] }
noncomputable def Jf (s : Stmt) : List Stmt:=match s with
 | .FunctionDef _ _ b _ _ _ _ _ _ _=>b
 | _=>[]
noncomputable def J3 (s : Stmt) : Scope:=match s with
 | .FunctionDef _ _ _ _ _ _ sc _ _ _=>sc
 | _=>{ kind:=.function,names:=[],isGenerator:=false,isCoroutine:=false }
noncomputable abbrev CX0 : CXT:=fun _ _ _ _ _ _=>False
noncomputable abbrev E0 : XK:=fun _ _ _=>False
theorem Jar {X : Cx} : J4R CX0 X E0:=fun _ _ _ _ _ _ _ h=>h.elim
structure Fun (K : PySem.W.Frag) (x qual : Str) (st : Stmt) (f : Addr) (fd : FuncData) : Prop where
 ex : ∃ (oc : Value) (od : Option Addr) (kV doc pm : Value) (an : Option Addr) (cdv ct : Value) (osl : Array (Option Value)),
  fd = PySem.W.fnOf x qual (Jh st) (Jf st) (J3 st) .none kV doc pm an cdv ct ∧ K.lookup f = some ⟨oc,od,.func fd,osl⟩ ∧ PySem.W.codeIn K cdv qual = true
 kp : PySem.W.keepIn K (.ref f) = true
section
variable {P : Program} {w : World} {K : PySem.W.Frag} {mg : Str → Option Value} {base : Heap}
theorem Fun.ok {x qual : Str} {st : Stmt} {f : Addr} {fd : FuncData} {N ps : List Str} {k : Nat} {sp : Sp} (F : Fun K x qual st f fd) (S : Jw N ps (J3 st)) (len : ∀ vs H Q E,sp vs H Q E → vs.length = ps.length)
  (hbody : ∀ (cdv : Value) (A : Around) (outer : List Env) (s : Shared) (H : Hp) (vs : List V) (Q : VK) (E : XK),Room k (A.deeper (envOfC qual (J3 st) s.heap.objs.size f cdv)) → sp vs H Q E →
   ∃ t,PSs (cxOf CX0 P w K mg base N qual (J3 st) f cdv A outer s H E).nox (Jf st) t ∧ t { nx:=fun _ H'=>Q .non H',rt:=Q } (start N vs) H) : FnOk P w K mg base CX0 (k + 1) f fd ps sp:=by
 obtain ⟨oc,od,kV,doc,pm,an,cdv,ct,osl,rfl,lk,hcd⟩:=F.ex
 refine Jam lk hcd S len fun A outer s H vs Q E hr hsp=>?_
 obtain ⟨t,h,q⟩:=hbody cdv A outer s H vs Q E hr hsp
 exact ⟨t,h.nox,q⟩
theorem Fun.binds {x qual : Str} {st : Stmt} {f : Addr} {fd : FuncData} {ps : List Str} (F : Fun K x qual st f fd)
  (h : ∀ (kV doc pm : Value) (an : Option Addr) (cdv ct : Value) (us : List Value),us.length = ps.length → bindArgs (PySem.W.fnOf x qual (Jh st) (Jf st) (J3 st) .none kV doc pm an cdv ct) ⟨us,[]⟩ = pure (ps.zip us)) : J2F K fd ps []:=by
 obtain ⟨oc,od,kV,doc,pm,an,cdv,ct,osl,rfl,lk,hcd⟩:=F.ex
 exact .all (h kV doc pm an cdv ct)
theorem JJ {x qual : Str} {st : Stmt} {f : Addr} {oc : Value} {od an : Option Addr} {osl : Array (Option Value)} {kV doc pm cdv ct : Value} (l : K.lookup f = some ⟨oc,od,.func (PySem.W.fnOf x qual (Jh st) (Jf st) (J3 st) .none kV doc pm an cdv ct),osl⟩)
  (c : PySem.W.codeIn K cdv qual = true) (k : PySem.W.keepIn K (.ref f) = true) : Fun K x qual st f (PySem.W.fnOf x qual (Jh st) (Jf st) (J3 st) .none kV doc pm an cdv ct):=⟨⟨oc,od,kV,doc,pm,an,cdv,ct,osl,rfl,l,c⟩,k⟩
end
theorem J1p {A : Around} {k : Nat} (hr : Room k A) : A.units + 1 < cLine:=Nat.lt_of_le_of_lt (Nat.add_le_add_left (by decide : 1 ≤ 64) _) hr.units
section
variable {X : Cx}
theorem pv (i : Nat) {x : Str} {pos : Pos} (hN : X.N[i]? = some x:=by rfl) (hv : Vis X.env.scope x:=by first | exact Or.inl rfl | exact Or.inr (Or.inl rfl) | exact Or.inr (Or.inr rfl)) (hd : (x == ("__debug__" : Str)) = false:=by decide)
  (hcd : (x == ("__classdict__" : Str)) = false:=by decide) : PE X (.Name x pos) (tVar i):=J8N hN hv hd hcd
end
theorem iteF {A B : Prop} (h : B) : if false = true then A else B:=by
 rw [if_neg Bool.false_ne_true]
 exact h
theorem iteT {A B : Prop} (h : A) : if true = true then A else B:=by
 rw [if_pos rfl]
 exact h
theorem ite2 {c A B : Prop} [Decidable c] (h1 : c → A) (h2 : ¬ c → B) : if c then A else B:=by
 by_cases h : c
 ·rw [if_pos h]
  exact h1 h
 ·rw [if_neg h]
  exact h2 h
noncomputable def Same (H H' : Hp) : Prop:=∀ b o,H b = some o → H' b = some o
theorem Same.refl (H : Hp) : Same H H:=fun _ _ h=>h
theorem Same.trans {H H1 H2 : Hp} (a : Same H H1) (b : Same H1 H2) : Same H H2:=fun c o h=>b c o (a c o h)
theorem Same.free {H H' : Hp} (e : Same H H') {l : Addr} (h : H' l = Option.none) : H l = Option.none:=by
 cases q : H l with
 | none=>rfl
 | some o =>
  rw [e l o q] at h
  cases h
theorem Same.seq {K : PySem.W.Frag} {H H' : Hp} {a : Addr} {xs : List V} (e : Same H H') (h : SqL K H a xs) : SqL K H' a xs:=by
 rcases h with (h | ⟨o,h⟩) | h
 ·exact .inl (.inl (e _ _ h))
 ·exact .inl (.inr ⟨o,e _ _ h⟩)
 ·exact .inr h
end L2
set_option linter.all false
set_option maxRecDepth 100000
set_option maxHeartbeats 4000000
namespace L2
open PySem PySem.Spec PyProof.Rows
theorem J1v {scope : Scope} {env : Env} (h : ∀ y ∈ scope.names,y.2 = .free → ∃ c,env.cells.lookup y.1 = some c) :
  ∃ cl,closureFor scope env = pure cl ∧ (∀ y ∈ scope.names,y.2 = NameKind.free → cl.lookup y.1 = env.cells.lookup y.1) ∧ (∀ x c,cl.lookup x = some c → env.cells.lookup x = some c):=by
 have key : ∀ (names : List (Str × NameKind)) (acc : List (Str × Addr)) (f : Str × NameKind → List (Str × Addr) → Sem (ForInStep (List (Str × Addr)))),
   (∀ x cs,f x cs = if (x.2 == NameKind.free) = true then (cellOf env x.1 >>= fun a=>pure (ForInStep.yield ((x.1,a) :: cs))) else pure (ForInStep.yield cs)) →
   (∀ y ∈ names,y.2 = .free → ∃ c,env.cells.lookup y.1 = some c) → (∀ x c,acc.lookup x = some c → env.cells.lookup x = some c) →
   ∃ cl,forIn names acc f = pure cl ∧ (∀ x c,acc.lookup x = some c → cl.lookup x = env.cells.lookup x) ∧ (∀ y ∈ names,y.2 = NameKind.free → cl.lookup y.1 = env.cells.lookup y.1) ∧ (∀ x c,cl.lookup x = some c → env.cells.lookup x = some c):=by
  intro names
  induction names with
  | nil =>
   intro acc f _ _ ha
   exact ⟨acc,rfl,fun x c e=>by rw [e,ha x c e],fun _ h=>(nomatch h),ha⟩
  | cons y r ih =>
   intro acc f hf hn ha
   obtain ⟨n,k⟩:=y
   rw [List.forIn_cons,hf]
   by_cases hk : k = .free
   ·subst hk
    obtain ⟨c,hc⟩:=hn (n,.free) List.mem_cons_self rfl
    have hc' : cellOf env n = pure c:=by unfold cellOf; rw [hc]
    have ha' : ∀ x d,((n,c) :: acc).lookup x = some d → env.cells.lookup x = some d:=fun x d e=>by
     rw [List.lookup_cons] at e
     cases hx : x == n with
     | true =>
      rw [hx] at e
      have e' : c = d:=Option.some.inj e
      have hx' : x = n:=by simpa using hx
      rw [hx',hc,e']
     | false =>
      rw [hx] at e
      exact ha x d e
    obtain ⟨cl,e,h1,h2,h3⟩:=ih ((n,c) :: acc) f hf (fun y hy=>hn y (List.mem_cons_of_mem _ hy)) ha'
    refine ⟨cl,?_,fun x d ex=>?_,fun y hy hyf=>?_,h3⟩
    ·rw [if_pos (by rfl)]
     show ((cellOf env n >>= fun a=>pure (ForInStep.yield ((n,a) :: acc))) >>= _) = pure cl
     rw [hc',pure_bind,pure_bind]
     exact e
    ·by_cases hxn : x = n
     ·subst hxn
      exact h1 x c (by rw [List.lookup_cons,beq_self_eq_true])
     ·refine h1 x d ?_
      rw [List.lookup_cons,beq_eq_false_iff_ne.mpr hxn]
      exact ex
    ·rcases List.mem_cons.mp hy with rfl | hy
     ·exact h1 _ c (by rw [List.lookup_cons,beq_self_eq_true])
     ·exact h2 y hy hyf
   ·have hb : (k == NameKind.free) = false:=by simpa using hk
    obtain ⟨cl,e,h1,h2,h3⟩:=ih acc f hf (fun y hy=>hn y (List.mem_cons_of_mem _ hy)) ha
    refine ⟨cl,?_,h1,fun y hy hyf=>?_,h3⟩
    ·show ((if (k == NameKind.free) = true then _ else pure (ForInStep.yield acc)) >>= _) = pure cl
     rw [if_neg (by rw [hb]; exact Bool.false_ne_true),pure_bind]
     exact e
    ·rcases List.mem_cons.mp hy with rfl | hy
     ·exact absurd hyf hk
     ·exact h2 y hy hyf
 have z:=key scope.names [] (fun x cs=>if (x.2 == NameKind.free) = true then (cellOf env x.1 >>= fun a=>pure (ForInStep.yield ((x.1,a) :: cs))) else pure (ForInStep.yield cs)) (fun _ _=>rfl) h (fun _ _ e=>(nomatch e))
 obtain ⟨cl,e,_,h2,h3⟩:=z
 refine ⟨cl,?_,h2,h3⟩
 show (forIn scope.names [] _ >>= pure) = pure cl
 exact (congrArg (· >>= pure) e).trans (pure_bind _ _)
noncomputable abbrev J0n (X : Cx) (scope : Scope) (N : List Str) (s₀ : Shared) (H₀ : Hp) (cl : List (Str × Addr)) (C : Addr) (ex : List Addr) : Cx :=
 {prog:=X.prog,w:=X.w,K:=X.K,mg:=X.mg,base:=X.base,A:=X.A,N:=N,s₀:=s₀,H₀:=H₀,env:=compEnvC scope cl C X.env,
  outer:=X.stack,stack:=X.stack,ex:=ex,fn:=fun _=>false,calm:=X.calm,pn:=[],xe:=fun _ _=>False }
theorem J2C {prog : Program} {w : World} {A : Around} {R : Result → Shared → Prop} {s : Shared} {elt target iter : Expr} {ifs : List Expr} {scope : Scope} {pos : Pos} {it acc : Value} {env : Env} (I : Nat → Shared → Prop)
  (turn : ∀ n s,I n s → wpAny (model prog w) A (pyNext it) (fun r s₁=>match r with
   | none=>R (.ok .next) s₁
   | some v=>wpAny (model prog w) A (letOwnedTupleGo target it v) (fun _ s₁'=>wpAny (model prog w) A (assign target env v) (fun _ s₂ =>
     wpAny (model prog w) A (forIn ifs true fun c r=>if r = true then do let ok ← isTrue c env (eval c env); pure (ForInStep.yield ok) else pure (ForInStep.yield r)) (fun ok s₃ =>
      if ok = true then wpAny (model prog w) A (eval elt env) (fun x s₄ =>
       wpAny (model prog w) A (call (.builtin "list.append") [acc,x]) (fun _ s₅=>∃ m,m < n ∧ I m s₅) (fun _ _=>False) s₄) (fun _ _=>False) s₃
      else ∃ m,m < n ∧ I m s₃) (fun _ _=>False) s₂) (fun _ _=>False) s₁') (fun _ _=>False) s₁) (fun _ _=>False) s)
  (n : Nat) (h : I n s) :
  codeAny (model prog w) A (.compLoop (.ListComp elt [⟨target,iter,ifs,0⟩] scope pos) 0 it acc env) R s:=by
 refine codeAny_loop rfl I (fun n s hI=>?_) n h
 show wpAny _ A ((compTurn (.ListComp elt [⟨target,iter,ifs,0⟩] scope pos) 0 it acc env).onRaise (fun x=>do noteFrame x env; theTreesLotGoes x)) _ _ s
 refine wpAny_noted ?_
 rw [compTurn_list]
 refine wpAny_bind (wpAny_standAt (wpAny_bind (wpAny_mono (turn n s hI) (fun r s₁ h₁=>?_) fun _ _ z=>z.elim)))
 cases r with
 | none=>exact wpAny_pure h₁
 | some v =>
  refine wpAny_bind (wpAny_mono h₁ (fun _ s₁' h₁'=>?_) fun _ _ z=>z.elim)
  refine wpAny_bind (wpAny_mono h₁' (fun _ s₂ h₂=>wpAny_bind (wpAny_mono h₂ (fun ok s₃ h₃=>?_) fun _ _ z=>z.elim)) fun _ _ z=>z.elim)
  cases ok with
  | false=>exact wpAny_pure ⟨rfl,h₃⟩
  | true =>
   exact wpAny_bind (wpAny_bind (wpAny_mono h₃ (fun x s₄ h₄=>wpAny_bind (wpAny_mono h₄ (fun _ s₅ h₅=>wpAny_pure (wpAny_pure ⟨rfl,h₅⟩)) fun _ _ z=>z.elim)) fun _ _ z=>z.elim))
noncomputable def PIfs (X : Cx) (ifs : List Expr) (t : TT) : Prop :=
 ∀ (pins : List (Addr × Obj)) (s : Shared) (σ : St) (H : Hp) (Q : Bool → Hp → Prop),Inv X pins σ H s → t σ H Q →
  wpAny (model X.prog X.w) X.A (forIn ifs true fun c r=>if r = true then do let ok ← isTrue c X.env (eval c X.env); pure (ForInStep.yield ok) else pure (ForInStep.yield r)) (TP X pins σ Q) X.xe s
noncomputable def tYes : TT:=fun _ H Q=>Q true H
theorem J0w {X : Cx} : PIfs X [] tYes:=fun _ _ _ H _ I h=>wpAny_tests_nil ⟨H,I,h⟩
theorem J1J {X : Cx} {c : Expr} {t : TT} (hc : PT X c t) : PIfs X [c] t:=fun pins s σ H Q I h=>wpAny_tests_one (hc pins s σ H Q I h)
noncomputable def J5z (J : It) (H1 : Hp) (σ0 : St) (g : TG) (tc : TT) (te : TE) (Q : VK) : Prop:=∀ D,H1 D = none →
  ∃ W : Nat → Nat → St → List V → Hp → Prop,(∃ m,W 0 m σ0 [] (upd H1 D (.lst []))) ∧ ∀ i m σ1 ys H,W i m σ1 ys H →
    (J.stop i H ∧ Q (.ref D) H) ∨ (J.go i H ∧ ∀ x H',J.yld i H x H' → g x σ1 H' fun σ2 H2=>tc σ2 H2 fun b H3 =>
       if b = true then te σ2 H3 fun y H4=>H4 D = some (.lst ys) ∧ ys.length < sizeLine ∧ ∃ m',m' < m ∧ W (i + 1) m' σ2 (ys ++ [y]) (upd H4 D (.lst (ys ++ [y])))
       else ∃ m',m' < m ∧ W (i + 1) m' σ2 ys H3)
noncomputable def J8M (wi : TI) (sub : St → St) (g : TG) (tc : TT) (te : TE) : TE:=fun σ H Q=>wi σ H fun J H1=>J5z J H1 (sub σ) g tc te Q
noncomputable def subσ (js : List (Option Nat)) (σ : St) : St:=js.map fun o=>o.bind fun j=>(σ[j]?).join
theorem J0s {env : Env} : ∀ {names : List (Str × NameKind)} {x : Str},names.lookup x = some .free →
  (names.map fun (n,k)=>if (k == NameKind.free && env.scope.kind == .function && env.kindOf n == some .cell) then (n,NameKind.cell) else (n,k)).lookup x = some .cell ∨
  (names.map fun (n,k)=>if (k == NameKind.free && env.scope.kind == .function && env.kindOf n == some .cell) then (n,NameKind.cell) else (n,k)).lookup x = some .free
 | [],_,h=>by simp at h
 | (n,k) :: r,x,h=>by
  have ih:=@J0s env r x
  show List.lookup x ((if (k == NameKind.free && env.scope.kind == .function && env.kindOf n == some .cell) = true then (n,NameKind.cell) else (n,k)) :: _) = _ ∨ List.lookup x ((if (k == NameKind.free && env.scope.kind == .function && env.kindOf n == some .cell) = true then (n,NameKind.cell) else (n,k)) :: _) = _
  cases hx : x == n with
  | true =>
   simp only [List.lookup_cons,hx] at h
   cases h
   by_cases hc : (NameKind.free == NameKind.free && env.scope.kind == .function && env.kindOf n == some .cell) = true
   ·rw [if_pos hc]; left; simp only [List.lookup_cons,hx]
   ·rw [if_neg hc]; right; simp only [List.lookup_cons,hx]
  | false =>
   simp only [List.lookup_cons,hx] at h
   by_cases hc : (k == NameKind.free && env.scope.kind == .function && env.kindOf n == some .cell) = true
   ·rw [if_pos hc]; simp only [List.lookup_cons,hx]; exact ih h
   ·rw [if_neg hc]; simp only [List.lookup_cons,hx]; exact ih h
theorem J1Y {env : Env} : ∀ {names : List (Str × NameKind)} {x : Str},(∀ y ∈ names,y.2 ≠ NameKind.cell) →
  ((names.map fun (n,k)=>if (k == NameKind.free && env.scope.kind == .function && env.kindOf n == some .cell) then (n,NameKind.cell) else (n,k)).lookup x = some .cell ∨
  (names.map fun (n,k)=>if (k == NameKind.free && env.scope.kind == .function && env.kindOf n == some .cell) then (n,NameKind.cell) else (n,k)).lookup x = some .free) → (x,NameKind.free) ∈ names
 | [],_,_,h=>by simp at h
 | (n,k) :: r,x,hn,h=>by
  have ih:=@J1Y env r x fun y hy=>hn y (List.mem_cons_of_mem _ hy)
  have hk : k ≠ .cell:=hn (n,k) List.mem_cons_self
  change List.lookup x ((if (k == NameKind.free && env.scope.kind == .function && env.kindOf n == some .cell) = true then (n,NameKind.cell) else (n,k)) :: _) = _ ∨ List.lookup x ((if (k == NameKind.free && env.scope.kind == .function && env.kindOf n == some .cell) = true then (n,NameKind.cell) else (n,k)) :: _) = _ at h
  cases hx : x == n with
  | true =>
   have hx' : x = n:=by simpa using hx
   subst hx'
   by_cases hc : (k == NameKind.free && env.scope.kind == .function && env.kindOf x == some .cell) = true
   ·have : k = .free:=by
     have:=(Bool.and_eq_true _ _).mp ((Bool.and_eq_true _ _).mp hc).1
     simpa using this.1
    subst this
    exact List.mem_cons_self
   ·rw [if_neg hc] at h
    simp only [List.lookup_cons,beq_self_eq_true] at h
    rcases h with h | h
    ·exact absurd (Option.some.inj h) hk
    ·have:=Option.some.inj h
     subst this
     exact List.mem_cons_self
  | false =>
   by_cases hc : (k == NameKind.free && env.scope.kind == .function && env.kindOf n == some .cell) = true
   ·rw [if_pos hc] at h; simp only [List.lookup_cons,hx] at h; exact List.mem_cons_of_mem _ (ih h)
   ·rw [if_neg hc] at h; simp only [List.lookup_cons,hx] at h; exact List.mem_cons_of_mem _ (ih h)
section
variable {X : Cx} {elt tg iter : Expr} {ifs : List Expr} {scope : Scope} {pos : Pos} {N : List Str} {js : List (Option Nat)} {wi : TI} {g : TG} {tc : TT} {te : TE}
structure J2g (osc : Scope) (ON : List Str) (scope : Scope) (N : List Str) (js : List (Option Nat)) : Prop where
 kind : scope.kind = .function
 cell : ∀ y ∈ scope.names,y.2 ≠ .cell
 names : ∀ y ∈ scope.names,y.2 = .local → scope.names.lookup y.1 = some .local
 free : ∀ y ∈ scope.names,y.2 = .free → osc.names.lookup y.1 = some .cell ∨ osc.names.lookup y.1 = some .free
 len : js.length = N.length
 slots : (js.zip N).all (fun p=>match p.1 with | none=>true | some j=>decide (ON[j]? = some p.2) && decide (scope.names.lookup p.2 = some .free)) = true
theorem J2g.sub {osc : Scope} {ON : List Str} {scope : Scope} {N : List Str} {js : List (Option Nat)} (cs : J2g osc ON scope N js) : ∀ (i j : Nat),js[i]? = some (some j) → ∃ x,N[i]? = some x ∧ ON[j]? = some x ∧ scope.names.lookup x = some .free:=by
 intro i j h
 have hi : i < js.length:=(List.getElem?_eq_some_iff.mp h).1
 have hN : N[i]? = some (N[i]'(by rw [← cs.len]; exact hi)):=List.getElem?_eq_getElem _
 have hz : (js.zip N)[i]? = some (some j,N[i]'(by rw [← cs.len]; exact hi)):=by
  rw [List.getElem?_zip_eq_some]
  exact ⟨h,hN⟩
 have hm:=List.all_eq_true.mp cs.slots _ (List.mem_of_getElem? hz)
 have hm2:=(Bool.and_eq_true _ _).mp hm
 exact ⟨_,hN,of_decide_eq_true hm2.1,of_decide_eq_true hm2.2⟩
theorem mem_of_lookup {α : Type} : ∀ {l : List (Str × α)} {x : Str} {k : α},l.lookup x = some k → (x,k) ∈ l
 | [],_,_,h=>by simp at h
 | (n,v) :: r,x,k,h=>by
  rw [List.lookup_cons] at h
  cases hx : x == n with
  | true =>
   rw [hx] at h
   have hx' : x = n:=by simpa using hx
   have : v = k:=Option.some.inj h
   subst hx' this
   exact List.mem_cons_self
  | false =>
   rw [hx] at h
   exact List.mem_cons_of_mem _ (mem_of_lookup h)
theorem J0y {osc : Scope} {ON : List Str} (cs : J2g osc ON scope N js) (ho : X.env.scope = osc) (hON : X.N = ON) (hc : X.calm = true) (hi : PI X tg iter wi)
    (hg : ∀ s₀ H₀ cl C ex,PG (J0n X scope N s₀ H₀ cl C ex) tg g) (hif : ∀ s₀ H₀ cl C ex,PIfs (J0n X scope N s₀ H₀ cl C ex) ifs tc) (he : ∀ s₀ H₀ cl C ex,PE (J0n X scope N s₀ H₀ cl C ex) elt te)
    (hs : ∀ x,foldedSetIterable iter X.env x = pure x:=by intro _; rfl) : PE X (.ListComp elt [⟨tg,iter,ifs,0⟩] scope pos) (J8M wi (subσ js) g tc te):=by
  intro pins s σ H Q I h
  subst ho hON
  obtain ⟨cl,hcl,cl1,cl2⟩:=J1v (scope:=scope) (env:=X.env) fun y hy hf=>I.ok.has y.1 (cs.free y hy hf)
  rw [eval_ListComp]
  refine wpAny_comprehension_free (use:=none) rfl hs hcl cs.kind cs.names ?_
  refine thn (hi pins s σ H _ I h) fun v s1 h1=>thn h1 fun itv s2 h2=>?_
  obtain ⟨it,fp,tn,J,H2,e,I2,T,st2,f2,hW⟩:=h2
  subst e
  have hD0 : H2 s2.heap.objs.size = none:=I2.hok.fresh (Nat.le_refl _)
  obtain ⟨W,⟨m0,w0⟩,turn⟩:=hW s2.heap.objs.size hD0
  have I3:=I2.lnew (t':=s2.toks) (ys:=[]) (its:=[]) .nil (Nat.zero_le _)
  refine wpAny_newObj_type (wpAny_newFunctionEnv cs.cell (by intro y hy; simp at hy) (fun h₁ hns₁ hsb₁=>?_) cs.kind)
  dsimp only at hns₁ hsb₁ ⊢
  obtain ⟨s3,hs3⟩ : ∃ s3 : Shared,s3 = { s2 with heap:=s2.heap.push { cls:=.type "list",data:=.seq ([] : List Value).toArray },toks:=s2.toks }:=⟨_,rfl⟩
  rw [← hs3] at I3
  have e3 : s3.heap = s2.heap.push { cls:=.type "list",dict:=none,data:=.seq ([] : List Value).toArray }:=by rw [hs3]
  have e3o : s3.os = s2.os:=by rw [hs3]
  have e3g : s3.gens = s2.gens:=by rw [hs3]
  rw [← e3] at hns₁ hsb₁ ⊢
  obtain ⟨H3,hH3⟩ : ∃ H3 : Hp,H3 = upd H2 s2.heap.objs.size (.lst []):=⟨_,rfl⟩
  rw [← hH3] at I3 w0
  have up1 : ∀ b o,s2.heap.get? b = some o → s3.heap.get? b = some o:=fun b o q=>by rw [e3]; exact Heap.get?_push_of_some _ q
  have up2 : ∀ b o,s3.heap.get? b = some o → h₁.get? b = some o:=fun b o q=>hsb₁.extBut b o (Nat.ne_of_lt (Heap.lt_size q)) (Heap.get?_push_of_some _ q)
  have fpo : ∀ b ∈ fp,∃ o,s3.heap.get? b = some o:=fun b hb=>by
    obtain ⟨o,ho,_⟩:=T.obj 0 _ st2 b hb
    exact ⟨o,up1 b o ho⟩
  have fr3 : ∀ b ∈ fp,H3 b = none:=fun b hb=>by
    obtain ⟨o,ho,_⟩:=T.obj 0 _ st2 b hb
    rw [hH3,J7 (Nat.ne_of_lt (Heap.lt_size ho))]
    exact (f2 b hb).1
  have fpC : ∀ b ∈ fp,b ≠ s3.heap.objs.size:=fun b hb=>by
    obtain ⟨o,ho⟩:=fpo b hb
    exact Nat.ne_of_lt (Heap.lt_size ho)
  have fpS : ∀ b ∈ fp,b ∉ frs X.stack:=fun b hb hs'=>by
    rcases List.mem_cons.mp (I2.stkSub b hs') with z | z
    · exact (f2 b hb).2.1 z
    · exact (f2 b hb).2.2.1 z
  have ok' : (J0n X scope N s3 H3 cl s3.heap.objs.size fp).Ok:=by
    refine ⟨I.ok.mod,cs.kind,I.ok.glob,I.ok.blt,Nat.le_refl _,fun x y c e1 e2=>I.ok.inj x y c (cl2 x c e1) (cl2 y c e2),fun x hx=>?_,fun x c hf=>(nomatch hf),I.ok.hd,I.ok.frames,.inl rfl,fun b hb=>⟨fpC b hb,fun x c e=>(f2 b hb).2.2.2.2.1 x c (cl2 x c e)⟩,
      I3.bs,Nat.le_trans I.ok.bsz I3.sz,fun b o e hb=>?_,fun b hb=>fpS b hb,I3.stack,I3.stkFree⟩
    · have hm : (x,NameKind.free) ∈ scope.names:=J1Y cs.cell hx
      obtain ⟨c,hc⟩:=I.ok.has x (cs.free _ hm rfl)
      exact ⟨c,(cl1 _ hm rfl).trans hc⟩
    · rcases (f2 b hb).2.2.2.1 with z | z
      · exact I.ok.noex b o e z
      · exact absurd (Nat.lt_of_lt_of_le (Heap.lt_size e) (Nat.le_trans I.ok.bsz z)) (Nat.lt_irrefl _)
  have cellK : ∀ c v,s3.heap.IsCell c v → h₁.IsCell c v:=fun c v ⟨o,ho,hd⟩=>⟨o,up2 c o ho,hd⟩
  have I4 : ∀ t : Nat,Inv (J0n X scope N s3 H3 cl s3.heap.objs.size fp) [] (subσ js σ) H3 { s2 with heap:=h₁,toks:=t }:=fun t=>by
    refine ⟨ok',e3o.symm,I2.bare,Un.kept up2,⟨_,hns₁,fun i x v hi hv hx=>?_⟩,fun x c e=>?_,I3.hok.fresh (Nat.le_refl _),fun x c e=>I3.freeC x c (cl2 x c e),fun p hp=>(nomatch hp),I3.hok.kept up2,?_⟩
    ·
      have hv' : ∃ j,js[i]? = some (some j) ∧ σ[j]? = some (some v):=by
        unfold subσ at hv
        rw [List.getElem?_map] at hv
        cases hj : js[i]? with
        | none=>rw [hj] at hv; cases hv
        | some o =>
          rw [hj] at hv
          cases o with
          | none=>cases hv
          | some j =>
            refine ⟨j,rfl,?_⟩
            have hv2 : (σ[j]?).join = some v:=Option.some.inj hv
            cases hs2 : σ[j]? with
            | none=>rw [hs2] at hv2; cases hv2
            | some u=>rw [hs2] at hv2; exact congrArg some hv2
      obtain ⟨j,hj,hσ⟩:=hv'
      obtain ⟨x',h1',h2',h3'⟩:=cs.sub i j hj
      have hxx : x = x':=Option.some.inj (hi.symm.trans h1')
      subst hxx
      have hm : (x,NameKind.free) ∈ scope.names:=mem_of_lookup h3'
      have hk:=cs.free _ hm rfl
      obtain ⟨m,hn,hl⟩:=id I3.loc
      obtain ⟨u,ru,lk⟩:=hl j x v h2' hσ (by rcases hk with z | z; exact .inr (.inl z); exact .inr (.inr z))
      refine ⟨u,ru,?_⟩
      rcases lk with ⟨k1,_⟩ | ⟨k1,c,e1,z⟩
      · rcases hk with z | z <;> (rw [show X.env.kindOf x = _ from z] at k1; cases k1)
      · exact .inr ⟨J0s h3',c,(cl1 _ hm rfl).trans e1,cellK c _ z⟩
    · obtain ⟨v,z⟩:=I3.cell x c (cl2 x c e)
      exact ⟨v,cellK c v z⟩
    · unfold subσ
      rw [List.length_map]
      exact cs.len
  have hst₁ : tn 0 h₁:=T.keep 0 _ _ st2 fun b hb o q=>up2 b o (up1 b o q)
  have stat : ∀ {H' : Hp},(∀ b ∈ fp,H' b = none) → ∀ b ∈ fp,FpOk (J0n X scope N s3 H3 cl s3.heap.objs.size fp) [] H' b:=fun hn b hb =>
    ⟨hn b hb,fpC b hb,fpS b hb,.inl hb,fun x c e=>(f2 b hb).2.2.2.2.1 x c (cl2 x c e),fun p hp=>(nomatch hp)⟩
  have loop : ∀ s4 : Shared,(∃ t,s4 = { s2 with heap:=h₁,toks:=t }) →
      codeAny (model X.prog X.w) X.A (.compLoop (.ListComp elt [⟨tg,iter,ifs,0⟩] scope pos) 0 (.ref it) (.ref s2.heap.objs.size) (compEnvC scope cl s3.heap.objs.size X.env))
        (compPost (model X.prog X.w) X.A X.xe none (EP X pins σ Q) (.ref s2.heap.objs.size) s3.heap.objs.size) s4:=by
    rintro s4 ⟨t,rfl⟩
    refine J2C (fun n s'=>∃ i σ' ys H',Inv (J0n X scope N s3 H3 cl s3.heap.objs.size fp) [] σ' H' s' ∧ tn i s'.heap ∧ (∀ b ∈ fp,H' b = none) ∧ W i n σ' ys H') ?_ m0 ⟨0,_,[],H3,I4 t,hst₁,fr3,w0⟩
    rintro n s5 ⟨i,σ5,ys,H5,I5,st5,fr5,w5⟩
    rcases turn i n σ5 ys H5 w5 with ⟨stop,qn⟩ | ⟨go,step⟩
    · refine thn (T.done (J0n X scope N s3 H3 cl s3.heap.objs.size fp) rfl rfl rfl hc i [] s5 σ5 H5 _ I5 (stat fr5) st5 stop) fun r s6 ⟨hr,I6⟩=>?_
      subst hr
      obtain ⟨m,hn,_⟩:=id I6.loc
      refine ⟨m,hn,fun h' hs'=>⟨.ref s2.heap.objs.size,H5,?_,rfl,qn⟩⟩
      have neC : ∀ b o,s3.heap.get? b = some o → b ≠ s3.heap.objs.size:=fun b o q=>Nat.ne_of_lt (Heap.lt_size q)
      have un : Un (frs X.stack) fp H3 H5 s3.heap h' :=
        ⟨fun b o q n1 hb hx=>(hs'.2 b (neC b o q)).trans (I6.base.keep b o q n1 hb hx),
         fun b o q n1 hb hx=>by
           obtain ⟨sl,e⟩:=I6.base.slot b o q n1 hb hx
           exact ⟨sl,(hs'.2 b (neC b o q)).trans e⟩,
         fun b o q n1 hx=>I6.base.free b o q n1 hx,
         fun b o q hx=>by
           obtain ⟨o',e⟩:=I6.base.there b o q hx
           exact ⟨o',(hs'.2 b (neC b o q)).trans e⟩,
         I6.base.tups,I6.base.frzs,I6.base.tbls⟩
      refine I3.call' (ch:=fp) (s':={ s6 with heap:=h' }) I6.os un (fun b ob e=>?_) I6.bare (fun b hb=>⟨(f2 b hb).2.2.2.1,(f2 b hb).2.1,(f2 b hb).2.2.2.2.1,(f2 b hb).2.2.2.2.2⟩)
      refine (I6.hok b ob e).stay (fun c w' hc' q=>(hs'.2 c ?_).trans q) (fun _ q=>q) fun _ _ q=>q
      rintro rfl
      have fC : H5 s3.heap.objs.size = none:=I6.free
      rcases hc' with z | z
      · rw [← z,fC] at e; cases e
      · rw [fC] at z; cases z
    · refine thn (T.item (J0n X scope N s3 H3 cl s3.heap.objs.size fp) rfl rfl rfl hc i [] s5 σ5 H5 _ I5 (stat fr5) st5 go) fun r s6 ⟨u,hr,h6⟩=>?_
      subst hr
      refine thn h6 fun _ s7 ⟨x,H7,I7,r7,y7,st7,fr7⟩=>?_
      have I7':=I7.pinned (stat fr7) (T.obj _ _ st7)
      refine thn (hg _ _ _ _ _ _ s7 σ5 H7 x u _ I7' r7 (step x H7 y7)) fun _ s8 ⟨σ8,H8,I8,q8⟩=>?_
      refine thn (hif _ _ _ _ _ _ s8 σ8 H8 _ I8 q8) fun ok s9 ⟨H9,I9,q9⟩=>?_
      have again : ∀ {σ' : St} {H' : Hp} {s' : Shared},Inv (J0n X scope N s3 H3 cl s3.heap.objs.size fp) ([] ++ J2U fp s7.heap) σ' H' s' →
          Inv (J0n X scope N s3 H3 cl s3.heap.objs.size fp) [] σ' H' s' ∧ tn (i + 1) s'.heap ∧ ∀ b ∈ fp,H' b = none:=fun {σ' H' s'} I'=>by
        refine ⟨I'.unpinned,T.keep _ _ _ st7 fun b hb o e=>(I'.pin (b,o) (List.mem_append_right _ (List.mem_append_right _ (J0B hb e)))).1,fun b hb=>?_⟩
        obtain ⟨o,e,d⟩:=T.obj _ _ st7 b hb
        exact (I'.pin (b,o) (List.mem_append_right _ (List.mem_append_right _ (J0B hb e)))).2.1
      cases ok with
      | false =>
        rw [if_neg Bool.false_ne_true] at q9 ⊢
        obtain ⟨m',hm,w9⟩:=q9
        obtain ⟨a1,a2,a3⟩:=again I9
        exact ⟨m',hm,i + 1,σ8,ys,H9,a1,a2,a3,w9⟩
      | true =>
        rw [if_pos rfl] at q9 ⊢
        refine thn (he _ _ _ _ _ _ s9 σ8 H9 _ I9 q9) fun yv s10 ⟨y,H10,I10,r10,q10⟩=>?_
        obtain ⟨hD,hz,m',hm,w10⟩:=q10
        refine thn (J0p (X:=J0n X scope N s3 H3 cl s3.heap.objs.size fp) _ s10 σ8 H10 (.ref s2.heap.objs.size) [y] (.ref s2.heap.objs.size) [yv] (fun v H'=>H' = upd H10 s2.heap.objs.size (.lst (ys ++ [y]))) I10 rfl (.cons r10 .nil)
          ⟨s2.heap.objs.size,ys,y,rfl,rfl,hD,hz,rfl⟩) fun _ s11 ⟨v11,H11,I11,_,e11⟩=>?_
        have e11' : H11 = upd H10 s2.heap.objs.size (.lst (ys ++ [y])):=e11
        subst e11'
        obtain ⟨a1,a2,a3⟩:=again I11
        exact ⟨m',hm,i + 1,σ8,ys ++ [y],_,a1,a2,a3,w10⟩
  exact codeAny_compStart_list (loop _ ⟨_,rfl⟩) (T.self X.A 0 _ _ _ hst₁ (loop _ ⟨_,rfl⟩))
end
structure J79 (J : It) (H0 : Hp) (xs : List V) : Prop where
 go : ∀ i H,Same H0 H → i < xs.length → J.go i H
 yld : ∀ i H x H',Same H0 H → i < xs.length → J.yld i H x H' → H' = H ∧ xs[i]? = some x
 stop : ∀ H,Same H0 H → J.stop xs.length H
theorem J04 {K : PySem.W.Frag} {a : Addr} {H : Hp} {xs : List V} (h : SqL K H a xs) : J79 (Itl K a) H xs where
 go:=fun i H' s hi=>⟨xs,xs[i],s.seq h,by simp [hi]⟩
 yld:=fun i H' x H'' s hi y=>⟨y.1,y.2 xs (s.seq h)⟩
 stop:=fun H' s=>⟨xs,s.seq h,Nat.le_refl _⟩
theorem J2b {H : Hp} (lo : Int) (n : Nat) : J79 (Itr lo n) H ((List.range n).map fun i=>.int (lo + (i : Nat))) where
 go:=fun i H' s hi=>by rw [List.length_map,List.length_range] at hi; exact hi
 yld:=fun i H' x H'' s hi y=>by
  rw [List.length_map,List.length_range] at hi
  refine ⟨y.1,?_⟩
  rw [List.getElem?_map,List.getElem?_range hi]
  exact congrArg some y.2.symm
 stop:=fun H' s=>by rw [List.length_map,List.length_range]; exact Nat.le_refl _
theorem JK {H : Hp} {p : Addr} (h : H p = none) (o : HO) : Same H (upd H p o):=fun b u q=>by rw [J7 (Jb q h)]; exact q
theorem Same.upd {H H' : Hp} {p : Addr} {o : HO} (s : Same H H') (h : H p = none) : Same H (upd H' p o):=fun b u q=>by rw [J7 (Jb q h)]; exact s b u q
end L2
set_option linter.all false
set_option maxRecDepth 100000
set_option maxHeartbeats 4000000
namespace L2
open PySem PySem.Spec PyProof.Rows
noncomputable abbrev T (l : List Nat) : V:=.str ⟨l.toArray⟩
section
variable {X : Cx}
theorem J4P {x : Str} {l : List Nat} {j pos} (h : x = ⟨l.toArray⟩) : PE X (.Constant (.str x) j pos) (tC (T l)):=by subst h; exact Jca
end
noncomputable def cutN {α : Type} (xs : List α) (lo hi : Option Int) : List α:=(xs.drop (HT.sIx xs.length 0 lo)).take (HT.sIx xs.length xs.length hi - HT.sIx xs.length 0 lo)
section
variable {X : Cx}
end
section
variable {X : Cx} {tg : Expr}
end
section
variable {X : Cx}
end
theorem J8B {bs : List Bool} {us : List Value} (h : Vals (bs.map V.bl) us) : us = bs.map Value.bool:=by
 induction bs generalizing us with
 | nil=>cases h; rfl
 | cons b r ih =>
  cases h with
  | cons r1 r2 =>
   cases r1
   rw [ih r2]; rfl
theorem J7U (bs : List Bool) : (List.range bs.length).all (fun i=>bs.getD i false) = bs.all id:=by
 rw [Bool.eq_iff_iff,List.all_eq_true,List.all_eq_true]
 constructor
 ·intro h b hb
  obtain ⟨i,hi,rfl⟩:=List.mem_iff_getElem.mp hb
  have:=h i (List.mem_range.mpr hi)
  simpa [List.getD_eq_getElem?_getD,hi] using this
 ·intro h i hi
  have hi:=List.mem_range.mp hi
  have:=h bs[i] (List.getElem_mem hi)
  simpa [List.getD_eq_getElem?_getD,hi] using this
theorem J7n (bs : List Bool) : (List.range bs.length).any (fun i=>bs.getD i false) = bs.any id:=by
 rw [Bool.eq_iff_iff,List.any_eq_true,List.any_eq_true]
 constructor
 ·rintro ⟨i,hi,h⟩
  have hi:=List.mem_range.mp hi
  refine ⟨bs[i],List.getElem_mem hi,?_⟩
  simpa [List.getD_eq_getElem?_getD,hi] using h
 ·rintro ⟨b,hb,h⟩
  obtain ⟨i,hi,rfl⟩:=List.mem_iff_getElem.mp hb
  refine ⟨i,List.mem_range.mpr hi,?_⟩
  simpa [List.getD_eq_getElem?_getD,hi] using h
section
variable {X : Cx}
theorem J7F (bs : List Bool) {A : Around} : TruthOf X.prog X.w A (fun i v=>(bs.map Value.bool).toArray[i]? = some v) (fun i=>bs.getD i false):=fun i v s Q E hP hQ=>by
 have : ∃ b,bs[i]? = some b ∧ v = .bool b:=by
  have hP' : (bs.map Value.bool).toArray[i]? = some v:=hP
  rw [List.getElem?_toArray,List.getElem?_map] at hP'
  cases hb : bs[i]? with
  | none=>rw [hb] at hP'; cases hP'
  | some b=>rw [hb] at hP'; exact ⟨b,rfl,(Option.some.inj hP').symm⟩
 obtain ⟨b,hb,rfl⟩:=this
 refine wpAny_truthy_bool ?_
 simpa [List.getD_eq_getElem?_getD,hb] using hQ
theorem J7C (hc : X.calm = true) : J1m X (.builtin "all") (fun xs H Q=>∃ (D : Addr) (bs : List Bool),xs = [.ref D] ∧ SqL X.K H D (bs.map V.bl) ∧ Q (.bl (bs.all id)) H):=by
 intro pins s σ H xs us Q I r h
 obtain ⟨D,bs,rfl,hq,q⟩:=h
 obtain ⟨u,rfl,ru⟩:=r.one
 cases ru
 obtain ⟨its,rv,pl,_⟩:=I.list hq
 obtain rfl:=J8B rv
 have hD : D < s.heap.objs.size:=by obtain ⟨o,n,e,_⟩:=pl; exact Heap.lt_size e
 refine call_all_walk (wpAny_pyIter_list pl.isList ⟨s.heap.objs.size,_,_,_,_,_,fun i=>bs.getD i false,rfl,Walks.list (A:=X.A.in1) (I.ok.hd hc) _ D (Nat.ne_of_lt hD) (bs.map Value.bool).toArray,
  ⟨⟨_,Heap.get?_push_size _ rfl,rfl,rfl⟩,pl.isList.push _⟩,J7F bs,fun h' tk hk=>?_⟩)
 rw [List.size_toArray,List.length_map,J7U]
 exact ⟨.bl (bs.all id),H,I.kept fun b o e=>hk b o (by simpa using Nat.ne_of_lt (Heap.lt_size e)) (Heap.get?_push_of_some _ e),rfl,q⟩
theorem J2n : J1m X (.builtin "isinstance") (fun xs H Q=>(∃ b,xs = [.bl b,.ty "bool"] ∧ Q (.bl true) H) ∨ (∃ i,xs = [.int i,.ty "bool"] ∧ Q (.bl false) H) ∨ (∃ i,xs = [.int i,.ty "int"] ∧ Q (.bl true) H) ∨ (∃ x,xs = [.str x,.ty "str"] ∧ Q (.bl true) H) ∨
  (∃ p ys,xs = [.ref p,.ty "list"] ∧ H p = some (.lst ys) ∧ Q (.bl true) H)):=by
 intro pins s σ H xs us Q I r h
 rcases h with ⟨b,rfl,q⟩ | ⟨i,rfl,q⟩ | ⟨i,rfl,q⟩ | ⟨x,rfl,q⟩ | ⟨p,ys,rfl,hp,q⟩
 ·obtain ⟨u,v,rfl,r1,r2⟩:=r.two
  cases r1; cases r2
  exact PySem.W.kia_one PySem.W.kitx_bool I.kIn True.intro (by rfl) (fun z=>nomatch z) fun tk=>⟨.bl true,H,I.tok _,rfl,q⟩
 ·obtain ⟨u,v,rfl,r1,r2⟩:=r.two
  obtain ⟨t,rfl⟩:=r1; cases r2
  exact PySem.W.kia_one PySem.W.kitx_int I.kIn True.intro (by rfl) (fun z=>nomatch z) fun tk=>⟨.bl false,H,I.tok _,rfl,q⟩
 ·obtain ⟨u,v,rfl,r1,r2⟩:=r.two
  obtain ⟨t,rfl⟩:=r1; cases r2
  exact PySem.W.kia_one PySem.W.kitx_int I.kIn True.intro (by rfl) (fun z=>nomatch z) fun tk=>⟨.bl true,H,I.tok _,rfl,q⟩
 ·obtain ⟨u,v,rfl,r1,r2⟩:=r.two
  obtain ⟨t,rfl⟩:=r1; cases r2
  exact PySem.W.kia_one PySem.W.kitx_str I.kIn True.intro (by rfl) (fun z=>nomatch z) fun tk=>⟨.bl true,H,I.tok _,rfl,q⟩
 ·obtain ⟨u,v,rfl,r1,r2⟩:=r.two
  cases r1; cases r2
  obtain ⟨_,its,n,_,h1⟩:=I.hok p _ hp
  exact PySem.W.kia_one PySem.W.kitx_list I.kIn ⟨_,h1,rfl⟩ (by rfl) (fun z=>nomatch z) fun tk=>⟨.bl true,H,I.tok _,rfl,q⟩
end
end L2
set_option linter.all false
set_option maxRecDepth 100000
set_option maxHeartbeats 4000000
namespace L2
open PySem PySem.Spec PyProof.Rows
open Builtin Builtin.Str
section
variable {prog : Program} {w : World} {A : Around} {E : Value → Shared → Prop} {s : Shared}
structure J4G (z TI TO i1 i2 : Addr) : Prop where
 TIz : TI ≠ z
 TOz : TO ≠ z
 i1z : i1 ≠ z
 i2z : i2 ≠ z
 TITO : TI ≠ TO
 TIi1 : TI ≠ i1
 TIi2 : TI ≠ i2
 TOi1 : TO ≠ i1
 TOi2 : TO ≠ i2
 i12 : i1 ≠ i2
theorem J6D (n : Nat) : J4G (n + 4) (n + 2) (n + 3) n (n + 1) :=
 ⟨Nat.ne_of_lt (by omega),Nat.ne_of_lt (by omega),Nat.ne_of_lt (by omega),Nat.ne_of_lt (by omega),Nat.ne_of_lt (by omega),Nat.ne_of_gt (by omega),Nat.ne_of_gt (by omega),Nat.ne_of_gt (by omega),Nat.ne_of_gt (by omega),Nat.ne_of_lt (by omega)⟩
end
theorem Inv.turnedN {X : Cx} {pins : List (Addr × Obj)} {σ : St} {H : Hp} {s : Shared} {h' : Heap} {t' : Nat} {ch : List Addr} (I : Inv X pins σ H s) (k : ∀ b o,b ∉ ch → s.heap.get? b = some o → h'.get? b = some o) (hf : ∀ b ∈ ch,FpOk X pins H b) :
  Inv X pins σ H { s with heap:=h',toks:=t' }:=by
 have nch : ∀ b u,H b = some u → b ∉ ch:=fun b u e z=>by rw [(hf b z).1] at e; cases e
 refine I.step (g':=s.gens) (d':=s.drawn) (ch:=ch) (fun b hb=>?_) (fun b o _ _ hc e _=>k b o hc e) (fun b o _ _ hc e _=>⟨o.slots,k b o hc e⟩) (fun _ _ _ _ n=>n)
  (fun b o hc e=>⟨o,k b o hc e⟩) (fun _ _ e=>e) (fun _ _ _ e=>e) (fun b ps e=>⟨#[],by rw [e]; simp⟩) (fun m hm=>?_) (fun b u e=>?_) I.bare
 ·obtain ⟨f0,f1,f2,f3,f4,f5⟩:=hf b hb
  exact ⟨f3,f1,f4,f5⟩
 ·obtain ⟨o,es,ep,ho,r⟩:=hm
  exact ⟨o,es,ep,k _ o (fun z=>(hf _ z).2.1 rfl) ho,r⟩
 ·refine (I.hok b u e).stay (fun c v hc q=>k c v ?_ q) (fun _ q=>q) fun _ _ q=>q
  rcases hc with z | z
  ·rw [z]; exact nch b u e
  ·exact nch c _ z
section
variable {X : Cx} {es : List Expr} {k : Nat} {tpos : Pos}
end
end L2
set_option linter.all false
set_option maxRecDepth 100000
set_option maxHeartbeats 4000000
namespace L2
open PySem PySem.Spec PyProof.Rows
end L2
set_option linter.all false
set_option maxRecDepth 100000
set_option maxHeartbeats 4000000
namespace L2
open PySem PySem.Spec PyProof.Rows
noncomputable def GF (K : PySem.W.Frag) (mg : Str → Option Value) (x : Str) (st : Stmt) : Prop:=∃ f fd,Fun K x x st f fd ∧ mg x = some (.ref f)
noncomputable def FnG (P : Program) (w : World) (K : PySem.W.Frag) (mg : Str → Option Value) (base : Heap) (x : Str) (k : Nat) (ps : List Str) (sp : Sp) : Prop :=
 ∃ f fd,FnOk P w K mg base CX0 k f fd ps sp ∧ mg x = some (.ref f) ∧ PySem.W.keepIn K (.ref f) = true ∧ J2F K fd ps []
noncomputable def MF (K : PySem.W.Frag) (C : Addr) (m qual : Str) (st : Stmt) : Prop:=∃ f fd,Fun K m qual st f fd ∧ Meth K C m f
noncomputable def MtG (P : Program) (w : World) (K : PySem.W.Frag) (mg : Str → Option Value) (base : Heap) (C : Addr) (m : Str) (k : Nat) (ps : List Str) (sp : Sp) : Prop :=
 ∃ f fd,FnOk P w K mg base CX0 k f fd ps sp ∧ Cls K C ∧ Meth K C m f ∧ J2F K fd ps []
structure CF (K : PySem.W.Frag) (mg : Str → Option Value) (x : Str) (C : Addr) : Prop where
 cl : Cls K C
 mg : mg x = some (.ref C)
 makes : PySem.W.makesIn K C = true
 kp : PySem.W.keepIn K (.ref C) = true
noncomputable def MkG (P : Program) (w : World) (K : PySem.W.Frag) (mg : Str → Option Value) (base : Heap) (C : Addr) (x : Str) (k : Nat) (ps : List Str) (sp : Sp) : Prop :=
 ∃ f fd,FnOk P w K mg base CX0 k f fd ps sp ∧ Mk K C f ∧ mg x = some (.ref C) ∧ J2F K fd ps []
section
variable {P : Program} {w : World} {K : PySem.W.Frag} {mg : Str → Option Value} {base : Heap}
theorem GF.g {x : Str} {st : Stmt} {N ps : List Str} {k : Nat} {sp : Sp} (F : GF K mg x st) (S : Jw N ps (J3 st))
  (bnd : ∀ (kV doc pm : Value) (an : Option Addr) (cdv ct : Value) (us : List Value),us.length = ps.length → bindArgs (PySem.W.fnOf x x (Jh st) (Jf st) (J3 st) .none kV doc pm an cdv ct) ⟨us,[]⟩ = pure (ps.zip us))
  (len : ∀ vs H Q E,sp vs H Q E → vs.length = ps.length)
  (hbody : ∀ (f : Addr) (cdv : Value) (A : Around) (outer : List Env) (s : Shared) (H : Hp) (vs : List V) (Q : VK) (E : XK),Room k (A.deeper (envOfC x (J3 st) s.heap.objs.size f cdv)) → sp vs H Q E →
   ∃ t,PSs (cxOf CX0 P w K mg base N x (J3 st) f cdv A outer s H E).nox (Jf st) t ∧ t { nx:=fun _ H'=>Q .non H',rt:=Q } (start N vs) H) : FnG P w K mg base x (k + 1) ps sp:=by
 obtain ⟨f,fd,F,m⟩:=F
 exact ⟨f,fd,F.ok S len fun cdv A outer s H vs Q E hr h=>hbody f cdv A outer s H vs Q E hr h,m,F.kp,F.binds bnd⟩
theorem MF.g {C : Addr} {m qual : Str} {st : Stmt} {N ps : List Str} {k : Nat} {sp : Sp} (F : MF K C m qual st) (cl : Cls K C) (S : Jw N ps (J3 st))
  (bnd : ∀ (kV doc pm : Value) (an : Option Addr) (cdv ct : Value) (us : List Value),us.length = ps.length → bindArgs (PySem.W.fnOf m qual (Jh st) (Jf st) (J3 st) .none kV doc pm an cdv ct) ⟨us,[]⟩ = pure (ps.zip us))
  (len : ∀ vs H Q E,sp vs H Q E → vs.length = ps.length)
  (hbody : ∀ (f : Addr) (cdv : Value) (A : Around) (outer : List Env) (s : Shared) (H : Hp) (vs : List V) (Q : VK) (E : XK),Room k (A.deeper (envOfC qual (J3 st) s.heap.objs.size f cdv)) → sp vs H Q E →
   ∃ t,PSs (cxOf CX0 P w K mg base N qual (J3 st) f cdv A outer s H E).nox (Jf st) t ∧ t { nx:=fun _ H'=>Q .non H',rt:=Q } (start N vs) H) : MtG P w K mg base C m (k + 1) ps sp:=by
 obtain ⟨f,fd,F,m⟩:=F
 exact ⟨f,fd,F.ok S len fun cdv A outer s H vs Q E hr h=>hbody f cdv A outer s H vs Q E hr h,cl,m,F.binds bnd⟩
theorem CF.g {C : Addr} {x : Str} {k : Nat} {ps : List Str} {sp : Sp} (c : CF K mg x C) (G : MtG P w K mg base C "__init__" k ps sp) : MkG P w K mg base C x k ps sp:=by
 obtain ⟨f,fd,a,_,m,b⟩:=G
 exact ⟨f,fd,a,⟨c.makes,m.at_,m.fn,c.kp⟩,c.mg,b⟩
end
section
variable {X : Cx} {x m : Str} {k : Nat} {ps : List Str} {sp : Sp} {C : Addr} {p pos apos : Pos} {e o : Expr} {es : List Expr} {t : TA} {to : TE}
theorem JL (G : FnG X.prog X.w X.K X.mg X.base x k ps sp) (hr : Room k X.A) (ha : PA X (e :: es) t) (hg : Gl X x:=by rfl) (hdb : (x == ("__debug__" : Str)) = false:=by decide)
  (he : starEach (e :: es) X.env = (false,eval e X.env) :: starEach es X.env:=by rfl) (hpl : (backTo pos (starEach es X.env)).any (·.1) = false:=by rfl) : PE X (.Call (.Name x p) (e :: es) [] pos) (Jau sp [] E0 t):=by
 obtain ⟨f,fd,a,b,c,d⟩:=G
 exact Ja6 a hr hg b c d .nil Jar ha hdb he hpl
theorem J5k {n : Str} {T : String} (hm : X.mg n = none) (hv : bootBuiltins n = some (.type T)) (hg : Gl X n:=by rfl) (hn : n ≠ "__name__":=by decide) (hd : (n == ("__debug__" : Str)) = false:=by decide) : PE X (.Name n pos) (tC (.ty T)) :=
 J9V hg hm hv rfl hn hd
end
section
variable {X : Cx} {K : PySem.W.Frag}
theorem Jk (h : X.K = K) : IxR X (rIxL K):=h ▸ J9R
theorem Ji (h : X.K = K) : IxR X (rIxT K):=h ▸ Jc0
theorem J2D (h : X.K = K) : SlR X (rSlL K):=h ▸ J9S
theorem Js (h : X.K = K) : J1m X (.builtin "len") (fun xs H Q=>∃ p ys,xs = [.ref p] ∧ (SqL K H p ys ∨ SqT K H p ys) ∧ Q (.int ys.length) H):=h ▸ J4Q
theorem J1T (hc : X.calm = true) (h : X.K = K) : J1m X (.builtin "all") (fun xs H Q=>∃ (D : Addr) (bs : List Bool),xs = [.ref D] ∧ SqL K H D (bs.map V.bl) ∧ Q (.bl (bs.all id)) H):=h ▸ J7C hc
theorem Jq {e : Expr} {f : Str} {ta : TE} {pos : Pos} (h : X.K = K) (he : PE X e ta) (hb : attributeBase e f X.env (eval e X.env) = eval e X.env) : PE X (.Attribute e f pos) (tFld K ta f):=h ▸ Jcc he hb
theorem JS {tg l : Expr} {tl : TE} (h : X.K = K) (hl : PE X l tl) : PI X tg l (Jat K tl):=h ▸ J9P hl
theorem J6y {i j : Nat} {x y : Str} {px py pos : Pos} {k : Nat} (h : X.K = K) (hc : X.calm = true) (hN : X.N.Nodup) (hi : X.N[i]? = some x) (hj : X.N[j]? = some y) (hx : Loc X.env.scope x) (hy : Loc X.env.scope y)
  (hfx : X.fn x = true ∨ X.env.scope.names.lookup x = some .local:=by first | exact .inl rfl | exact .inr rfl | assumption) (hfy : X.fn y = true ∨ X.env.scope.names.lookup y = some .local:=by first | exact .inl rfl | exact .inr rfl | assumption) :
  PG X (.Tuple [.Name x px,.Name y py] k pos) (gTup K 2 (J8A (J4r i) (J8A (J4r j) gNil))):=h ▸ J28 hc (Jx (Jn hN hi hx hfx) (Jx (Jn hN hj hy hfy) J19))
end
theorem J6C : bootBuiltins "bool" = some (.type "bool"):=by decide +kernel
theorem J7Z : bootBuiltins "int" = some (.type "int"):=by decide +kernel
theorem J03 : bootBuiltins "list" = some (.type "list"):=by decide +kernel
theorem J6l : bootBuiltins "min" = some (.builtin "min"):=by decide +kernel
theorem J4W : bootBuiltins "all" = some (.builtin "all"):=by decide +kernel
theorem J92 : bootBuiltins "any" = some (.builtin "any"):=by decide +kernel
theorem J0v : bootBuiltins "isinstance" = some (.builtin "isinstance"):=by decide +kernel
end L2
set_option linter.all false
set_option maxRecDepth 100000
set_option maxHeartbeats 4000000
namespace L2
open PySem PySem.Spec PyProof.Rows
theorem Vals.rel {xs : List V} {us : List Value} (r : Vals xs us) : ∀ (j : Nat) (h1 : j < xs.length) (h2 : j < us.length),RelV xs[j] us[j]:=by
 induction r with
 | nil=>intro j h1; simp at h1
 | cons a t ih =>
  intro j h1 h2
  cases j with
  | zero=>exact a
  | succ j=>exact ih j (by simpa using h1) (by simpa using h2)
noncomputable def eqVs : List V → List V → Bool
 | [],[]=>true
 | x :: xs,y :: ys=>eqV x y && eqVs xs ys
 | _,_=>false
theorem J3K : ∀ {xs ys : List V},xs.length ≠ ys.length → eqVs xs ys = false
 | [],[],h=>absurd rfl h
 | [],_ :: _,_=>rfl
 | _ :: _,[],_=>rfl
 | x :: xs,y :: ys,h=>by
  have : xs.length ≠ ys.length:=fun e=>h (by simp [e])
  rw [eqVs,J3K this,Bool.and_false]
theorem J2u : ∀ {xs ys : List V},xs.length = ys.length → (List.range xs.length).all (fun j=>eqV (xs.getD j .non) (ys.getD j .non)) = eqVs xs ys
 | [],[],_=>rfl
 | [],_ :: _,h=>by simp at h
 | _ :: _,[],h=>by simp at h
 | x :: xs,y :: ys,h=>by
  have h' : xs.length = ys.length:=by simpa using h
  rw [List.length_cons,List.range_succ_eq_map,List.all_cons,List.all_map,eqVs,← J2u h']
  rfl
theorem J9h (ms : List Int) : (ms.map V.int).all J0E = true:=by
 rw [List.all_map]; exact List.all_eq_true.mpr fun _ _=>rfl
section
variable {X : Cx} {K : PySem.W.Frag}
theorem J5L {A : Around} {s : Shared} {xs ys : List V} {ia ib : List Value} (ra : Vals xs ia) (rb : Vals ys ib) (fx : xs.all J0E = true) (fy : ys.all J0E = true) :
  ∀ j (h1 : j < ia.toArray.size) (h2 : j < ib.toArray.size),SeqAt.EqAt A s ia.toArray[j] ib.toArray[j] (eqV (xs.getD j .non) (ys.getD j .non)):=by
 intro j h1 h2
 have la:=ra.length
 have lb:=rb.length
 have g1 : j < ia.length:=by simpa using h1
 have g2 : j < ib.length:=by simpa using h2
 have e1 : xs.getD j .non = xs[j]'(by omega):=by rw [List.getD_eq_getElem?_getD,List.getElem?_eq_getElem (by omega)]; rfl
 have e2 : ys.getD j .non = ys[j]'(by omega):=by rw [List.getD_eq_getElem?_getD,List.getElem?_eq_getElem (by omega)]; rfl
 rw [e1,e2]
 have k1:=ra.rel j (by omega) g1
 have k2:=rb.rel j (by omega) g2
 have q:=J9u (A:=A) (s:=s) k1 k2 (List.all_eq_true.mp fx _ (List.getElem_mem _)) (List.all_eq_true.mp fy _ (List.getElem_mem _))
 simpa using q
noncomputable def rEqL (K : PySem.W.Frag) (neg : Bool) : R2:=fun x y H Q=>∃ p r xs ys,x = .ref p ∧ y = .ref r ∧ SqL K H p xs ∧ SqL K H r ys ∧ xs.all J0E = true ∧ ys.all J0E = true ∧ Q (.bl (if neg then !eqVs xs ys else eqVs xs ys)) H
theorem JbV (h : X.K = K) (hu : X.A.units < cLine) : OpR X (compareOp .NotEq) (rEqL K true):=by
 subst h
 intro pins s σ H x y v u Q I rx ry h
 obtain ⟨p,r,xs,ys,rfl,rfl,hp,hr,fx,fy,q⟩:=h
 cases rx; cases ry
 obtain ⟨ia,ra,pa,za⟩:=I.list hp
 obtain ⟨ib,rb,pb,zb⟩:=I.list hr
 have la:=ra.length
 have lb:=rb.length
 have q' : Q (.bl (!eqVs xs ys)) H:=q
 by_cases hsz : xs.length = ys.length
 ·refine SeqAt.RcNeAt.lists (e:=fun j=>eqV (xs.getD j .non) (ys.getD j .non)) pa.isList pb.isList (by simp; omega) hu (J5L ra rb fx fy) _ _ _ _ ⟨.bl _,H,I,rfl,?_⟩
  rw [List.size_toArray,← la,J2u hsz]
  exact q'
 ·refine SeqAt.RcNeAt.lists_lengths pa.isList pb.isList (by simp; omega) hu _ _ _ _ ⟨.bl true,H,I,rfl,?_⟩
  rw [J3K hsz] at q'
  exact q'
end
end L2
set_option linter.all false
set_option maxRecDepth 100000
set_option maxHeartbeats 4000000
namespace L2
open PySem PySem.Spec PyProof.Rows
section
variable {X : Cx} {K : PySem.W.Frag}
end
section
variable {prog : Program} {w : World} {A : Around} {E : Value → Shared → Prop} {s : Shared}
end
section
variable {X : Cx} {K : PySem.W.Frag} {pos : Pos}
end
end L2
set_option linter.all false
set_option maxRecDepth 100000
set_option maxHeartbeats 4000000
namespace L2
open PySem PySem.Spec PyProof.Rows
theorem J2a {h : Heap} {a b : Addr} {o p : Obj} (ha : h.get? a = some o) (hb : h.get? b = some p) (hc : o.cls ≠ p.cls) : a ≠ b:=by
 rintro rfl
 rw [ha] at hb
 cases hb
 exact hc rfl
theorem J30 {h : Heap} {z TI TO i1 i2 l1 l2 : Addr} {f0 a b : Value} {k1 k2 : Nat} {xs ys : Array Value} (F : J4G z TI TO i1 i2) (hz : IsZip h z TI TO f0) (hTI : IsPair h TI (.ref i1) (.ref i2)) (hTO : IsPair h TO a b)
  (h1 : h.IsListIter i1 l1 k1) (h2 : h.IsListIter i2 l2 k2) (hl1 : h.IsList l1 xs) (hl2 : h.IsList l2 ys) : ZipApart z TI TO i1 i2 l1 l2:=by
 obtain ⟨o1,e1,c1,_⟩:=h1
 obtain ⟨o2,e2,c2,_⟩:=h2
 obtain ⟨p1,q1,d1,_⟩:=hl1
 obtain ⟨p2,q2,d2,_⟩:=hl2
 have n1 : (Value.type "list") ≠ .type "zip":=by intro z; injection z with z; revert z; decide
 have n2 : (Value.type "list") ≠ .type "tuple":=by intro z; injection z with z; revert z; decide
 have n3 : (Value.type "list") ≠ .type "list_iterator":=by intro z; injection z with z; revert z; decide
 exact ⟨F.TIz,F.TOz,F.i1z,F.i2z,F.TITO,F.TIi1,F.TIi2,F.TOi1,F.TOi2,F.i12,
  J2a q1 hz (by rw [d1]; exact n1),J2a q1 hTO (by rw [d1]; exact n2),J2a q1 e1 (by rw [d1,c1]; exact n3),J2a q1 e2 (by rw [d1,c2]; exact n3),
  J2a q2 hz (by rw [d2]; exact n1),J2a q2 hTO (by rw [d2]; exact n2),J2a q2 e1 (by rw [d2,c1]; exact n3),J2a q2 e2 (by rw [d2,c2]; exact n3)⟩
noncomputable def Izl (K : PySem.W.Frag) (a b : Addr) : It :=
  ⟨fun i H=>∃ xs ys x y,SqL K H a xs ∧ SqL K H b ys ∧ xs[i]? = some x ∧ ys[i]? = some y,
   fun i H v H'=>∃ p x y,H p = none ∧ (∀ xs,SqL K H a xs → xs[i]? = some x) ∧ (∀ ys,SqL K H b ys → ys[i]? = some y) ∧ v = .ref p ∧ H' = upd H p (.tup [x,y]),
   fun i H=>∃ xs ys,SqL K H a xs ∧ SqL K H b ys ∧ (xs.length ≤ i ∨ ys.length ≤ i)⟩
theorem J7A {P : Program} {w : World} {K : PySem.W.Frag} {es : List Expr} {k : Nat} {pos : Pos} {z TI TO i1 i2 l1 l2 : Addr} (F : J4G z TI TO i1 i2) :
  Turn P w K (.Tuple es k pos) (Izl K l1 l2) [z,TI,TO,i1,i2] z (fun i h=>IsZip h z TI TO .none ∧ IsPair h TI (.ref i1) (.ref i2) ∧ (∃ a b,IsPair h TO a b) ∧ h.IsListIter i1 l1 i ∧ h.IsListIter i2 l2 i) where
 mem:=by simp
 obj:=fun i h st b hb=>by
  obtain ⟨hz,hTI,⟨a,b',hTO⟩,⟨o1,e1,c1,d1⟩,o2,e2,c2,d2⟩:=st
  simp only [List.mem_cons,List.not_mem_nil,or_false] at hb
  rcases hb with rfl | rfl | rfl | rfl | rfl
  ·exact ⟨_,hz,fun v q=>by cases q⟩
  ·exact ⟨_,hTI,fun v q=>by cases q⟩
  ·exact ⟨_,hTO,fun v q=>by cases q⟩
  ·exact ⟨o1,e1,fun v q=>by rw [d1] at q; cases q⟩
  ·exact ⟨o2,e2,fun v q=>by rw [d2] at q; cases q⟩
 keep:=fun i h h' st kk=>by
  obtain ⟨hz,hTI,⟨a,b',hTO⟩,⟨o1,e1,r1⟩,o2,e2,r2⟩:=st
  exact ⟨kk z (by simp) _ hz,kk TI (by simp) _ hTI,⟨a,b',kk TO (by simp) _ hTO⟩,⟨o1,kk i1 (by simp) _ e1,r1⟩,o2,kk i2 (by simp) _ e2,r2⟩
 item:=by
  intro X hP hw hK hc i pins s σ H E I hf st hg
  subst hP hw hK
  obtain ⟨hz,hTI,⟨a,b,hTO⟩,h1,h2⟩:=st
  obtain ⟨xs,ys,x,y,hq1,hq2,hx,hy⟩:=hg
  obtain ⟨ia,ra,pa,_⟩:=I.list hq1
  obtain ⟨ib,rb,pb,_⟩:=I.list hq2
  obtain ⟨u,hu,ru⟩:=ra.get hx
  obtain ⟨v,hv,rv⟩:=rb.get hy
  have D:=J30 F hz hTI hTO h1 h2 pa.isList pb.isList
  obtain ⟨tk,htk⟩ : ∃ tk,tk = s.toks:=⟨_,rfl⟩
  refine wpAny_pyNext_zip_item D hz hTI hTO h1 h2 pa.isList pb.isList (x:=u) (y:=v) (by simpa using hu) (by simpa using hv) fun h' a1 a2 a3 a4 a5 a6 kp=>?_
  refine ⟨_,rfl,?_⟩
  refine wpAny_letOwnedTupleGo_zip (s:={ s with heap:=h',toks:=s.toks }) a1 fun h2' hz' hs'=>?_
  replace hs' : Heap.SameBut z h' h2':=hs'
  have zlt : z < s.heap.objs.size:=Heap.lt_size hz
  have far : ∀ q ∈ [z,TI,TO,i1,i2],q < s.heap.objs.size:=by
   intro q hq
   obtain ⟨o1,e1,_⟩:=h1
   obtain ⟨o2,e2,_⟩:=h2
   simp only [List.mem_cons,List.not_mem_nil,or_false] at hq
   rcases hq with rfl | rfl | rfl | rfl | rfl
   ·exact zlt
   ·exact Heap.lt_size hTI
   ·exact Heap.lt_size hTO
   ·exact Heap.lt_size e1
   ·exact Heap.lt_size e2
  have fz:=hf z (by simp)
  have fTO:=hf TO (by simp)
  have f1:=hf i1 (by simp)
  have f2:=hf i2 (by simp)
  have I1 : Inv X pins σ H { s with heap:=s.heap.push { cls:=.type "tuple",data:=.seq #[u,v] },toks:=s.toks }:=I.kept fun b o e=>Heap.get?_push_of_some _ e
  have keepAll : ∀ b o,b ≠ z → b ≠ TO → b ≠ i1 → b ≠ i2 → s.heap.get? b = some o → h2'.get? b = some o:=fun b o b1 b2 b3 b4 e=>hs'.extBut _ _ b1 (kp b o b1 b2 b3 b4 e)
  have hnew : H s.heap.objs.size = none:=I.hok.fresh (Nat.le_refl _)
  have Tz : s.heap.objs.size ≠ z:=Nat.ne_of_gt zlt
  have ht2 : h2'.get? s.heap.objs.size = some { cls:=.type "tuple",data:=.seq #[u,v] }:=hs'.extBut _ _ Tz a5
  have I2 : Inv X pins σ (upd H s.heap.objs.size (.tup [x,y])) { s with heap:=h2',toks:=s.toks }:=by
   have there : ∀ q ∈ [z,TO,i1,i2],∃ o',h2'.get? q = some o':=by
    intro q hq
    obtain ⟨o1,e1,_⟩:=a3
    obtain ⟨o2,e2,_⟩:=a4
    simp only [List.mem_cons,List.not_mem_nil,or_false] at hq
    rcases hq with rfl | rfl | rfl | rfl
    ·exact ⟨_,hz'⟩
    ·exact ⟨_,hs'.extBut _ _ F.TOz a2⟩
    ·exact ⟨_,hs'.extBut _ _ F.i1z e1⟩
    ·exact ⟨_,hs'.extBut _ _ F.i2z e2⟩
   have nch : ∀ b,b ∉ [z,TO,i1,i2] → b ≠ z ∧ b ≠ TO ∧ b ≠ i1 ∧ b ≠ i2:=fun b hb=>by
    simp only [List.mem_cons,List.not_mem_nil,or_false,not_or] at hb
    exact hb
   have trk : ∀ b u',H b = some u' → b ≠ z ∧ b ≠ TO ∧ b ≠ i1 ∧ b ≠ i2:=fun b u' e =>
    ⟨fun q=>(by rw [q,fz.1] at e; cases e),fun q=>(by rw [q,fTO.1] at e; cases e),fun q=>(by rw [q,f1.1] at e; cases e),fun q=>(by rw [q,f2.1] at e; cases e)⟩
   have okH : HOk X.prog X.w (upd H s.heap.objs.size (.tup [x,y])) h2':=fun b u' e=>by
    by_cases hb : b = s.heap.objs.size
    ·subst hb
     rw [Jc] at e
     cases e
     exact ⟨(show 2 ≤ sizeLine by decide),[u,v],.cons ru (.cons rv .nil),⟨_,ht2,rfl,_,rfl⟩⟩
    ·rw [J7 hb] at e
     have hx:=I.hok b u' e
     refine hx.stay (fun q o hq e2=>?_) (fun q e2=>?_) (fun q xs e2=>?_)
     ·rcases hq with rfl | hq
      ·obtain ⟨b1,b2,b3,b4⟩:=trk q _ e
       exact keepAll q o b1 b2 b3 b4 e2
      ·obtain ⟨b1,b2,b3,b4⟩:=trk q _ hq
       exact keepAll q o b1 b2 b3 b4 e2
     ·rw [J7 (Jb e2 hnew)]; exact e2
     ·rw [J7 (Jb e2 hnew)]; exact e2
   refine I.step (g':=s.gens) (d':=s.drawn) (ch:=[z,TO,i1,i2]) (fun b hb=>?_) (fun b o _ _ hcb e n=>?_) (fun b o _ _ hcb e n=>?_) (fun b o hcb e n=>?_) (fun b o hcb e=>?_) (fun b xs e=>?_) (fun b o u' e=>?_) (fun b ps e=>?_) (fun m hm=>?_) okH I.bare
   ·simp only [List.mem_cons,List.not_mem_nil,or_false] at hb
    rcases hb with rfl | rfl | rfl | rfl
    ·exact ⟨fz.2.2.2.1,fz.2.1,fz.2.2.2.2.1,fz.2.2.2.2.2⟩
    ·exact ⟨fTO.2.2.2.1,fTO.2.1,fTO.2.2.2.2.1,fTO.2.2.2.2.2⟩
    ·exact ⟨f1.2.2.2.1,f1.2.1,f1.2.2.2.2.1,f1.2.2.2.2.2⟩
    ·exact ⟨f2.2.2.2.1,f2.2.1,f2.2.2.2.2.1,f2.2.2.2.2.2⟩
   ·obtain ⟨b1,b2,b3,b4⟩:=nch b hcb
    exact keepAll b o b1 b2 b3 b4 e
   ·obtain ⟨b1,b2,b3,b4⟩:=nch b hcb
    exact ⟨o.slots,keepAll b o b1 b2 b3 b4 e⟩
   ·rw [J7 (Nat.ne_of_lt (Heap.lt_size e))]; exact n
   ·obtain ⟨b1,b2,b3,b4⟩:=nch b hcb
    exact ⟨o,keepAll b o b1 b2 b3 b4 e⟩
   ·rw [J7 (Jb e hnew)]; exact e
   ·rw [J7 (Jb e hnew)]; exact e
   ·exact ⟨#[],by rw [J7 (Jb e hnew),e]; simp⟩
   ·obtain ⟨o,es',ep,ho,r⟩:=hm
    exact ⟨o,es',ep,keepAll _ o fz.2.1.symm fTO.2.1.symm f1.2.1.symm f2.2.1.symm ho,r⟩
  refine ⟨.ref s.heap.objs.size,_,I2,rfl,⟨_,x,y,hnew,fun zs hz=>by rw [I.list_inj hz hq1]; exact hx,fun zs hz=>by rw [I.list_inj hz hq2]; exact hy,rfl,rfl⟩,⟨hz',hs'.extBut _ _ F.TIz (kp _ _ F.TIz F.TITO F.TIi1 F.TIi2 hTI),⟨_,_,hs'.extBut _ _ F.TOz a2⟩,?_,?_⟩,fun b hb=>?_⟩
  ·obtain ⟨o,e,r⟩:=a3; exact ⟨o,hs'.extBut _ _ F.i1z e,r⟩
  ·obtain ⟨o,e,r⟩:=a4; exact ⟨o,hs'.extBut _ _ F.i2z e,r⟩
  ·rw [J7 (Nat.ne_of_lt (far b hb))]; exact (hf b hb).1
 done:=by
  intro X hP hw hK hc i pins s σ H E I hf st hg
  subst hP hw hK
  obtain ⟨hz,hTI,⟨a,b,hTO⟩,h1,h2⟩:=st
  obtain ⟨xs,ys,hq1,hq2,hg⟩:=hg
  obtain ⟨ia,ra,pa,_⟩:=I.list hq1
  obtain ⟨ib,rb,pb,_⟩:=I.list hq2
  have la:=ra.length
  have lb:=rb.length
  have D:=J30 F hz hTI hTO h1 h2 pa.isList pb.isList
  refine wpAny_pyNext_zip_end (I.ok.hd hc) D hz hTI hTO h1 h2 pa.isList pb.isList (by rcases hg with q | q; exact .inl (by simp; omega); exact .inr (by simp; omega)) fun h' kp=>⟨rfl,?_⟩
  refine I.turnedN (t':=s.toks) (ch:=[z,TO,i1,i2]) (fun b o hb q=>?_) fun b hb=>hf b ?_
  ·simp only [List.mem_cons,List.not_mem_nil,or_false,not_or] at hb
   exact kp b o hb.1 hb.2.1 hb.2.2.1 hb.2.2.2 q
  ·simp only [List.mem_cons,List.not_mem_nil,or_false] at hb ⊢
   rcases hb with q | q | q | q
   ·exact .inl q
   ·exact .inr (.inr (.inl q))
   ·exact .inr (.inr (.inr (.inl q)))
   ·exact .inr (.inr (.inr (.inr q)))
 self:=fun _ _ _ _ _ st h=>wpAny_pyIter_zip st.1 h
section
variable {X : Cx} {es : List Expr} {k : Nat} {tpos : Pos}
noncomputable def Jao (K : PySem.W.Frag) (ta : TA) : TI:=fun σ H R=>ta σ H fun vs H1=>∃ a b,vs = [.ref a,.ref b] ∧ (∃ xs,SqL K H1 a xs) ∧ (∃ ys,SqL K H1 b ys) ∧ R (Izl K a b) H1
theorem Ja3 {a b : Expr} {ta : TA} {p pos : Pos} (hg : Gl X "zip") (hm : X.mg "zip" = none) (ha : PA X [a,b] ta) (hv : bootBuiltins "zip" = some (.type "zip"):=by decide +kernel) (hs : starEach [a,b] X.env = [(false,eval a X.env),(false,eval b X.env)]:=by rfl) (hs2 : starEach [b] X.env = [(false,eval b X.env)]:=by rfl) :
  PI X (.Tuple es k tpos) (.Call (.Name "zip" p) [a,b] [] pos) (Jao X.K ta):=by
 intro pins s σ H R I h
 refine Call_ (J2r I hg hm hv (PyProof.Rows.callWith_type1 (thn (ha pos pins s σ H _ I h) fun us s1 ⟨vs,H1,I1,r1,q1⟩=>?_) (by rw [hs,hs2]) (by rw [hs2]; rfl)))
 obtain ⟨l1,l2,e,⟨xs,hq1⟩,⟨ys,hq2⟩,q⟩:=q1
 subst e
 obtain ⟨u,v,rfl,ru,rv⟩:=r1.two
 cases ru; cases rv
 obtain ⟨ia,ra,pa,_⟩:=I1.list hq1
 obtain ⟨ib,rb,pb,_⟩:=I1.list hq2
 refine call_zip_2 pa.isList pb.isList fun h' a1 a2 a3 a4 a5 a6 kp=>?_
 have far : J4G (s1.heap.objs.size + 4) (s1.heap.objs.size + 2) (s1.heap.objs.size + 3) s1.heap.objs.size (s1.heap.objs.size + 1):=J6D _
 have I2 : Inv X pins σ H1 { s1 with heap:=h' }:=I1.kept (t':=s1.toks) kp
 refine wpAny_pyIter_zip a1 ⟨s1.heap.objs.size + 4,[s1.heap.objs.size + 4,s1.heap.objs.size + 2,s1.heap.objs.size + 3,s1.heap.objs.size,s1.heap.objs.size + 1],_,_,H1,rfl,I2,J7A far,⟨a1,a2,⟨_,_,a3⟩,a4,a5⟩,fun b hb=>?_,q⟩
 have hb' : s1.heap.objs.size ≤ b:=by
  simp only [List.mem_cons,List.not_mem_nil,or_false] at hb
  rcases hb with rfl | rfl | rfl | rfl | rfl
  ·exact Nat.le_add_right _ _
  ·exact Nat.le_add_right _ _
  ·exact Nat.le_add_right _ _
  ·exact Nat.le_refl _
  ·exact Nat.le_add_right _ _
 exact I1.fpOk hb' (I1.hok.fresh hb')
end
theorem J2d {X : Cx} {es : List Expr} {k : Nat} {tpos : Pos} {K : PySem.W.Frag} {a b : Expr} {ta : TA} {p pos : Pos} (h : X.K = K) (hg : Gl X "zip") (hm : X.mg "zip" = none) (ha : PA X [a,b] ta) (hv : bootBuiltins "zip" = some (.type "zip"):=by decide +kernel) (hs : starEach [a,b] X.env = [(false,eval a X.env),(false,eval b X.env)]:=by rfl) (hs2 : starEach [b] X.env = [(false,eval b X.env)]:=by rfl) :
  PI X (.Tuple es k tpos) (.Call (.Name "zip" p) [a,b] [] pos) (Jao K ta):=h ▸ Ja3 hg hm ha hv hs hs2
theorem J5R {K : PySem.W.Frag} {a b : Addr} {xs ys : List V} {g : TG} {tb : TS} {D : Ends} {σ : St} {H : Hp} (Pv : Nat → St → Hp → Prop) (h0 : Pv 0 σ H) (hl : ∀ i σ H,i ≤ xs.length → i ≤ ys.length → Pv i σ H → SqL K H a xs ∧ SqL K H b ys)
  (hs : ∀ i x y p σ H,xs[i]? = some x → ys[i]? = some y → H p = none → Pv i σ H → g (.ref p) σ (upd H p (.tup [x,y])) fun σ2 H2=>tb { D with nx:=Pv (i + 1),ct:=Pv (i + 1),bk:=D.nx } σ2 H2) (hd : ∀ i σ H,i = xs.length ∨ i = ys.length → Pv i σ H → D.nx σ H) :
  ∃ W : Nat → Nat → St → Hp → Prop,(∃ m,W 0 m σ H) ∧ ∀ i m σ H,W i m σ H →
   ((Izl K a b).stop i H ∧ D.nx σ H) ∨ ((Izl K a b).go i H ∧ ∃ N : St → Hp → Prop,(∀ σ' H',N σ' H' → ∃ m',m' < m ∧ W (i + 1) m' σ' H') ∧ ∀ x H',(Izl K a b).yld i H x H' → g x σ H' fun σ2 H2=>tb { D with nx:=N,ct:=N,bk:=D.nx } σ2 H2):=by
 refine ⟨fun i m σ H=>m = xs.length - i ∧ i ≤ xs.length ∧ i ≤ ys.length ∧ Pv i σ H,⟨xs.length,by simp,Nat.zero_le _,Nat.zero_le _,h0⟩,?_⟩
 rintro i m σ H ⟨rfl,hi,hj,p⟩
 obtain ⟨q1,q2⟩:=hl i σ H hi hj p
 by_cases hlt : i < xs.length ∧ i < ys.length
 ·refine .inr ⟨⟨xs,ys,xs[i],ys[i],q1,q2,by simp [hlt.1],by simp [hlt.2]⟩,Pv (i + 1),fun σ' H' p'=>⟨xs.length - (i + 1),by omega,rfl,hlt.1,hlt.2,p'⟩,fun x H' y=>?_⟩
  obtain ⟨r,u,v,hr,e1,e2,rfl,rfl⟩:=y
  exact hs i u v r σ H (e1 xs q1) (e2 ys q2) hr p
 ·have e : i = xs.length ∨ i = ys.length:=by omega
  exact .inl ⟨⟨xs,ys,q1,q2,by omega⟩,hd i σ H e p⟩
end L2
set_option linter.all false
set_option maxRecDepth 100000
set_option maxHeartbeats 4000000
namespace L2
open PySem PySem.Spec PyProof.Rows
section
variable {X : Cx} {elt tg iter : Expr} {ifs : List Expr} {scope : Scope} {pos : Pos} {N : List Str} {js : List (Option Nat)} {wi : TI} {g : TG} {tc : TT} {te : TE}
theorem J3e {osc : Scope} {ON : List Str} {k : Nat} {y : Str} {py spos : Pos} (hN : X.N.Nodup) (hk : X.N[k]? = some y) (hky : Loc X.env.scope y) (cs : J2g osc ON scope N js) (ho : X.env.scope = osc) (hON : X.N = ON) (hc : X.calm = true) (hi : PI X tg iter wi)
    (hg : ∀ s₀ H₀ cl C ex,PG (J0n X scope N s₀ H₀ cl C ex) tg g) (hif : ∀ s₀ H₀ cl C ex,PIfs (J0n X scope N s₀ H₀ cl C ex) ifs tc) (he : ∀ s₀ H₀ cl C ex,PE (J0n X scope N s₀ H₀ cl C ex) elt te)
    (hsw : swapsWith (.ListComp elt [⟨tg,iter,ifs,0⟩] scope pos) (some (.Name y py)) spos.line X.env = pure true:=by rfl)
    (hs : ∀ x,foldedSetIterable iter X.env x = pure x:=by intro _; rfl) (hf : X.fn y = true ∨ X.env.scope.names.lookup y = some .local:=by first | exact .inl rfl | exact .inr rfl | assumption) :
    PS X (.Assign [.Name y py] (.ListComp elt [⟨tg,iter,ifs,0⟩] scope pos) spos) (tAsg (J8M wi (subσ js) g tc te) (J4r k)):=by
  intro pins s σ H Dn I h0
  have h : J8M wi (subσ js) g tc te σ H (fun v H'=>Dn.nx (σ.set k (some v)) H'):=h0
  subst ho hON
  obtain ⟨cl,hcl,cl1,cl2⟩:=J1v (scope:=scope) (env:=X.env) fun y hy hf=>I.ok.has y.1 (cs.free y hy hf)
  rw [exec_Assign_Name_used _ _ _ _ hsw]
  refine wpAny_bind (wpAny_standAt (wpAny_bind ?_))
  show wpAny _ X.A (do let _ ← comprehension (.ListComp elt [⟨tg,iter,ifs,0⟩] scope pos) scope X.env _ (newList []) false (eval iter X.env) (some (assign (.Name y py) X.env))) _ _ s
  refine wpAny_bind (wpAny_mono (wpAny_comprehension_free (use:=some (assign (.Name y py) X.env)) (Q:=fun _ s'=>SP X pins Dn .next s') rfl hs hcl cs.kind cs.names ?_) (fun _ s' hq=>wpAny_pure (wpAny_pure hq)) fun _ _ e=>e)
  refine thn (hi pins s σ H _ I h) fun v s1 h1=>thn h1 fun itv s2 h2=>?_
  obtain ⟨it,fp,tn,J,H2,e,I2,T,st2,f2,hW⟩:=h2
  subst e
  have hD0 : H2 s2.heap.objs.size = none:=I2.hok.fresh (Nat.le_refl _)
  obtain ⟨W,⟨m0,w0⟩,turn⟩:=hW s2.heap.objs.size hD0
  have I3:=I2.lnew (t':=s2.toks) (ys:=[]) (its:=[]) .nil (Nat.zero_le _)
  refine wpAny_newObj_type (wpAny_newFunctionEnv cs.cell (by intro y hy; simp at hy) (fun h₁ hns₁ hsb₁=>?_) cs.kind)
  dsimp only at hns₁ hsb₁ ⊢
  obtain ⟨s3,hs3⟩ : ∃ s3 : Shared,s3 = { s2 with heap:=s2.heap.push { cls:=.type "list",data:=.seq ([] : List Value).toArray },toks:=s2.toks }:=⟨_,rfl⟩
  rw [← hs3] at I3
  have e3 : s3.heap = s2.heap.push { cls:=.type "list",dict:=none,data:=.seq ([] : List Value).toArray }:=by rw [hs3]
  have e3o : s3.os = s2.os:=by rw [hs3]
  have e3g : s3.gens = s2.gens:=by rw [hs3]
  rw [← e3] at hns₁ hsb₁ ⊢
  obtain ⟨H3,hH3⟩ : ∃ H3 : Hp,H3 = upd H2 s2.heap.objs.size (.lst []):=⟨_,rfl⟩
  rw [← hH3] at I3 w0
  have up1 : ∀ b o,s2.heap.get? b = some o → s3.heap.get? b = some o:=fun b o q=>by rw [e3]; exact Heap.get?_push_of_some _ q
  have up2 : ∀ b o,s3.heap.get? b = some o → h₁.get? b = some o:=fun b o q=>hsb₁.extBut b o (Nat.ne_of_lt (Heap.lt_size q)) (Heap.get?_push_of_some _ q)
  have fpo : ∀ b ∈ fp,∃ o,s3.heap.get? b = some o:=fun b hb=>by
    obtain ⟨o,ho,_⟩:=T.obj 0 _ st2 b hb
    exact ⟨o,up1 b o ho⟩
  have fr3 : ∀ b ∈ fp,H3 b = none:=fun b hb=>by
    obtain ⟨o,ho,_⟩:=T.obj 0 _ st2 b hb
    rw [hH3,J7 (Nat.ne_of_lt (Heap.lt_size ho))]
    exact (f2 b hb).1
  have fpC : ∀ b ∈ fp,b ≠ s3.heap.objs.size:=fun b hb=>by
    obtain ⟨o,ho⟩:=fpo b hb
    exact Nat.ne_of_lt (Heap.lt_size ho)
  have fpS : ∀ b ∈ fp,b ∉ frs X.stack:=fun b hb hs'=>by
    rcases List.mem_cons.mp (I2.stkSub b hs') with z | z
    · exact (f2 b hb).2.1 z
    · exact (f2 b hb).2.2.1 z
  have ok' : (J0n X scope N s3 H3 cl s3.heap.objs.size fp).Ok:=by
    refine ⟨I.ok.mod,cs.kind,I.ok.glob,I.ok.blt,Nat.le_refl _,fun x y c e1 e2=>I.ok.inj x y c (cl2 x c e1) (cl2 y c e2),fun x hx=>?_,fun x c hf=>(nomatch hf),I.ok.hd,I.ok.frames,.inl rfl,fun b hb=>⟨fpC b hb,fun x c e=>(f2 b hb).2.2.2.2.1 x c (cl2 x c e)⟩,
      I3.bs,Nat.le_trans I.ok.bsz I3.sz,fun b o e hb=>?_,fun b hb=>fpS b hb,I3.stack,I3.stkFree⟩
    · have hm : (x,NameKind.free) ∈ scope.names:=J1Y cs.cell hx
      obtain ⟨c,hc⟩:=I.ok.has x (cs.free _ hm rfl)
      exact ⟨c,(cl1 _ hm rfl).trans hc⟩
    · rcases (f2 b hb).2.2.2.1 with z | z
      · exact I.ok.noex b o e z
      · exact absurd (Nat.lt_of_lt_of_le (Heap.lt_size e) (Nat.le_trans I.ok.bsz z)) (Nat.lt_irrefl _)
  have cellK : ∀ c v,s3.heap.IsCell c v → h₁.IsCell c v:=fun c v ⟨o,ho,hd⟩=>⟨o,up2 c o ho,hd⟩
  have I4 : ∀ t : Nat,Inv (J0n X scope N s3 H3 cl s3.heap.objs.size fp) [] (subσ js σ) H3 { s2 with heap:=h₁,toks:=t }:=fun t=>by
    refine ⟨ok',e3o.symm,I2.bare,Un.kept up2,⟨_,hns₁,fun i x v hi hv hx=>?_⟩,fun x c e=>?_,I3.hok.fresh (Nat.le_refl _),fun x c e=>I3.freeC x c (cl2 x c e),fun p hp=>(nomatch hp),I3.hok.kept up2,?_⟩
    ·
      have hv' : ∃ j,js[i]? = some (some j) ∧ σ[j]? = some (some v):=by
        unfold subσ at hv
        rw [List.getElem?_map] at hv
        cases hj : js[i]? with
        | none=>rw [hj] at hv; cases hv
        | some o =>
          rw [hj] at hv
          cases o with
          | none=>cases hv
          | some j =>
            refine ⟨j,rfl,?_⟩
            have hv2 : (σ[j]?).join = some v:=Option.some.inj hv
            cases hs2 : σ[j]? with
            | none=>rw [hs2] at hv2; cases hv2
            | some u=>rw [hs2] at hv2; exact congrArg some hv2
      obtain ⟨j,hj,hσ⟩:=hv'
      obtain ⟨x',h1',h2',h3'⟩:=cs.sub i j hj
      have hxx : x = x':=Option.some.inj (hi.symm.trans h1')
      subst hxx
      have hm : (x,NameKind.free) ∈ scope.names:=mem_of_lookup h3'
      have hk:=cs.free _ hm rfl
      obtain ⟨m,hn,hl⟩:=id I3.loc
      obtain ⟨u,ru,lk⟩:=hl j x v h2' hσ (by rcases hk with z | z; exact .inr (.inl z); exact .inr (.inr z))
      refine ⟨u,ru,?_⟩
      rcases lk with ⟨k1,_⟩ | ⟨k1,c,e1,z⟩
      · rcases hk with z | z <;> (rw [show X.env.kindOf x = _ from z] at k1; cases k1)
      · exact .inr ⟨J0s h3',c,(cl1 _ hm rfl).trans e1,cellK c _ z⟩
    · obtain ⟨v,z⟩:=I3.cell x c (cl2 x c e)
      exact ⟨v,cellK c v z⟩
    · unfold subσ
      rw [List.length_map]
      exact cs.len
  have hst₁ : tn 0 h₁:=T.keep 0 _ _ st2 fun b hb o q=>up2 b o (up1 b o q)
  have stat : ∀ {H' : Hp},(∀ b ∈ fp,H' b = none) → ∀ b ∈ fp,FpOk (J0n X scope N s3 H3 cl s3.heap.objs.size fp) [] H' b:=fun hn b hb =>
    ⟨hn b hb,fpC b hb,fpS b hb,.inl hb,fun x c e=>(f2 b hb).2.2.2.2.1 x c (cl2 x c e),fun p hp=>(nomatch hp)⟩
  have loop : ∀ s4 : Shared,(∃ t,s4 = { s2 with heap:=h₁,toks:=t }) →
      codeAny (model X.prog X.w) X.A (.compLoop (.ListComp elt [⟨tg,iter,ifs,0⟩] scope pos) 0 (.ref it) (.ref s2.heap.objs.size) (compEnvC scope cl s3.heap.objs.size X.env))
        (compPost (model X.prog X.w) X.A X.xe (some (assign (.Name y py) X.env)) (fun _ s'=>SP X pins Dn .next s') (.ref s2.heap.objs.size) s3.heap.objs.size) s4:=by
    rintro s4 ⟨t,rfl⟩
    refine J2C (fun n s'=>∃ i σ' ys H',Inv (J0n X scope N s3 H3 cl s3.heap.objs.size fp) [] σ' H' s' ∧ tn i s'.heap ∧ (∀ b ∈ fp,H' b = none) ∧ W i n σ' ys H') ?_ m0 ⟨0,_,[],H3,I4 t,hst₁,fr3,w0⟩
    rintro n s5 ⟨i,σ5,ys,H5,I5,st5,fr5,w5⟩
    rcases turn i n σ5 ys H5 w5 with ⟨stop,qn⟩ | ⟨go,step⟩
    · refine thn (T.done (J0n X scope N s3 H3 cl s3.heap.objs.size fp) rfl rfl rfl hc i [] s5 σ5 H5 _ I5 (stat fr5) st5 stop) fun r s6 ⟨hr,I6⟩=>?_
      subst hr
      obtain ⟨m,hn,_⟩:=id I6.loc
      have IX : ∀ h',Heap.SameBut s3.heap.objs.size s6.heap h' → Inv X pins σ H5 { s6 with heap:=h' }:=fun h' hs'=>by
        have neC : ∀ b o,s3.heap.get? b = some o → b ≠ s3.heap.objs.size:=fun b o q=>Nat.ne_of_lt (Heap.lt_size q)
        have un : Un (frs X.stack) fp H3 H5 s3.heap h' :=
          ⟨fun b o q n1 hb hx=>(hs'.2 b (neC b o q)).trans (I6.base.keep b o q n1 hb hx),
           fun b o q n1 hb hx=>by
             obtain ⟨sl,e⟩:=I6.base.slot b o q n1 hb hx
             exact ⟨sl,(hs'.2 b (neC b o q)).trans e⟩,
           fun b o q n1 hx=>I6.base.free b o q n1 hx,
           fun b o q hx=>by
             obtain ⟨o',e⟩:=I6.base.there b o q hx
             exact ⟨o',(hs'.2 b (neC b o q)).trans e⟩,
           I6.base.tups,I6.base.frzs,I6.base.tbls⟩
        refine I3.call' (ch:=fp) (s':={ s6 with heap:=h' }) I6.os un (fun b ob e=>?_) I6.bare (fun b hb=>⟨(f2 b hb).2.2.2.1,(f2 b hb).2.1,(f2 b hb).2.2.2.2.1,(f2 b hb).2.2.2.2.2⟩)
        refine (I6.hok b ob e).stay (fun c w' hc' q=>(hs'.2 c ?_).trans q) (fun _ q=>q) fun _ _ q=>q
        rintro rfl
        have fC : H5 s3.heap.objs.size = none:=I6.free
        rcases hc' with z | z
        · rw [← z,fC] at e; cases e
        · rw [fC] at z; cases z
      have fC : H5 s3.heap.objs.size = none:=I6.free
      have IY : Inv X pins σ H5 s6:=IX s6.heap (Heap.SameBut.refl ..)
      have fo : FpOk X pins H5 s3.heap.objs.size:=I3.fpOk (Nat.le_refl _) fC
      obtain ⟨oC,es,ep,ho1,hd1,hrest⟩:=id hn
      have IZ:=IY.pinned (fp:=[s3.heap.objs.size]) (fun b hb=>by obtain rfl : b = _:=(by simpa using hb); exact fo) (fun b hb=>by obtain rfl : b = _:=(by simpa using hb); exact ⟨oC,ho1,fun v z=>by rw [hd1] at z; cases z⟩)
      show wpAny _ X.A (assign (.Name y py) X.env (.ref s2.heap.objs.size)) _ _ s6
      refine wpAny_assign_Name (J2A IZ hN hk hky (show RelV (.ref s2.heap.objs.size) (.ref s2.heap.objs.size) from rfl) (fun s7 I7=>?_) hf)
      have hC7 : s7.heap.get? s3.heap.objs.size = some oC:=(I7.pin (s3.heap.objs.size,oC) (List.mem_append_right _ (List.mem_append_right _ (J0B (by simp) ho1)))).1
      refine ⟨m,hn.at' fun o e=>?_,fun h' hs'=>⟨_,H5,?_,qn⟩⟩
      · rw [ho1] at e; cases e; exact hC7
      · have I8:=I7.unpinned
        exact I8.turned (t':=s7.toks) (fun b o hb e=>(hs'.2 b hb).trans e) fo.1 fo.2.1 fo.2.2.2.1 fo.2.2.2.2.1 fo.2.2.2.2.2
    · refine thn (T.item (J0n X scope N s3 H3 cl s3.heap.objs.size fp) rfl rfl rfl hc i [] s5 σ5 H5 _ I5 (stat fr5) st5 go) fun r s6 ⟨u,hr,h6⟩=>?_
      subst hr
      refine thn h6 fun _ s7 ⟨x,H7,I7,r7,y7,st7,fr7⟩=>?_
      have I7':=I7.pinned (stat fr7) (T.obj _ _ st7)
      refine thn (hg _ _ _ _ _ _ s7 σ5 H7 x u _ I7' r7 (step x H7 y7)) fun _ s8 ⟨σ8,H8,I8,q8⟩=>?_
      refine thn (hif _ _ _ _ _ _ s8 σ8 H8 _ I8 q8) fun ok s9 ⟨H9,I9,q9⟩=>?_
      have again : ∀ {σ' : St} {H' : Hp} {s' : Shared},Inv (J0n X scope N s3 H3 cl s3.heap.objs.size fp) ([] ++ J2U fp s7.heap) σ' H' s' →
          Inv (J0n X scope N s3 H3 cl s3.heap.objs.size fp) [] σ' H' s' ∧ tn (i + 1) s'.heap ∧ ∀ b ∈ fp,H' b = none:=fun {σ' H' s'} I'=>by
        refine ⟨I'.unpinned,T.keep _ _ _ st7 fun b hb o e=>(I'.pin (b,o) (List.mem_append_right _ (List.mem_append_right _ (J0B hb e)))).1,fun b hb=>?_⟩
        obtain ⟨o,e,d⟩:=T.obj _ _ st7 b hb
        exact (I'.pin (b,o) (List.mem_append_right _ (List.mem_append_right _ (J0B hb e)))).2.1
      cases ok with
      | false =>
        rw [if_neg Bool.false_ne_true] at q9 ⊢
        obtain ⟨m',hm,w9⟩:=q9
        obtain ⟨a1,a2,a3⟩:=again I9
        exact ⟨m',hm,i + 1,σ8,ys,H9,a1,a2,a3,w9⟩
      | true =>
        rw [if_pos rfl] at q9 ⊢
        refine thn (he _ _ _ _ _ _ s9 σ8 H9 _ I9 q9) fun yv s10 ⟨y,H10,I10,r10,q10⟩=>?_
        obtain ⟨hD,hz,m',hm,w10⟩:=q10
        refine thn (J0p (X:=J0n X scope N s3 H3 cl s3.heap.objs.size fp) _ s10 σ8 H10 (.ref s2.heap.objs.size) [y] (.ref s2.heap.objs.size) [yv] (fun v H'=>H' = upd H10 s2.heap.objs.size (.lst (ys ++ [y]))) I10 rfl (.cons r10 .nil)
          ⟨s2.heap.objs.size,ys,y,rfl,rfl,hD,hz,rfl⟩) fun _ s11 ⟨v11,H11,I11,_,e11⟩=>?_
        have e11' : H11 = upd H10 s2.heap.objs.size (.lst (ys ++ [y])):=e11
        subst e11'
        obtain ⟨a1,a2,a3⟩:=again I11
        exact ⟨m',hm,i + 1,σ8,ys ++ [y],_,a1,a2,a3,w10⟩
  exact codeAny_compStart_list (loop _ ⟨_,rfl⟩) (T.self X.A 0 _ _ _ hst₁ (loop _ ⟨_,rfl⟩))
end
end L2
set_option linter.all false
namespace L2
open PySem PySem.StrLaws Builtin Builtin.Str
end L2
set_option linter.all false
set_option maxRecDepth 100000
set_option maxHeartbeats 4000000
namespace L2
open PySem PySem.Spec PyProof.Rows
section
variable {X : Cx} {e : Expr} {es : List Expr} {te : TE} {tr : TF} {pos : Pos}
end
end L2
set_option linter.all false
set_option maxRecDepth 100000
set_option maxHeartbeats 4000000
namespace L2
open PySem PySem.Spec PyProof.Rows
section
variable {X : Cx} {x m : Str} {k : Nat} {ps : List Str} {sp : Sp} {C : Addr} {p pos apos : Pos} {e o : Expr} {es : List Expr} {t : TA} {to : TE}
theorem J8L {r : List V → Hp → VK → Prop} (G : MkG X.prog X.w X.K X.mg X.base C x k ps sp) (hr : Room (k + 1) X.A)
  (imp : ∀ vs H Q,r vs H Q → ∀ x dx,H x = none → H dx = none → dx ≠ x → sp (.ref x :: (vs ++ [])) (upd (upd H dx (.own x)) x (.ins C dx [])) (fun v H2=>v = .non ∧ Q (.ref x) H2) E0)
  (ha : PA X (e :: es) t) (hg : Gl X x:=by rfl) (hdb : (x == ("__debug__" : Str)) = false:=by decide)
  (he : starEach (e :: es) X.env = (false,eval e X.env) :: starEach es X.env:=by rfl) (hpl : (backTo pos (starEach es X.env)).any (·.1) = false:=by rfl) : PE X (.Call (.Name x p) (e :: es) [] pos) (tCB r t):=by
 obtain ⟨f,fd,a,M,hm,hb⟩:=G
 intro pins s σ H Q I h
 refine wpAny_Call_Name_kw (J6Q I hg hm ?_ hdb)
 refine PySem.W.callWith_K (h₀:=X.base) I.ok.mod.kin M.kp (thn (ha pos pins s σ H _ I h) fun us s1 ⟨vs,H1,I1,rv,q⟩=>⟨I1.kIn,?_⟩) he hpl
 exact J8W M a hr hb .nil Jar I1 rv (imp vs H1 Q q)
end
end L2
set_option linter.all false
set_option maxRecDepth 100000
set_option maxHeartbeats 4000000
namespace L2
open PySem PySem.Spec PyProof.Rows
noncomputable def All2 {α : Type} (P : α → V → Hp → Prop) (H : Hp) : List α → List V → Prop
 | [],[]=>True
 | a :: as,y :: ys=>P a y H ∧ All2 P H as ys
 | _,_=>False
section
variable {α : Type} {P : α → V → Hp → Prop} {H H' : Hp}
theorem All2.len : ∀ {as : List α} {ys : List V},All2 P H as ys → ys.length = as.length
 | [],[],_=>rfl
 | _ :: _,_ :: _,h=>by rw [List.length_cons,List.length_cons,All2.len h.2]
 | [],_ :: _,h=>h.elim
 | _ :: _,[],h=>h.elim
theorem All2.snoc : ∀ {as : List α} {ys : List V} {a : α} {y : V},All2 P H as ys → P a y H → All2 P H (as ++ [a]) (ys ++ [y])
 | [],[],_,_,_,p=>⟨p,trivial⟩
 | _ :: _,_ :: _,_,_,h,p=>⟨h.1,All2.snoc h.2 p⟩
 | [],_ :: _,_,_,h,_=>h.elim
 | _ :: _,[],_,_,h,_=>h.elim
theorem All2.imp {P' : α → V → Hp → Prop} : ∀ {as : List α} {ys : List V},All2 P H as ys → (∀ a y,P a y H → P' a y H') → All2 P' H' as ys
 | [],[],_,_=>trivial
 | _ :: _,_ :: _,h,f=>⟨f _ _ h.1,All2.imp h.2 f⟩
 | [],_ :: _,h,_=>h.elim
 | _ :: _,[],h,_=>h.elim
theorem All2.get : ∀ {as : List α} {ys : List V} {i : Nat} {a : α},All2 P H as ys → as[i]? = some a → ∃ y,ys[i]? = some y ∧ P a y H
 | [],[],_,_,_,e=>by simp at e
 | b :: _,y :: _,0,a,h,e=>⟨y,rfl,by rw [← (Option.some.inj e : b = a)]; exact h.1⟩
 | _ :: as,_ :: ys,i + 1,a,h,e=>All2.get (as:=as) (ys:=ys) (i:=i) h.2 (by simpa using e)
 | [],_ :: _,_,_,h,_=>h.elim
 | _ :: _,[],_,_,h,_=>h.elim
theorem All2.back : ∀ {as : List α} {ys : List V} {i : Nat} {y : V},All2 P H as ys → ys[i]? = some y → ∃ a,as[i]? = some a ∧ P a y H
 | [],[],_,_,_,e=>by simp at e
 | b :: _,z :: _,0,y,h,e=>⟨b,rfl,by rw [← (Option.some.inj e : z = y)]; exact h.1⟩
 | _ :: as,_ :: ys,i + 1,y,h,e=>All2.back (as:=as) (ys:=ys) (i:=i) h.2 (by simpa using e)
 | [],_ :: _,_,_,h,_=>h.elim
 | _ :: _,[],_,_,h,_=>h.elim
theorem All2.eqmap {f : α → V} : ∀ {as : List α} {ys : List V},All2 P H as ys → (∀ a y,P a y H → y = f a) → ys = as.map f
 | [],[],_,_=>rfl
 | _ :: _,_ :: _,h,g=>by rw [List.map_cons,← g _ _ h.1,← All2.eqmap h.2 g]
 | [],_ :: _,h,_=>h.elim
 | _ :: _,[],h,_=>h.elim
end
noncomputable def J1i (Ha Hb : Hp) : Prop:=∀ a ob,Ha a = some ob → (∀ zs,ob ≠ .lst zs) → Hb a = some ob
theorem Same.keeps {Ha Hb : Hp} (h : Same Ha Hb) : J1i Ha Hb:=fun a ob e _=>h a ob e
theorem J1i.trans {Ha Hb Hc : Hp} (h : J1i Ha Hb) (h' : J1i Hb Hc) : J1i Ha Hc:=fun a ob e n=>h' a ob (h a ob e n) n
theorem J1N {Ha : Hp} {D : Addr} {zs ys : List V} (h : Ha D = some (.lst zs)) : J1i Ha (upd Ha D (.lst ys)):=fun a ob e hn=>by
 by_cases c : a = D
 ·subst c; rw [h] at e; cases e; exact absurd rfl (hn zs)
 ·rw [J7 c]; exact e
theorem J5m {α : Type} {J : It} {H : Hp} {σ0 : St} {g : TG} {tc : TT} {te : TE} {Q : VK} (xs : List α) (p : α → Bool) (P : α → V → Hp → Prop) (sh : St → Prop) (hx : xs.length ≤ 1000000) (h0 : sh σ0)
  (hgo : ∀ i H',Same H H' → i < xs.length → J.go i H') (hstop : ∀ H',Same H H' → J.stop xs.length H')
  (hk : ∀ a y Ha Hb,J1i Ha Hb → P a y Ha → P a y Hb)
  (step : ∀ (i : Nat) a σ x H' H'',xs[i]? = some a → sh σ → Same H H' → J.yld i H' x H'' → ∀ (Rf : St → Hp → Prop) (Rt : St → V → Hp → Prop),
   (∀ σ2 H3,p a = false → sh σ2 → Same H' H3 → Rf σ2 H3) → (∀ σ2 y H4,p a = true → sh σ2 → Same H' H4 → P a y H4 → Rt σ2 y H4) →
   g x σ H'' fun σ2 H2=>tc σ2 H2 fun b H3=>if b = true then te σ2 H3 (fun y H4=>Rt σ2 y H4) else Rf σ2 H3)
  (hQ : ∀ D H' ys,H D = none → Same H H' → All2 P H' (xs.filter p) ys → H' D = some (.lst ys) → Q (.ref D) H') : J5z J H σ0 g tc te Q:=by
 intro D hD
 refine ⟨fun i m σ1 ys H'=>m = xs.length - i ∧ i ≤ xs.length ∧ sh σ1 ∧ All2 P H' ((xs.take i).filter p) ys ∧ H' D = some (.lst ys) ∧ Same H H',⟨xs.length,by simp,Nat.zero_le _,h0,trivial,Jc,JK hD _⟩,?_⟩
 rintro i m σ1 ys H' ⟨rfl,hi,hσ,hP,hDD,hs⟩
 by_cases hlt : i < xs.length
 ·refine .inr ⟨hgo i H' hs hlt,fun x H'' hy=>?_⟩
  have ha : xs[i]? = some xs[i]:=List.getElem?_eq_getElem hlt
  have ht : xs.take (i + 1) = xs.take i ++ [xs[i]]:=by rw [List.take_add_one,ha]; rfl
  refine step i xs[i] σ1 x H' H'' ha hσ hs hy _ _ (fun σ2 H3 hf sh2 s3=>?_) (fun σ2 y H4 hf sh2 s4 py=>?_)
  ·refine ⟨xs.length - (i + 1),by omega,rfl,hlt,sh2,?_,s3 _ _ hDD,hs.trans s3⟩
   rw [ht,List.filter_append,List.filter_cons,hf]
   show All2 P H3 (List.filter p (xs.take i) ++ []) ys
   rw [List.append_nil]
   exact hP.imp fun a y=>hk a y _ _ s3.keeps
  ·have hl:=hP.len
   refine ⟨s4 _ _ hDD,?_,xs.length - (i + 1),by omega,rfl,hlt,sh2,?_,Jc,(hs.trans s4).upd hD⟩
   ·have h1:=List.length_filter_le p (xs.take i)
    rw [List.length_take] at h1
    have : (1000001 : Nat) ≤ sizeLine:=by decide
    omega
   ·rw [ht,List.filter_append,List.filter_cons,hf]
    have kk : J1i H4 (upd H4 D (.lst (ys ++ [y]))):=J1N (s4 _ _ hDD)
    exact All2.snoc (hP.imp fun a y=>hk a y _ _ (s4.keeps.trans kk)) (hk _ _ _ _ kk py)
 ·have e : i = xs.length:=by omega
  subst e
  refine .inl ⟨hstop H' hs,hQ D H' ys hD hs ?_ hDD⟩
  rw [List.take_of_length_le (Nat.le_refl _)] at hP
  exact hP
theorem JI {α : Type} {J : It} {H : Hp} {σ0 : St} {g : TG} {tc : TT} {te : TE} {Q : VK} {vs : List V} (xs : List α) (p : α → Bool) (P : α → V → Hp → Prop) (sh : St → Prop) (hJ : J79 J H vs) (hv : vs.length = xs.length) (hx : xs.length ≤ 1000000) (h0 : sh σ0)
  (hk : ∀ a y Ha Hb,J1i Ha Hb → P a y Ha → P a y Hb)
  (step : ∀ (i : Nat) a v σ H',xs[i]? = some a → vs[i]? = some v → sh σ → Same H H' → ∀ (Rf : St → Hp → Prop) (Rt : St → V → Hp → Prop),
   (∀ σ2 H3,p a = false → sh σ2 → Same H' H3 → Rf σ2 H3) → (∀ σ2 y H4,p a = true → sh σ2 → Same H' H4 → P a y H4 → Rt σ2 y H4) →
   g v σ H' fun σ2 H2=>tc σ2 H2 fun b H3=>if b = true then te σ2 H3 (fun y H4=>Rt σ2 y H4) else Rf σ2 H3)
  (hQ : ∀ D H' ys,H D = none → Same H H' → All2 P H' (xs.filter p) ys → H' D = some (.lst ys) → Q (.ref D) H') : J5z J H σ0 g tc te Q:=by
 refine J5m xs p P sh hx h0 (fun i H' s hi=>hJ.go i H' s (by omega)) (fun H' s=>by rw [← hv]; exact hJ.stop H' s) hk (fun i a σ x H' H'' ha hσ s hy=>?_) hQ
 have hi : i < xs.length:=(List.getElem?_eq_some_iff.mp ha).1
 obtain ⟨e,hx⟩:=hJ.yld i H' x H'' s (by omega) hy
 subst e
 exact step i a x σ H'' ha hx hσ s
theorem J2t {α : Type} {K : PySem.W.Frag} {l1 l2 : Addr} {H : Hp} {σ0 : St} {g : TG} {tc : TT} {te : TE} {Q : VK} {us vs : List V} (xs : List α) (p : α → Bool) (P : α → V → Hp → Prop) (sh : St → Prop) (hu : SqL K H l1 us) (hv : SqL K H l2 vs) (lu : us.length = xs.length) (lv : vs.length = xs.length) (hx : xs.length ≤ 1000000) (h0 : sh σ0)
  (hk : ∀ a y Ha Hb,J1i Ha Hb → P a y Ha → P a y Hb)
  (step : ∀ (i : Nat) a u v q σ H',xs[i]? = some a → us[i]? = some u → vs[i]? = some v → sh σ → Same H H' → H' q = none → ∀ (Rf : St → Hp → Prop) (Rt : St → V → Hp → Prop),
   (∀ σ2 H3,p a = false → sh σ2 → Same H' H3 → Rf σ2 H3) → (∀ σ2 y H4,p a = true → sh σ2 → Same H' H4 → P a y H4 → Rt σ2 y H4) →
   g (.ref q) σ (upd H' q (.tup [u,v])) fun σ2 H2=>tc σ2 H2 fun b H3=>if b = true then te σ2 H3 (fun y H4=>Rt σ2 y H4) else Rf σ2 H3)
  (hQ : ∀ D H' ys,H D = none → Same H H' → All2 P H' (xs.filter p) ys → H' D = some (.lst ys) → Q (.ref D) H') : J5z (Izl K l1 l2) H σ0 g tc te Q:=by
 refine J5m xs p P sh hx h0 (fun i H' s hi=>⟨us,vs,us[i],vs[i],s.seq hu,s.seq hv,by simp [lu,hi],by simp [lv,hi]⟩) (fun H' s=>⟨us,vs,s.seq hu,s.seq hv,.inl (by omega)⟩) hk (fun i a σ x H' H'' ha hσ s hy=>?_) hQ
 obtain ⟨q,u,v,hq,e1,e2,rfl,rfl⟩:=hy
 exact step i a u v q σ H' ha (e1 us (s.seq hu)) (e2 vs (s.seq hv)) hσ s hq
theorem J1X : ∀ {ns : List Int} {its : List Value},Vals (ns.map V.int) its → ∃ xs : List (Int × Tok),its = xs.map (fun p=>Value.int p.1 p.2) ∧ xs.map (·.1) = ns
 | [],_,.nil=>⟨[],rfl,rfl⟩
 | n :: ns,_,.cons r t=>by
  obtain ⟨k,rfl⟩:=r
  obtain ⟨xs,e,h⟩:=J1X t
  exact ⟨(n,k) :: xs,by rw [e]; rfl,by rw [List.map_cons,h]⟩
section
variable {X : Cx} {K : PySem.W.Frag}
theorem J1B (hc : X.calm = true) (h : X.K = K) : J1m X (.builtin "sum") (fun xs H Q=>∃ (D : Addr) (ns : List Int),xs = [.ref D] ∧ SqL K H D (ns.map V.int) ∧ Q (.int ns.sum) H):=by
 subst h
 intro pins s σ H xs us Q I r h
 obtain ⟨D,ns,rfl,hq,q⟩:=h
 obtain ⟨u,rfl,ru⟩:=r.one
 cases ru
 obtain ⟨its,rv,pl,_⟩:=I.list hq
 obtain ⟨xs,rfl,rfl⟩:=J1X rv
 have e : (xs.map fun p=>Value.int p.1 p.2).toArray = intItems xs.toArray:=by simp [intItems]
 refine sum_intListG (xs:=xs.toArray) (I.ok.hd hc) (by rw [← e]; exact pl.isList) fun h' tk t' hk=>?_
 rw [preSum_eq,List.take_of_length_le (by simp)]
 exact ⟨.int (xs.map (·.1)).sum,H,I.kept (fun b o e=>hk b o e),⟨t',rfl⟩,q⟩
theorem J78 {es : List Expr} {k : Nat} {t : TGs} {n : Nat} {pos : Pos} (hK : X.K = K) (hc : X.calm = true) (h : PGs X es t)
  (hn : (assignEach es X.env).length = n:=by rfl) (hst : (assignEach es X.env).findIdx? (·.1) = none:=by rfl) : PG X (.Tuple es k pos) (gTup K n t):=hK ▸ J28 hc h hn hst
end
theorem J3M : bootBuiltins "sum" = some (.builtin "sum"):=by decide +kernel
theorem J5s : bootBuiltins "tuple" = some (.type "tuple"):=by decide +kernel
end L2
set_option linter.all false
set_option maxRecDepth 100000
set_option maxHeartbeats 4000000
namespace L2
open PySem PySem.Spec PyProof.Rows
noncomputable def Iel (K : PySem.W.Frag) (l : Addr) : It :=
  ⟨fun i H=>∃ xs x,SqL K H l xs ∧ xs[i]? = some x,
   fun i H v H'=>∃ p x,H p = none ∧ (∀ xs,SqL K H l xs → xs[i]? = some x) ∧ v = .ref p ∧ H' = upd H p (.tup [.int i,x]),
   fun i H=>∃ xs,SqL K H l xs ∧ xs.length ≤ i⟩
theorem J6s {P : Program} {w : World} {K : PySem.W.Frag} {es : List Expr} {k : Nat} {pos : Pos} {z it l : Addr} (zi : z ≠ it) :
  Turn P w K (.Tuple es k pos) (Iel K l) [z,it] z (fun i h=>(∃ old,IsEnum h z it (i : Int) old) ∧ h.IsListIter it l i) where
 mem:=by simp
 obj:=fun i h st b hb=>by
  obtain ⟨⟨old,hz⟩,o1,e1,c1,d1⟩:=st
  simp only [List.mem_cons,List.not_mem_nil,or_false] at hb
  rcases hb with rfl | rfl
  ·exact ⟨_,hz,fun v q=>by cases q⟩
  ·exact ⟨o1,e1,fun v q=>by rw [d1] at q; cases q⟩
 keep:=fun i h h' st kk=>by
  obtain ⟨⟨old,hz⟩,o1,e1,r1⟩:=st
  exact ⟨⟨old,kk z (by simp) _ hz⟩,⟨o1,kk it (by simp) _ e1,r1⟩⟩
 item:=by
  intro X hP hw hK hc i pins s σ H E I hf st hg
  subst hP hw hK
  obtain ⟨⟨old,hz⟩,h1⟩:=st
  obtain ⟨xs,x,hq1,hx⟩:=hg
  obtain ⟨ia,ra,pa,_⟩:=I.list hq1
  obtain ⟨u,hu,ru⟩:=ra.get hx
  refine wpAny_pyNext_enum_item hz h1 pa.isList (x:=u) (by simpa using hu) zi fun h' a1 a2 a3 a4 kp=>?_
  refine ⟨_,rfl,?_⟩
  refine wpAny_letOwnedTupleGo_enum (s:={ s with heap:=h',toks:=s.toks + 1 }) a1 fun h2' hz' hs'=>?_
  replace hs' : Heap.SameBut z h' h2':=hs'
  have zlt : z < s.heap.objs.size:=Heap.lt_size hz
  have far : ∀ q ∈ [z,it],q < s.heap.objs.size:=by
   intro q hq
   obtain ⟨o1,e1,_⟩:=h1
   simp only [List.mem_cons,List.not_mem_nil,or_false] at hq
   rcases hq with rfl | rfl
   ·exact zlt
   ·exact Heap.lt_size e1
  have fz:=hf z (by simp)
  have f1:=hf it (by simp)
  have keepAll : ∀ b o,b ≠ z → b ≠ it → s.heap.get? b = some o → h2'.get? b = some o:=fun b o b1 b2 e=>hs'.extBut _ _ b1 (kp b o b1 b2 e)
  have hnew : H s.heap.objs.size = none:=I.hok.fresh (Nat.le_refl _)
  have Tz : s.heap.objs.size ≠ z:=Nat.ne_of_gt zlt
  have ht2 : h2'.get? s.heap.objs.size = some { cls:=.type "tuple",data:=.seq #[.int i s.toks,u] }:=hs'.extBut _ _ Tz a3
  have I2 : Inv X pins σ (upd H s.heap.objs.size (.tup [.int i,x])) { s with heap:=h2',toks:=s.toks + 1 }:=by
   have there : ∀ q ∈ [z,it],∃ o',h2'.get? q = some o':=by
    intro q hq
    obtain ⟨o1,e1,_⟩:=a2
    simp only [List.mem_cons,List.not_mem_nil,or_false] at hq
    rcases hq with rfl | rfl
    ·exact ⟨_,hz'⟩
    ·exact ⟨_,hs'.extBut _ _ zi.symm e1⟩
   have nch : ∀ b,b ∉ [z,it] → b ≠ z ∧ b ≠ it:=fun b hb=>by
    simp only [List.mem_cons,List.not_mem_nil,or_false,not_or] at hb
    exact hb
   have trk : ∀ b u',H b = some u' → b ≠ z ∧ b ≠ it:=fun b u' e =>
    ⟨fun q=>(by rw [q,fz.1] at e; cases e),fun q=>(by rw [q,f1.1] at e; cases e)⟩
   have okH : HOk X.prog X.w (upd H s.heap.objs.size (.tup [.int i,x])) h2':=fun b u' e=>by
    by_cases hb : b = s.heap.objs.size
    ·subst hb
     rw [Jc] at e
     cases e
     exact ⟨(show 2 ≤ sizeLine by decide),[.int i s.toks,u],.cons ⟨_,rfl⟩ (.cons ru .nil),⟨_,ht2,rfl,_,rfl⟩⟩
    ·rw [J7 hb] at e
     have hx:=I.hok b u' e
     refine hx.stay (fun q o hq e2=>?_) (fun q e2=>?_) (fun q xs e2=>?_)
     ·rcases hq with rfl | hq
      ·obtain ⟨b1,b2⟩:=trk q _ e
       exact keepAll q o b1 b2 e2
      ·obtain ⟨b1,b2⟩:=trk q _ hq
       exact keepAll q o b1 b2 e2
     ·rw [J7 (Jb e2 hnew)]; exact e2
     ·rw [J7 (Jb e2 hnew)]; exact e2
   refine I.step (g':=s.gens) (d':=s.drawn) (ch:=[z,it]) (fun b hb=>?_) (fun b o _ _ hcb e n=>?_) (fun b o _ _ hcb e n=>?_) (fun b o hcb e n=>?_) (fun b o hcb e=>?_) (fun b xs e=>?_) (fun b o u' e=>?_) (fun b ps e=>?_) (fun m hm=>?_) okH I.bare
   ·simp only [List.mem_cons,List.not_mem_nil,or_false] at hb
    rcases hb with rfl | rfl
    ·exact ⟨fz.2.2.2.1,fz.2.1,fz.2.2.2.2.1,fz.2.2.2.2.2⟩
    ·exact ⟨f1.2.2.2.1,f1.2.1,f1.2.2.2.2.1,f1.2.2.2.2.2⟩
   ·obtain ⟨b1,b2⟩:=nch b hcb
    exact keepAll b o b1 b2 e
   ·obtain ⟨b1,b2⟩:=nch b hcb
    exact ⟨o.slots,keepAll b o b1 b2 e⟩
   ·rw [J7 (Nat.ne_of_lt (Heap.lt_size e))]; exact n
   ·obtain ⟨b1,b2⟩:=nch b hcb
    exact ⟨o,keepAll b o b1 b2 e⟩
   ·rw [J7 (Jb e hnew)]; exact e
   ·rw [J7 (Jb e hnew)]; exact e
   ·exact ⟨#[],by rw [J7 (Jb e hnew),e]; simp⟩
   ·obtain ⟨o,es',ep,ho,r⟩:=hm
    exact ⟨o,es',ep,keepAll _ o fz.2.1.symm f1.2.1.symm ho,r⟩
  refine ⟨.ref s.heap.objs.size,_,I2,rfl,⟨_,x,hnew,fun zs hz=>by rw [I.list_inj hz hq1]; exact hx,rfl,rfl⟩,⟨⟨_,by rw [Int.natCast_add]; exact hz'⟩,?_⟩,fun b hb=>?_⟩
  ·obtain ⟨o,e,r⟩:=a2; exact ⟨o,hs'.extBut _ _ zi.symm e,r⟩
  ·rw [J7 (Nat.ne_of_lt (far b hb))]; exact (hf b hb).1
 done:=by
  intro X hP hw hK hc i pins s σ H E I hf st hg
  subst hP hw hK
  obtain ⟨⟨old,hz⟩,h1⟩:=st
  obtain ⟨xs,hq1,hg⟩:=hg
  obtain ⟨ia,ra,pa,_⟩:=I.list hq1
  have la:=ra.length
  obtain ⟨f0,f1,f2,f3,f4,f5⟩:=hf it (by simp)
  refine wpAny_pyNext_enum_end (I.ok.hd hc) hz h1 pa.isList (by simp; omega) fun h' eb=>⟨rfl,I.turned (t':=s.toks) (fun b o hb e=>eb b o hb e) f0 f1 f3 f4 f5⟩
 self:=fun _ _ _ _ _ st h=>by
  obtain ⟨⟨old,hz⟩,_⟩:=st
  exact wpAny_pyIter_enum hz h
section
variable {X : Cx} {es : List Expr} {k : Nat} {tpos : Pos}
noncomputable def J8F (K : PySem.W.Frag) (ta : TA) : TI:=fun σ H R=>ta σ H fun vs H1=>∃ a,vs = [.ref a] ∧ (∃ xs,SqL K H1 a xs) ∧ R (Iel K a) H1
theorem J9a {a : Expr} {ta : TA} {p pos : Pos} (hg : Gl X "enumerate") (hm : X.mg "enumerate" = none) (ha : PA X [a] ta) (hv : bootBuiltins "enumerate" = some (.type "enumerate"):=by decide +kernel) (hs : starEach [a] X.env = [(false,eval a X.env)]:=by rfl) :
  PI X (.Tuple es k tpos) (.Call (.Name "enumerate" p) [a] [] pos) (J8F X.K ta):=by
 intro pins s σ H R I h
 refine Call_ (J2r I hg hm hv (PyProof.Rows.callWith_type1 (thn (ha pos pins s σ H _ I h) fun us s1 ⟨vs,H1,I1,r1,q1⟩=>?_) (by rw [hs]; rfl) (by rfl)))
 obtain ⟨l1,e,⟨xs,hq1⟩,q⟩:=q1
 subst e
 obtain ⟨u,rfl,ru⟩:=r1.one
 cases ru
 obtain ⟨ia,ra,pa,_⟩:=I1.list hq1
 refine call_enumerate_list pa.isList fun h' a1 a2 a3 kp=>?_
 have I2 : Inv X pins σ H1 { s1 with heap:=h' }:=I1.kept (t':=s1.toks) kp
 refine wpAny_pyIter_enum a1 ⟨s1.heap.objs.size + 1,[s1.heap.objs.size + 1,s1.heap.objs.size],_,_,H1,rfl,I2,J6s (Nat.ne_of_gt (Nat.lt_succ_self _)),⟨⟨_,a1⟩,a2⟩,fun b hb=>?_,q⟩
 have hb' : s1.heap.objs.size ≤ b:=by
  simp only [List.mem_cons,List.not_mem_nil,or_false] at hb
  rcases hb with rfl | rfl
  ·exact Nat.le_add_right _ _
  ·exact Nat.le_refl _
 exact I1.fpOk hb' (I1.hok.fresh hb')
theorem J7Q {K : PySem.W.Frag} {a : Expr} {ta : TA} {p pos : Pos} (h : X.K = K) (hg : Gl X "enumerate") (hm : X.mg "enumerate" = none) (ha : PA X [a] ta) (hv : bootBuiltins "enumerate" = some (.type "enumerate"):=by decide +kernel) (hs : starEach [a] X.env = [(false,eval a X.env)]:=by rfl) :
  PI X (.Tuple es k tpos) (.Call (.Name "enumerate" p) [a] [] pos) (J8F K ta):=h ▸ J9a hg hm ha hv hs
end
theorem J7M {K : PySem.W.Frag} {a : Addr} {xs : List V} {g : TG} {tb : TS} {D : Ends} {σ : St} {H : Hp} (Pv : Nat → St → Hp → Prop) (h0 : Pv 0 σ H) (hl : ∀ i σ H,i ≤ xs.length → Pv i σ H → SqL K H a xs)
  (hs : ∀ i x p σ H,xs[i]? = some x → H p = none → Pv i σ H → g (.ref p) σ (upd H p (.tup [.int i,x])) fun σ2 H2=>tb { D with nx:=Pv (i + 1),ct:=Pv (i + 1),bk:=D.nx } σ2 H2) (hd : ∀ σ H,Pv xs.length σ H → D.nx σ H) :
  ∃ W : Nat → Nat → St → Hp → Prop,(∃ m,W 0 m σ H) ∧ ∀ i m σ H,W i m σ H →
   ((Iel K a).stop i H ∧ D.nx σ H) ∨ ((Iel K a).go i H ∧ ∃ N : St → Hp → Prop,(∀ σ' H',N σ' H' → ∃ m',m' < m ∧ W (i + 1) m' σ' H') ∧ ∀ x H',(Iel K a).yld i H x H' → g x σ H' fun σ2 H2=>tb { D with nx:=N,ct:=N,bk:=D.nx } σ2 H2):=by
 refine ⟨fun i m σ H=>m = xs.length - i ∧ i ≤ xs.length ∧ Pv i σ H,⟨xs.length,by simp,Nat.zero_le _,h0⟩,?_⟩
 rintro i m σ H ⟨rfl,hi,p⟩
 have q:=hl i σ H hi p
 by_cases hlt : i < xs.length
 ·refine .inr ⟨⟨xs,xs[i],q,by simp [hlt]⟩,Pv (i + 1),fun σ' H' p'=>⟨xs.length - (i + 1),by omega,rfl,hlt,p'⟩,fun x H' y=>?_⟩
  obtain ⟨r,u,hr,e1,rfl,rfl⟩:=y
  exact hs i u r σ H (e1 xs q) hr p
 ·have e : i = xs.length:=by omega
  subst e
  exact .inl ⟨⟨xs,q,Nat.le_refl _⟩,hd σ H p⟩
end L2
set_option linter.all false
set_option maxRecDepth 100000
set_option maxHeartbeats 4000000
namespace L2
open PySem PySem.Spec PyProof.Rows
theorem J49 : ∀ {xs : List V},xs.all J0E = true → eqVs xs xs = true
 | [],_=>rfl
 | x :: xs,h=>by
  rw [List.all_cons,Bool.and_eq_true] at h
  rw [eqVs,J49 h.2,Bool.and_true]
  cases x <;> first | rfl | exact beq_self_eq_true _ | exact absurd h.1 Bool.false_ne_true
theorem J8Y (xs ys : List V) : ((List.range (min xs.length ys.length)).all (fun j=>eqV (xs.getD j .non) (ys.getD j .non)) && xs.length == ys.length) = eqVs xs ys:=by
 by_cases h : xs.length = ys.length
 ·rw [beq_iff_eq.mpr h,Bool.and_true,h,Nat.min_self,← h,J2u h]
 ·rw [beq_eq_false_iff_ne.mpr h,Bool.and_false,J3K h]
section
variable {X : Cx} {K : PySem.W.Frag} {pins : List (Addr × Obj)} {s : Shared} {σ : St} {H : Hp} {A : Around}
theorem J9l {p r : Addr} {xs ys : List V} (I : Inv X pins σ H s) (hp : SqT X.K H p xs) (hr : SqT X.K H r ys) (fx : xs.all J0E = true) (fy : ys.all J0E = true) (hu : A.units < cLine) : SeqAt.RcAt A s (.ref p) (.ref r) (eqVs xs ys):=by
 obtain ⟨ia,ra,pa,za⟩:=I.tuple hp
 obtain ⟨ib,rb,pb,zb⟩:=I.tuple hr
 have h:=SeqAt.RcAt.tuples (A:=A) (e:=fun j=>eqV (xs.getD j .non) (ys.getD j .non)) (show s.heap.IsTuple p ia.toArray from pa) (show s.heap.IsTuple r ib.toArray from pb) hu (J5L ra rb fx fy)
 rw [List.size_toArray,List.size_toArray,← ra.length,← rb.length,J8Y] at h
 exact h
theorem J8S {p r : Addr} {xs ys : List V} (I : Inv X pins σ H s) (hp : SqT X.K H p xs) (hr : SqT X.K H r ys) (fx : xs.all J0E = true) (fy : ys.all J0E = true) (hu : A.units < cLine) : SeqAt.EqAt A s (.ref p) (.ref r) (eqVs xs ys):=by
 by_cases h : p = r
 ·subst h
  rw [I.tuple_inj hr hp,J49 fx]
  exact SeqAt.EqAt.same _
 ·exact SeqAt.EqAt.of_refs h (J9l I hp hr fx fy hu)
noncomputable def rEqE (K : PySem.W.Frag) (neg : Bool) : R2:=fun x y H Q=>∃ p r xs,x = .ref p ∧ y = .ref r ∧ SqL K H p xs ∧ SqL K H r [] ∧ Q (.bl (if neg then !xs.isEmpty else xs.isEmpty)) H
theorem J90 (h : X.K = K) (hu : X.A.units < cLine) : OpR X (compareOp .NotEq) (rEqE K true):=by
 subst h
 intro pins s σ H x y v u Q I rx ry h
 obtain ⟨p,r,xs,rfl,rfl,hp,hr,q⟩:=h
 cases xs with
 | nil=>exact JbV rfl hu pins s σ H _ _ v u Q I rx ry ⟨p,r,[],[],rfl,rfl,hp,hr,rfl,rfl,q⟩
 | cons a t =>
  cases rx; cases ry
  obtain ⟨ia,ra,pa,za⟩:=I.list hp
  obtain ⟨ib,rb,pb,zb⟩:=I.list hr
  have la:=ra.length
  have lb:=rb.length
  rw [List.length_cons] at la
  rw [List.length_nil] at lb
  exact SeqAt.RcNeAt.lists_lengths pa.isList pb.isList (by simp; omega) hu _ _ _ _ ⟨.bl true,H,I,rfl,q⟩
theorem J6z : J1m X (.builtin "isinstance") (fun xs H Q=>∃ p ys,xs = [.ref p,.ty "tuple"] ∧ H p = some (.tup ys) ∧ Q (.bl true) H):=by
 intro pins s σ H xs us Q I r h
 obtain ⟨p,ys,rfl,hp,q⟩:=h
 obtain ⟨u,v,rfl,r1,r2⟩:=r.two
 cases r1; cases r2
 obtain ⟨_,its,_,o,h1,hc,_⟩:=I.hok p _ hp
 exact PySem.W.kia_one PySem.W.kitx_tuple I.kIn ⟨o,h1,hc⟩ (by rfl) (fun z=>nomatch z) fun tk=>⟨.bl true,H,I.tok _,rfl,q⟩
end
end L2
set_option linter.all false
set_option maxRecDepth 100000
set_option maxHeartbeats 4000000
namespace L2
open PySem PySem.Spec PyProof.Rows
@[irreducible] def tCut (t : TS) : TS:=fun D σ H=>∃ R : St → Hp → Prop,t { D with nx:=R } σ H ∧ ∀ σ' H',R σ' H' → D.nx σ' H'
theorem tCut.mk {t : TS} {D : Ends} {σ : St} {H : Hp} (R : St → Hp → Prop) (h : t { D with nx:=R } σ H) (h' : ∀ σ' H',R σ' H' → D.nx σ' H') : tCut t D σ H:=by unfold tCut; exact ⟨R,h,h'⟩
section
variable {X : Cx} {K : PySem.W.Frag}
theorem J1k {st : Stmt} {t : TS} (h : PS X st t) : PS X st (tCut t):=by
 intro pins s σ H D I q
 unfold tCut at q
 obtain ⟨R,h1,h2⟩:=q
 refine thn (h pins s σ H _ I h1) fun f s' z=>?_
 cases f with
 | next=>obtain ⟨σ',H',I',r⟩:=z; exact ⟨σ',H',I',h2 σ' H' r⟩
 | brk=>exact z
 | cont=>exact z
 | ret u=>exact z
end
end L2
namespace L2
open PySem PySem.Spec PyProof.Rows
section
variable {α β : Type} {H : Hp}
theorem All2.app {P : α → V → Hp → Prop} : ∀ {as bs : List α} {ys zs : List V},All2 P H as ys → All2 P H bs zs → All2 P H (as ++ bs) (ys ++ zs)
 | [],_,[],_,_,h=>h
 | _ :: _,_,_ :: _,_,h,g=>⟨h.1,All2.app h.2 g⟩
 | [],_,_ :: _,_,h,_=>h.elim
 | _ :: _,_,[],_,h,_=>h.elim
end
end L2
set_option linter.all false
set_option maxRecDepth 100000
set_option maxHeartbeats 4000000
namespace L2
open PySem PySem.Spec PyProof.Rows
section
variable {X : Cx} {pins : List (Addr × Obj)} {σ : St} {H : Hp} {s : Shared} {E : XK} {Ex : Value → Shared → Prop}
end
end L2
set_option linter.all false
set_option maxRecDepth 100000
set_option maxHeartbeats 4000000
namespace L2
open PySem PySem.Spec PyProof.Rows
section
variable {P : Program} {w : World} {K : PySem.W.Frag} {mg : Str → Option Value} {base : Heap}
end
section
variable {X : Cx} {x m : Str} {k : Nat} {ps : List Str} {sp : Sp} {C : Addr} {p pos apos : Pos} {e o : Expr} {es : List Expr} {t : TA} {to : TE} {E : XK}
end
end L2
set_option linter.all false
set_option maxRecDepth 100000
set_option maxHeartbeats 4000000
namespace L2
open PySem PySem.Spec PyProof.Rows
section
variable {prog : Program} {w : World} {A : Around} {E : Value → Shared → Prop} {K : PySem.W.Frag} {x C : Addr} {h : Heap} {g : Array GenState} {d : Drawn} {t : Nat} {os : OsState} {o : Obj}
end
end L2
set_option linter.all false
set_option maxRecDepth 100000
set_option maxHeartbeats 4000000
namespace L2
open PySem PySem.Spec PyProof.Rows
section
variable {X : Cx} {pins : List (Addr × Obj)} {σ : St} {H : Hp} {s : Shared}
end
section
variable {X : Cx} {x m : Str} {k : Nat} {ps : List Str} {sp : Sp} {C : Addr} {p pos apos : Pos} {e o : Expr} {es : List Expr} {t : TA} {to : TE}
end
section
variable {X : Cx}
end
end L2
set_option linter.all false
set_option maxRecDepth 100000
set_option maxHeartbeats 4000000
namespace L2
open PySem PySem.Spec PyProof.Rows
section
variable {X : Cx} {K : PySem.W.Frag}
end
end L2
set_option linter.all false
set_option maxRecDepth 100000
set_option maxHeartbeats 4000000
namespace L2
open PySem PySem.Spec PyProof.Rows
section
variable {X : Cx} {K : PySem.W.Frag} {pins : List (Addr × Obj)} {σ : St} {H : Hp} {s : Shared} {A : Around}
inductive J6X (K : PySem.W.Frag) (H : Hp) : V → V → Prop
 | refs (p : Addr) : J6X K H (.ref p) (.ref p)
 | tups {p r : Addr} {zs ws : List V} (h1 : SqT K H p zs) (h2 : SqT K H r ws) (f1 : zs.all J0E = true) (f2 : ws.all J0E = true) (e : eqVs zs ws = true) : J6X K H (.ref p) (.ref r)
noncomputable def J2M (K : PySem.W.Frag) (H : Hp) (xs ys : List V) : Prop:=xs.length = ys.length ∧ ∀ (j : Nat) (x y : V),xs[j]? = some x → ys[j]? = some y → J6X K H x y
theorem J6t {x y : V} {u v : Value} (I : Inv X pins σ H s) (h : J6X X.K H x y) (r1 : RelV x u) (r2 : RelV y v) (hu : A.units < cLine) : SeqAt.EqAt A s u v true:=by
 cases h with
 | refs p=>cases r1; cases r2; exact SeqAt.EqAt.same _
 | @tups p r zs ws h1 h2 f1 f2 e =>
  cases r1; cases r2
  have q:=J8S (A:=A) I h1 h2 f1 f2 hu
  rw [e] at q
  exact q
theorem J84 {xs ys : List V} {ia ib : List Value} (I : Inv X pins σ H s) (h : J2M X.K H xs ys) (ra : Vals xs ia) (rb : Vals ys ib) (hu : A.units < cLine) :
  ∀ j (h1 : j < ia.toArray.size) (h2 : j < ib.toArray.size),SeqAt.EqAt A s ia.toArray[j] ib.toArray[j] true:=by
 intro j h1 h2
 have la:=ra.length
 have lb:=rb.length
 have g1 : j < ia.length:=by simpa using h1
 have g2 : j < ib.length:=by simpa using h2
 have k1:=ra.rel j (by omega) g1
 have k2:=rb.rel j (by omega) g2
 have q:=J6t (A:=A) I (h.2 j _ _ (List.getElem?_eq_getElem (by omega)) (List.getElem?_eq_getElem (by omega))) k1 k2 hu
 simpa using q
noncomputable def rAl (K : PySem.W.Frag) (neg : Bool) : R2:=fun x y H Q=>∃ p r xs ys,x = .ref p ∧ y = .ref r ∧ SqL K H p xs ∧ SqL K H r ys ∧ J2M K H xs ys ∧ Q (.bl (!neg)) H
theorem J8U (n : Nat) : (List.range n).all (fun _=>true) = true:=List.all_eq_true.mpr fun _ _=>rfl
theorem Jaj (h : X.K = K) (hu : X.A.units + 1 < cLine) : OpR X (compareOp .Eq) (rAl K false):=by
 subst h
 intro pins s σ H x y v u Q I rx ry h
 obtain ⟨p,r,xs,ys,rfl,rfl,hp,hr,hal,q⟩:=h
 cases rx; cases ry
 obtain ⟨ia,ra,pa,za⟩:=I.list hp
 obtain ⟨ib,rb,pb,zb⟩:=I.list hr
 have la:=ra.length
 have lb:=rb.length
 have:=hal.1
 refine SeqAt.eq_listAt (e:=fun _=>true) pa.isList pb.isList (by simp; omega) (Nat.lt_of_succ_lt hu) (J84 I hal ra rb (by first | exact hu | exact Nat.lt_of_succ_lt hu)) ⟨.bl _,H,I,rfl,?_⟩
 rw [J8U]
 exact q
theorem J2M.same (K : PySem.W.Frag) (H : Hp) (xs : List V) (h : ∀ x ∈ xs,∃ p,x = .ref p) : J2M K H xs xs:=⟨rfl,fun j x y h1 h2=>by
 rw [h1] at h2
 cases h2
 obtain ⟨p,rfl⟩:=h x (List.mem_of_getElem? h1)
 exact .refs p⟩
end
end L2
set_option linter.all false
set_option maxRecDepth 100000
set_option maxHeartbeats 4000000
namespace L2
open PySem PySem.Spec PyProof.Rows
section
variable {X : Cx} {K : PySem.W.Frag} {pins : List (Addr × Obj)} {σ : St} {H : Hp} {s : Shared} {A : Around}
noncomputable def Jcg (K : PySem.W.Frag) : R2:=fun x y H Q=>∃ p xs i v,x = .ref p ∧ y = .int i ∧ SqL K H p xs ∧ 0 ≤ i ∧ atI xs i = some v ∧ Q v H
theorem J1d (h : X.K = K) : PGet X (Jcg K):=by
 subst h
 intro pins s σ H x y v u Q I rx ry h
 obtain ⟨p,xs,i,z,rfl,rfl,hq,h0,he,q⟩:=h
 cases rx
 obtain ⟨t,rfl⟩:=ry
 obtain ⟨its,r,pl,hz⟩:=I.list hq
 obtain ⟨j,h1,h2,h3,h4,h5⟩:=J50 he
 obtain ⟨w,ew,rw'⟩:=r.get h2
 have hl:=r.length
 have hn:=J2P
 have hj : i.toNat = j:=by
  rw [seqIndex_of h0 h5] at h1
  exact Option.some.inj h1
 exact wpAny_getItem_list pl.isList h0 (by omega) (by rw [hj]; simpa using ew) ⟨z,H,I,rw',q⟩
theorem JbP : OpR X (compareOp .Is) (fun x y H Q=>∃ a b,x = .bl a ∧ y = .bl b ∧ Q (.bl (a == b)) H):=by
 intro pins s σ H x y v u Q I rx ry h
 obtain ⟨a,b,rfl,rfl,q⟩:=h
 cases rx; cases ry
 exact is_bool (Jz I q rfl)
theorem J73 : OpR X (compareOp .IsNot) (fun x y H Q=>∃ a b,x = .bl a ∧ y = .bl b ∧ Q (.bl (a != b)) H):=by
 intro pins s σ H x y v u Q I rx ry h
 obtain ⟨a,b,rfl,rfl,q⟩:=h
 cases rx; cases ry
 exact isnot_bool (Jz I q rfl)
theorem J95 (h : X.K = K) : OpR X (compareOp .In) (rIn K false):=h ▸ J7q
theorem J4q (h : X.K = K) : OpR X (compareOp .NotIn) (rIn K true):=h ▸ J4V
theorem J6w (xs : List (Int × Tok)) {A : Around} : TruthOf X.prog X.w A (fun i v=>(xs.map fun p=>Value.int p.1 p.2).toArray[i]? = some v) (fun i=>((xs.map (·.1)).map fun n=>n != 0).getD i false):=fun i v s Q E hP hQ=>by
 have : ∃ p,xs[i]? = some p ∧ v = .int p.1 p.2:=by
  have hP' : (xs.map fun p=>Value.int p.1 p.2).toArray[i]? = some v:=hP
  rw [List.getElem?_toArray,List.getElem?_map] at hP'
  cases hb : xs[i]? with
  | none=>rw [hb] at hP'; cases hP'
  | some b=>rw [hb] at hP'; exact ⟨b,rfl,(Option.some.inj hP').symm⟩
 obtain ⟨p,hp,rfl⟩:=this
 refine truthy_int ?_
 simpa [List.getD_eq_getElem?_getD,List.getElem?_map,hp] using hQ
theorem J3U (hc : X.calm = true) (h : X.K = K) : J1m X (.builtin "any") (fun xs H Q=>∃ (D : Addr) (ns : List Int),xs = [.ref D] ∧ SqL K H D (ns.map V.int) ∧ Q (.bl (ns.any fun n=>n != 0)) H):=by
 subst h
 intro pins s σ H xs us Q I r h
 obtain ⟨D,ns,rfl,hq,q⟩:=h
 obtain ⟨u,rfl,ru⟩:=r.one
 cases ru
 obtain ⟨its,rv,pl,_⟩:=I.list hq
 obtain ⟨xs,rfl,rfl⟩:=J1X rv
 have hD : D < s.heap.objs.size:=by obtain ⟨o,n,e,_⟩:=pl; exact Heap.lt_size e
 refine call_any_walk (wpAny_pyIter_list pl.isList ⟨s.heap.objs.size,_,_,_,_,_,fun i=>((xs.map (·.1)).map fun n=>n != 0).getD i false,rfl,Walks.list (A:=X.A.in1) (I.ok.hd hc) _ D (Nat.ne_of_lt hD) (xs.map fun p=>Value.int p.1 p.2).toArray,
  ⟨⟨_,Heap.get?_push_size _ rfl,rfl,rfl⟩,pl.isList.push _⟩,J6w xs,fun h' tk hk=>?_⟩)
 have hz : (xs.map fun p=>Value.int p.1 p.2).toArray.size = ((xs.map (·.1)).map fun n=>n != 0).length:=by simp
 rw [hz,J7n]
 have e : ((xs.map (·.1)).map fun n=>n != 0).any id = (xs.map (·.1)).any fun n=>n != 0:=by rw [List.any_map]; rfl
 rw [e]
 exact ⟨.bl _,H,I.kept fun b o e=>hk b o (by simpa using Nat.ne_of_lt (Heap.lt_size e)) (Heap.get?_push_of_some _ e),rfl,q⟩
end
end L2
set_option linter.all false
set_option maxRecDepth 100000
set_option maxHeartbeats 4000000
namespace L2
open PySem PySem.Spec PyProof.Rows
section
variable {X : Cx} {K : PySem.W.Frag}
noncomputable def J0G (ns : List Int) : Nat:=(ns.foldl step_dedup []).length
theorem J7X (ns : List Int) : firstMet (fun i=>ns.getD i 0) ns.length = ns.foldl step_dedup []:=by
 unfold firstMet
 have e : (List.range ns.length).map (fun i=>ns.getD i 0) = ns:=by
  refine List.ext_getElem (by simp) fun i h1 h2=>?_
  simp [List.getD_eq_getElem?_getD,h2]
 rw [e]
theorem J5I : ∀ {ns : List Int} {its : List Value},Vals (ns.map V.int) its → IntsAre its ns
 | [],_,.nil=>by constructor
 | n :: ns,_,.cons r t=>by
  obtain ⟨k,rfl⟩:=r
  exact .cons n k (J5I t)
theorem J7z (hc : X.calm = true) (h : X.K = K) : J1m X (.type "set") (fun xs H Q=>∃ (D : Addr) (ns : List Int),xs = [.ref D] ∧ SqL K H D (ns.map V.int) ∧ ns.length ≤ 1000 ∧ ∀ p S,H p = none → Q (.ref p) (upd H p (.set S (J0G ns)))):=by
 subst h
 intro pins s σ H xs us Q I r h
 obtain ⟨D,ns,rfl,hq,hl,q⟩:=h
 obtain ⟨u,rfl,ru⟩:=r.one
 cases ru
 obtain ⟨its,rv,pl,_⟩:=I.list hq
 have hlen:=rv.length
 rw [List.length_map] at hlen
 have hb : its.toArray.size + 1 < scanBound:=by
  rw [List.size_toArray]
  show its.length + 1 < 4096
  omega
 refine call_set_list (items:=its.toArray) (ns:=ns) (I.ok.hd hc) pl.isList (by simpa using J5I rv) hb fun h' tk hS hk=>?_
 have hz : its.toArray.size = ns.length:=by rw [List.size_toArray,hlen]
 rw [hz,J7X] at hS
 exact ⟨.ref s.heap.objs.size,_,I.laid (o:=.set (fun k'=>(ns.foldl step_dedup []).any fun x=>x == k') (J0G ns)) (t':=tk) (fun b o e=>hk b o (Heap.lt_size e) e) (Nat.le_refl _) hS,rfl,q _ _ I.fresh⟩
theorem J5y : J1m X (.builtin "len") (fun xs H Q=>∃ (p : Addr) (S : Int → Bool) (n : Nat),xs = [.ref p] ∧ H p = some (.set S n) ∧ Q (.int n) H):=by
 intro pins s σ H xs us Q I r h
 obtain ⟨p,S,n,rfl,hp,q⟩:=h
 obtain ⟨u,rfl,ru⟩:=r.one
 cases ru
 obtain ⟨o,es,ep,t,ho,hex,hd,hel,hmem,hb,hf,rfl⟩:=I.hok p _ hp
 refine call_len_set ho hex hd hf ?_ ⟨.int es.size,H,I.tok _,⟨_,rfl⟩,q⟩
 have : es.size < 4096:=hb
 omega
theorem J7S : bootBuiltins "set" = some (.type "set"):=by decide +kernel
noncomputable def J9Q : V → List V → Hp → VK → Prop:=fun x vs H Q=>∃ l xs i y,x = .ref l ∧ vs = [.int i,y] ∧ H l = some (.lst xs) ∧ 0 ≤ i ∧ i ≤ xs.length ∧ xs.length < 1000 ∧ Q .non (upd H l (.lst (xs.take i.toNat ++ [y] ++ xs.drop i.toNat)))
theorem J7x : MtM X "list.insert" J9Q:=by
 intro pins s σ H x vs v us Q I rx rv h
 obtain ⟨l,xs,i,y,rfl,rfl,hH,h0,h1,hz,q⟩:=h
 cases rx
 obtain ⟨u,w,rfl,ru,rw'⟩:=rv.two
 obtain ⟨tk,rfl⟩:=ru
 obtain ⟨z,its,n,r,hl,e⟩:=I.lstM hH
 have hfit : ¬ (!Builtin.List.listFitsIndex i) = true:=by
  rw [fitsIndex_both (by omega) (by omega)]
  exact Bool.false_ne_true
 refine call_meets F.slot_list_insert ⟨_,e,rfl⟩ F.entry_list_insert (F.args_list_insert_3 _ _ _) (AutoListH.list_insert_list_int_val_1 l its.toArray n i tk w hfit (by rw [List.size_toArray,← hl]; exact z)) ⟨e,?_⟩
 have hi : ¬ i < 0:=by omega
 refine ⟨.non,_,I.lset (its':=its.take i.toNat ++ [w] ++ its.drop i.toNat) hH e ?_ (((r.take i.toNat).append (.cons rw' .nil)).append (r.drop i.toNat)) ?_,rfl,q⟩
 ·have hm : min i.toNat its.length = i.toNat:=Nat.min_eq_left (by omega)
  simp only [if_neg hi,List.size_toArray,hm]
  apply Array.ext'
  simp
  exact List.take_of_length_le (by rw [List.length_drop]; exact Nat.le_refl _)
 ·simp only [List.length_append,List.length_take,List.length_drop,List.length_singleton]
  exact Nat.le_trans (show _ ≤ 2000 by omega) (by decide)
end
end L2
set_option linter.all false
set_option maxRecDepth 100000
namespace L2
open PySem PySem.Spec PyProof.Rows
end L2
namespace L2
open PySem PySem.Spec PyProof.Rows
section
variable (P : Program) (w : World)
end
section
variable {P : Program} {w : World} {H H' : Hp} {h h' : Heap} {a : Addr} {o : HO}
end
section
variable {P : Program} {w : World} {H : Hp} {h h' : Heap} {x e : Addr} {o' : HO}
end
section
variable {fs fs' ex ex' : List Addr} {H H1 H2 : Hp} {h h1 h2 h' : Heap} {a x e : Addr} {o : HO}
end
end L2
namespace L2
open PySem PySem.Spec PyProof.Rows
section
variable {X : Cx} {pins : List (Addr × Obj)} {σ : List (Option V)} {H H' : Hp} {s : Shared} {h' : Heap}
end
end L2
namespace L2
open PySem PySem.Spec PyProof.Rows
section
variable {X : Cx}
variable {a b : Expr} {ta tb : TE} {pos : Pos}
variable {tA tB' : TT} {rest : List Expr}
end
end L2
namespace L2
open PySem PySem.Spec PyProof.Rows
section
variable {X : Cx} {pins : List (Addr × Obj)} {σ : St} {H : Hp} {s : Shared} {a : Addr} {xs ys : List V}
end
section
variable {X : Cx} {pins : List (Addr × Obj)} {σ : St} {H : Hp} {s : Shared} {E : Value → Shared → Prop}
end
section
variable {X : Cx} {st : Stmt} {rest : List Stmt} {t u : TS} {e : Expr} {te : TE} {pos : Pos}
end
section
variable {X : Cx} {pos : Pos}
end
section
variable {X : Cx} {pos : Pos}
end
end L2
namespace L2
open PySem PySem.Spec PyProof.Rows
section
variable {X : Cx} {tg : Expr}
end
end L2
namespace L2
open PySem PySem.Spec PyProof.Rows
section
variable {X : Cx} {a b c : Expr} {ta tb tc : TE} {pos : Pos}
end
section
variable {X : Cx} {a b c : Expr} {ta tb tc : TE} {pos : Pos}
end
end L2
namespace L2
open PySem PySem.Spec PyProof.Rows
section
variable {prog : Program} {w : World} {A : Around} {E : Value → Shared → Prop} {s : Shared} {K : PySem.W.Frag} {x dx C f : Addr} {mA : Str → Option Value} {name : Str} {v : Value}
end
section
variable {P : Program} {w : World} {H H' : Hp} {h h' : Heap} {a C dx : Addr} {fs fs' : List (Str × V)}
end
section
variable {X : Cx} {pins : List (Addr × Obj)} {σ : St} {H : Hp} {s : Shared} {a C dx : Addr} {fs : List (Str × V)} {f : Str} {v : V} {A : Around} {E : Value → Shared → Prop}
end
section
variable {X : Cx} {o e value : Expr} {f : Str} {pos pos' tpos : Pos} {ta tv : TE}
end
section
variable {X : Cx} {pins : List (Addr × Obj)} {σ : St} {H : Hp} {s : Shared} {A : Around} {E : Value → Shared → Prop} {Q : Value → Shared → Prop} {c : Value} {b : Bool}
end
end L2
namespace L2
open PySem PySem.Spec PyProof.Rows
section
variable {X : Cx} {e : Expr} {es : List Expr} {te : TE} {t : TA} {pos : Pos}
end
section
variable {X : Cx} {pins : List (Addr × Obj)} {σ : St} {H : Hp} {s s' : Shared}
end
section
variable {X : Cx} {CX : CXT} {k : Nat} {f C : Addr} {fd : FuncData} {ps : List Str} {sp : Sp} {dvs : List V} {ds : List Value} {E : XK} {x m : Str} {p pos apos : Pos} {e o : Expr} {es : List Expr} {ta : TE} {t : TA}
end
section
variable {X : Cx} {CX : CXT} {k : Nat} {f C : Addr} {fd : FuncData} {ps ks : List Str} {sp : Sp} {E : XK} {x m : Str} {p pos apos kpos : Pos} {e o : Expr} {es : List Expr} {kws : List Keyword} {te ta : TE} {t tk : TA} {nm : Option Str}
variable {g : List Value → List Value → List Value} {gV : List V → List V → List V}
end
end L2
namespace L2
open PySem PySem.Spec PyProof.Rows
section
variable {X : Cx} {x : Str} {p pos : Pos} {e : Expr} {es : List Expr} {t : TA} {id T : String} {r : List V → Hp → VK → Prop}
end
end L2
namespace L2
open PySem PySem.Spec PyProof.Rows
section
variable {κ : Type} [DecidableEq κ]
noncomputable def valV (kvs : List (κ × V)) (k : κ) : Option V:=(kvs.find? fun kv=>decide (kv.1 = k)).map (·.2)
noncomputable def putK (kvs : List (κ × V)) (k : κ) (v : V) : List (κ × V) :=
 if (kvs.any fun kv=>decide (kv.1 = k)) = true then kvs.map (fun kv=>if kv.1 = k then (kv.1,v) else kv) else kvs ++ [(k,v)]
noncomputable def J0O (kvs : List (κ × V)) (k : κ) : List (κ × V):=kvs.filter fun kv=>decide (kv.1 ≠ k)
theorem J0i {p : κ × V} {r : List (κ × V)} {k : κ} (e : p.1 = k) : valV (p :: r) k = some p.2:=by simp [valV,List.find?_cons,e]
theorem J06 {p : κ × V} {r : List (κ × V)} {k : κ} (e : ¬ p.1 = k) : valV (p :: r) k = valV r k:=by simp [valV,List.find?_cons,e]
theorem J1M (k : κ) : ∀ kvs : List (κ × V),(kvs.any fun kv=>decide (kv.1 = k)) = (valV kvs k).isSome
 | []=>rfl
 | p :: r=>by
  rw [List.any_cons]
  by_cases e : p.1 = k
  ·simp only [J0i e,decide_eq_true e,Bool.true_or,Option.isSome_some]
  ·rw [J06 e,decide_eq_false e,Bool.false_or]; exact J1M k r
theorem J5p (k j : κ) (y : V) : ∀ kvs : List (κ × V),valV (kvs.map fun kv=>if kv.1 = k then (kv.1,y) else kv) j = (valV kvs j).map fun x=>if j = k then y else x
 | []=>rfl
 | p :: r=>by
  have ih:=J5p k j y r
  rw [List.map_cons]
  by_cases h : p.1 = k
  ·rw [if_pos h]
   by_cases e : p.1 = j
   ·rw [J0i (p:=(p.1,y)) e,J0i e,Option.map_some,if_pos (e.symm.trans h)]
   ·rw [J06 (p:=(p.1,y)) e,J06 e,ih]
  ·rw [if_neg h]
   by_cases e : p.1 = j
   ·rw [J0i (p:=p) e,J0i e,Option.map_some,if_neg (fun z=>h (e.trans z))]
   ·rw [J06 (p:=p) e,J06 e,ih]
theorem J4e (k j : κ) (y : V) : ∀ kvs : List (κ × V),valV kvs k = none → valV (kvs ++ [(k,y)]) j = if j = k then some y else valV kvs j
 | [],_=>by
  by_cases e : k = j
  ·rw [if_pos e.symm]; exact J0i (p:=(k,y)) e
  ·rw [if_neg (fun z=>e z.symm)]; exact J06 (p:=(k,y)) e
 | p :: r,hn=>by
  rw [List.cons_append]
  have hk : ¬ p.1 = k:=fun z=>by rw [J0i z] at hn; cases hn
  rw [J06 hk] at hn
  have ih:=J4e k j y r hn
  by_cases e : p.1 = j
  ·rw [J0i e,J0i e,if_neg (fun z=>hk (e.trans z))]
  ·rw [J06 e,J06 e,ih]
theorem J5t (kvs : List (κ × V)) (k j : κ) (y : V) : valV (putK kvs k y) j = if j = k then some y else valV kvs j:=by
 unfold putK
 by_cases a : (kvs.any fun kv=>decide (kv.1 = k)) = true
 ·rw [if_pos a,J5p]
  rw [J1M] at a
  by_cases e : j = k
  ·obtain ⟨x,hx⟩:=Option.isSome_iff_exists.mp a
   rw [if_pos e,e,hx,Option.map_some,if_pos rfl]
  ·rw [if_neg e]
   cases valV kvs j with
   | none=>rfl
   | some x=>rw [Option.map_some,if_neg e]
 ·rw [if_neg a]
  refine J4e k j y kvs ?_
  rw [J1M] at a
  cases q : valV kvs k with
  | none=>rfl
  | some x=>rw [q] at a; exact (a rfl).elim
theorem J32 (kvs : List (κ × V)) (k : κ) (v : V) : (putK kvs k v).length ≤ kvs.length + 1:=by
 unfold putK
 split
 ·rw [List.length_map]; omega
 ·rw [List.length_append,List.length_cons,List.length_nil]; omega
theorem J3S {kvs : List (κ × V)} {k : κ} (v : V) (h : valV kvs k = none) : putK kvs k v = kvs ++ [(k,v)]:=by
 unfold putK
 rw [J1M,h]
 exact if_neg (by decide)
theorem RelO.isSome_eq {o : Option V} {u : Option Value} (r : RelO o u) : o.isSome = u.isSome:=by
 cases o with
 | none=>cases u with
  | none=>rfl
  | some _=>exact (show False from r).elim
 | some _=>cases u with
  | none=>exact (show False from r).elim
  | some _=>rfl
theorem KV.val {kvs : List (κ × V)} {vs : List (κ × Value)} (r : KV kvs vs) (k : κ) : RelO (valV kvs k) (valueAt vs k):=by
 unfold KV at r
 induction r with
 | nil=>exact True.intro
 | @cons p q ps qs h t ih =>
  obtain ⟨h1,h2⟩:=h
  by_cases e : p.1 = k
  ·have e' : q.1 = k:=h1.symm.trans e
   have b : valueAt (q :: qs) k = some q.2:=by simp [valueAt,List.find?_cons,e']
   rw [J0i e,b]; exact h2
  ·have e' : ¬ q.1 = k:=fun z=>e (h1.trans z)
   have b : valueAt (q :: qs) k = valueAt qs k:=by simp [valueAt,List.find?_cons,e']
   rw [J06 e,b]; exact ih
theorem KV.any {kvs : List (κ × V)} {vs : List (κ × Value)} (r : KV kvs vs) (k : κ) : (kvs.any fun kv=>decide (kv.1 = k)) = vs.any fun kv=>decide (kv.1 = k):=by
 unfold KV at r
 induction r with
 | nil=>rfl
 | cons h t ih=>rw [List.any_cons,List.any_cons,ih,h.1]
theorem KV.repl {kvs : List (κ × V)} {vs : List (κ × Value)} (r : KV kvs vs) (k : κ) {y : V} {u : Value} (ry : RelV y u) :
  KV (kvs.map fun kv=>if kv.1 = k then (kv.1,y) else kv) (vs.map fun kv=>if kv.1 = k then (kv.1,u) else kv):=by
 unfold KV at r ⊢
 induction r with
 | nil=>exact .nil
 | @cons p q ps qs h t ih =>
  rw [List.map_cons,List.map_cons]
  refine .cons ?_ ih
  obtain ⟨h1,h2⟩:=h
  by_cases e : p.1 = k
  ·rw [if_pos e,if_pos (h1.symm.trans e)]; exact ⟨h1,ry⟩
  ·rw [if_neg e,if_neg (fun z=>e (h1.trans z))]; exact ⟨h1,h2⟩
theorem KV.put {kvs : List (κ × V)} {vs : List (κ × Value)} (r : KV kvs vs) (k : κ) {y : V} {u : Value} (ry : RelV y u) : KV (putK kvs k y) (stored vs k u):=by
 unfold putK stored
 rw [r.any k]
 by_cases e : (vs.any fun kv=>decide (kv.1 = k)) = true
 ·rw [if_pos e,if_pos e]; exact r.repl k ry
 ·rw [if_neg e,if_neg e]; exact Paired.snoc r ⟨rfl,ry⟩
theorem KV.drop {kvs : List (κ × V)} {vs : List (κ × Value)} (r : KV kvs vs) (k : κ) : KV (J0O kvs k) (without vs k):=by
 unfold KV at r ⊢
 unfold J0O without
 induction r with
 | nil=>exact .nil
 | @cons p q ps qs h t ih =>
  obtain ⟨h1,h2⟩:=h
  rw [List.filter_cons,List.filter_cons]
  by_cases e : p.1 = k
  ·have a : ¬ decide (p.1 ≠ k) = true:=by simp [e]
   have b : ¬ decide (q.1 ≠ k) = true:=by simp [h1.symm.trans e]
   rw [if_neg a,if_neg b]; exact ih
  ·have e' : ¬ q.1 = k:=fun z=>e (h1.trans z)
   have a : decide (p.1 ≠ k) = true:=by simp [e]
   have b : decide (q.1 ≠ k) = true:=by simp [e']
   rw [if_pos a,if_pos b]; exact .cons ⟨h1,h2⟩ ih
theorem KV.length {kvs : List (κ × V)} {vs : List (κ × Value)} (r : KV kvs vs) : kvs.length = vs.length:=Paired.length r
theorem J8X (kvs : List (κ × V)) (k : κ) : (J0O kvs k).length ≤ kvs.length:=List.length_filter_le _ _
end
theorem J4d {P : Program} {w : World} {k : Key} {u : Value} (r : RelV (kV k) u) : (JG P w).is k u = true:=by
 cases k with
 | inl i=>obtain ⟨t,e⟩:=(show ∃ t,u = Value.int i t from r); subst e; exact J5N P w i t
 | inr x=>obtain ⟨t,e⟩:=(show ∃ t,u = Value.str x t from r); subst e; exact J5n P w x t
theorem J4o {P : Program} {w : World} : ∀ {ks : List Key} {us : List Value},Vals (ks.map kV) us → ItemsAre (JG P w) ks us
 | [],_,r=>by rw [List.map_nil] at r; cases r; exact .nil
 | k :: ks,_,r=>by
  rw [List.map_cons] at r
  cases r with
  | cons h t=>exact .cons (J4d h) (J4o t)
noncomputable abbrev KT (H : Hp) : List (List Key × V) → List (List Key × Addr × Value) → Prop:=Paired fun p q=>p.1 = q.1 ∧ H q.2.1 = some (.tup (p.1.map kV)) ∧ RelV p.2 q.2.2
theorem KT.val {H : Hp} {kvs : List (List Key × V)} {xs : List (List Key × Addr × Value)} (r : KT H kvs xs) (k : List Key) : RelO (valV kvs k) ((atKey xs k).map (·.2)):=by
 induction r with
 | nil=>exact True.intro
 | @cons p q ps qs h t ih =>
  obtain ⟨h1,_,h2⟩:=h
  by_cases e : p.1 = k
  ·have e' : q.1 = k:=h1.symm.trans e
   have b : atKey (q :: qs) k = some q.2:=by simp [atKey,List.find?_cons,e']
   rw [J0i e,b]; exact h2
  ·have e' : ¬ q.1 = k:=fun z=>e (h1.trans z)
   have b : atKey (q :: qs) k = atKey qs k:=by simp [atKey,List.find?_cons,e']
   rw [J06 e,b]; exact ih
theorem KT.repl {H : Hp} {kvs : List (List Key × V)} {xs : List (List Key × Addr × Value)} (r : KT H kvs xs) (k : List Key) {y : V} {u : Value} (ry : RelV y u) :
  KT H (kvs.map fun kv=>if kv.1 = k then (kv.1,y) else kv) (xs.map (putAt k u)):=by
 induction r with
 | nil=>exact .nil
 | @cons p q ps qs h t ih =>
  rw [List.map_cons,List.map_cons]
  refine .cons ?_ ih
  obtain ⟨h1,h2,h3⟩:=h
  unfold putAt
  by_cases e : p.1 = k
  ·rw [if_pos e,if_pos (h1.symm.trans e)]; exact ⟨h1,h2,ry⟩
  ·rw [if_neg e,if_neg (fun z=>e (h1.trans z))]; exact ⟨h1,h2,h3⟩
theorem KT.put {H : Hp} {kvs : List (List Key × V)} {xs : List (List Key × Addr × Value)} (r : KT H kvs xs) (k : List Key) {b : Addr} {y : V} {u : Value} (hb : H b = some (.tup (k.map kV))) (ry : RelV y u) :
  KT H (putK kvs k y) (storedH xs k b u):=by
 have e : (kvs.any fun kv=>decide (kv.1 = k)) = (atKey xs k).isSome:=by
  rw [J1M,(r.val k).isSome_eq,Option.isSome_map]
 unfold putK storedH
 rw [e]
 by_cases q : (atKey xs k).isSome = true
 ·rw [if_pos q,if_pos q]; exact r.repl k ry
 ·rw [if_neg q,if_neg q]; exact Paired.snoc r ⟨rfl,hb,ry⟩
theorem KT.keeps {H H' : Hp} {kvs : List (List Key × V)} {xs : List (List Key × Addr × Value)} (r : KT H kvs xs) (ht : ∀ b ys,H b = some (.tup ys) → H' b = some (.tup ys)) : KT H' kvs xs :=
 Paired.mapP r fun _ _ z=>⟨z.1,ht _ _ z.2.1,z.2.2⟩
section
variable {P : Program} {w : World} {H : Hp} {h : Heap} {a : Addr}
theorem Jay {u : HO} (ok : HOk P w H h) (e : Rd H a u) : J0a P w H h a u:=e.ok ok
theorem J4k {kvs : List (Key × V)} (ok : HOk P w H h) (e : Rd H a (.dK kvs)) : kvs.length ≤ sizeLine ∧ (a == sysModules) = false ∧ ∃ vs,KV kvs vs ∧ h.DictOf (JG P w) a vs :=
 show J0a P w H h a (.dK kvs) from Jay ok e
theorem J9q {kvs : List (Key × V)} (ok : HOk P w H h) (e : H a = some (.dK kvs)) : kvs.length ≤ sizeLine ∧ (a == sysModules) = false ∧ ∃ vs,KV kvs vs ∧ h.DictOf (JG P w) a vs:=J4k ok (.inl e)
theorem J3G {ks : List Key} (ok : HOk P w H h) (e : H a = some (.tup (ks.map kV))) : (tupleKind (JG P w)).is h ks a:=by
 obtain ⟨_,its,r,o,h1,h2,n,h3⟩:=(show J0a P w H h a (.tup (ks.map kV)) from ok a _ e)
 exact ⟨o,its.toArray,n,h1,h2,h3,by simpa using J4o r⟩
theorem J4b {kvs : List (List Key × V)} (ok : HOk P w H h) (e : Rd H a (.dT kvs)) : kvs.length ≤ sizeLine ∧ (a == sysModules) = false ∧
  ∃ xs,KT H kvs xs ∧ h.DictOfH (tupleKind (JG P w)) a xs:=by
 obtain ⟨z,y,xs,r,o,es,ep,h1,h2,h3,h4,h5⟩:=(show J0a P w H h a (.dT kvs) from Jay ok e)
 refine ⟨z,y,xs,r,o,es,ep,h1,h2,h3,h4,fun x hx=>?_,h5⟩
 have all : ∀ {l : List (List Key × V)} {m : List (List Key × Addr × Value)},KT H l m → ∀ x ∈ m,(tupleKind (JG P w)).is h x.1 x.2.1:=by
  intro l m q
  induction q with
  | nil=>intro x hx; exact nomatch hx
  | @cons p q ps qs hq t ih =>
   intro x hx
   rcases List.mem_cons.mp hx with e | hx
   ·subst e
    exact J3G ok (by rw [← hq.1]; exact hq.2.1)
   ·exact ih x hx
 exact all r x hx
theorem Jco {kvs : List (List Key × V)} (ok : HOk P w H h) (e : H a = some (.dT kvs)) : kvs.length ≤ sizeLine ∧ (a == sysModules) = false ∧
  ∃ xs,KT H kvs xs ∧ h.DictOfH (tupleKind (JG P w)) a xs:=J4b ok (.inl e)
end
noncomputable def DGet (H : Hp) (a : Addr) (y : V) (r : Option V) : Prop :=
 (∃ kvs k,Rd H a (.dK kvs) ∧ y = kV k ∧ r = valV kvs k) ∨ ∃ kvs k b,Rd H a (.dT kvs) ∧ y = .ref b ∧ H b = some (.tup (k.map kV)) ∧ r = valV kvs k
noncomputable def DPut (H : Hp) (a : Addr) (y v : V) (H' : Hp) : Prop :=
 (∃ kvs k,H a = some (.dK kvs) ∧ y = kV k ∧ kvs.length < sizeLine ∧ H' = upd H a (.dK (putK kvs k v))) ∨
 ∃ kvs k b,H a = some (.dT kvs) ∧ y = .ref b ∧ H b = some (.tup (k.map kV)) ∧ kvs.length < sizeLine ∧ H' = upd H a (.dT (putK kvs k v))
theorem DGet.k {H : Hp} {a : Addr} {kvs : List (Key × V)} {k : Key} (e : H a = some (.dK kvs)) : DGet H a (kV k) (valV kvs k):=.inl ⟨kvs,k,.inl e,rfl,rfl⟩
theorem DPut.k {H : Hp} {a : Addr} {kvs : List (Key × V)} {k : Key} {v : V} (e : H a = some (.dK kvs)) (hl : kvs.length < sizeLine) : DPut H a (kV k) v (upd H a (.dK (putK kvs k v))):=.inl ⟨kvs,k,e,rfl,hl,rfl⟩
section
variable {X : Cx} {pins : List (Addr × Obj)} {σ : St} {H : Hp} {s : Shared} {a : Addr} {y v : V} {u r : Value} {o : Option V} {A : Around} {E : Value → Shared → Prop}
theorem Inv.big (I : Inv X pins σ H s) : sysModules < s.heap.objs.size:=by
 have h : mainGlobals < s.heap.objs.size:=(I.mod.glob.keeps I.bk).lt
 exact Nat.lt_trans (by decide) h
theorem J7o {Q : Value → Shared → Prop} (hu : A.units + 1 < cLine) (I : Inv X pins σ H s) (g : DGet H a y (some v)) (ry : RelV y u) (h : ∀ w' s',Inv X pins σ H s' → RelV v w' → Q w' s') :
  wpAny (model X.prog X.w) A (getItem (.ref a) u) Q E s:=by
 rcases g with ⟨kvs,k,e,ey,l⟩ | ⟨kvs,k,b,e,ey,eb,l⟩
 ·subst ey
  obtain ⟨z,hd,vs,rel,dd⟩:=J4k I.hok e
  obtain ⟨w',hw,rw'⟩:=RelO.some_of (v:=v) (o:=valueAt vs k) (by rw [l]; exact rel.val k)
  exact wpAny_getItem_of (J4d ry) dd.mapOf hw (h w' _ (I.tok _) rw')
 ·subst ey
  cases (show u = Value.ref b from ry)
  obtain ⟨z,hd,xs,rel,dd⟩:=J4b I.hok e
  obtain ⟨w',hw,rw'⟩:=RelO.some_of (v:=v) (o:=(atKey xs k).map (·.2)) (by rw [l]; exact rel.val k)
  obtain ⟨p,hp,hp2⟩:=Option.map_eq_some_iff.mp hw
  refine wpAny_getItem_heap (tupleKind_room_in1 hu) (J3G I.hok eb) dd hp ?_
  rw [hp2]
  exact h w' _ (I.tok _) rw'
theorem d_in {Q : Value → Shared → Prop} (hu : A.units + 1 < cLine) (I : Inv X pins σ H s) (g : DGet H a y o) (ry : RelV y u) (h : ∀ s',Inv X pins σ H s' → Q (.bool o.isSome) s') :
  wpAny (model X.prog X.w) A (compareOp .In u (.ref a)) Q E s:=by
 rcases g with ⟨kvs,k,e,ey,l⟩ | ⟨kvs,k,b,e,ey,eb,l⟩
 ·subst ey
  obtain ⟨z,hd,vs,rel,dd⟩:=J4k I.hok e
  refine wpAny_in_of (J4d ry) hd dd.mapOf ?_
  rw [← (rel.val k).isSome_eq,← l]
  exact h _ (I.tok _)
 ·subst ey
  cases (show u = Value.ref b from ry)
  obtain ⟨z,hd,xs,rel,dd⟩:=J4b I.hok e
  refine wpAny_in_heap (tupleKind_room_in1 hu) (J3G I.hok eb) hd dd ?_
  have q:=(rel.val k).isSome_eq
  rw [Option.isSome_map] at q
  rw [← q,← l]
  exact h _ (I.tok _)
theorem Ja8 {Q : Value → Shared → Prop} (hu : A.units + 1 < cLine) (I : Inv X pins σ H s) (g : DGet H a y o) (ry : RelV y u) (h : ∀ s',Inv X pins σ H s' → Q (.bool (!o.isSome)) s') :
  wpAny (model X.prog X.w) A (compareOp .NotIn u (.ref a)) Q E s:=by
 rcases g with ⟨kvs,k,e,ey,l⟩ | ⟨kvs,k,b,e,ey,eb,l⟩
 ·subst ey
  obtain ⟨z,hd,vs,rel,dd⟩:=J4k I.hok e
  refine wpAny_notIn_of (J4d ry) hd dd.mapOf ?_
  rw [← (rel.val k).isSome_eq,← l]
  exact h _ (I.tok _)
 ·subst ey
  cases (show u = Value.ref b from ry)
  obtain ⟨z,hd,xs,rel,dd⟩:=J4b I.hok e
  refine wpAny_notIn_heap (tupleKind_room_in1 hu) (J3G I.hok eb) hd dd ?_
  have q:=(rel.val k).isSome_eq
  rw [Option.isSome_map] at q
  rw [← q,← l]
  exact h _ (I.tok _)
theorem J4U {h' : Heap} {t' : Nat} {ob : HO} (I : Inv X pins σ H s) (mu : Mut (H a)) (hs : Heap.SameBut a s.heap h') (he : ∃ q,h'.get? a = some q) (new : J0a X.prog X.w (upd H a ob) h' a ob) :
  Inv X pins σ (upd H a ob) { s with heap:=h',toks:=t' } :=
 I.write (x:=a) (e:=a) mu (.inl rfl) (fun b q hb z=>(hs.2 b hb).trans z) he new
theorem J9p {P : Program} {w : World} {H' : Hp} {h' : Heap} {kvs : List (Key × V)} {vs : List (Key × Value)} (z : kvs.length ≤ sizeLine) (hd : (a == sysModules) = false) (rel : KV kvs vs) (dd : h'.DictOf (JG P w) a vs) :
  J0a P w H' h' a (.dK kvs):=⟨z,hd,vs,rel,dd⟩
theorem J7r {H' : Hp} {Q : Unit → Shared → Prop} (hu : A.units + 1 < cLine) (I : Inv X pins σ H s) (g : DPut H a y v H') (ry : RelV y u) (rv : RelV v r) (h : ∀ s',Inv X pins σ H' s' → Q () s') :
  wpAny (model X.prog X.w) A (setItem (.ref a) u r) Q E s:=by
 rcases g with ⟨kvs,k,e,ey,l,eH⟩ | ⟨kvs,k,b,e,ey,eb,l,eH⟩
 ·subst ey eH
  obtain ⟨z,hd,vs,rel,dd⟩:=J9q I.hok e
  have hz : vs.length ≤ sizeLine:=by rw [← rel.length]; exact z
  have hl : (putK kvs k v).length ≤ sizeLine:=by have:=J32 kvs k v; omega
  refine wpAny_setItem_pairs (hsz:=hz) (J4d ry) dd fun h' dd' hs=>h _ ?_
  have he : ∃ q,h'.get? a = some q:=let ⟨q,_,_,hq,_⟩:=dd'; ⟨q,hq⟩
  exact J4U I (by rw [e]; exact True.intro) hs he (J9p hl hd (rel.put k rv) dd')
 ·subst ey eH
  cases (show u = Value.ref b from ry)
  obtain ⟨z,hd,xs,rel,dd⟩:=Jco I.hok e
  have hz : xs.length ≤ sizeLine:=by rw [← Paired.length rel]; exact z
  have hl : (putK kvs k v).length ≤ sizeLine:=by have:=J32 kvs k v; omega
  refine wpAny_setItem_heap (hsz:=hz) (tupleKind_room_in1 hu) (J3G I.hok eb) dd fun h' dd' hs=>h _ ?_
  obtain ⟨q,es,ep,hq,h2,h3,h4,_,h5⟩:=dd'
  refine J4U I (by rw [e]; exact True.intro) hs ⟨q,hq⟩ ⟨hl,hd,_,(rel.put k eb rv).keeps fun c ys ec=>?_,q,es,ep,hq,h2,h3,h4,h5⟩
  rw [J7 (J0b ec e (fun z=>nomatch z))]
  exact ec
end
section
variable {X : Cx} {pins : List (Addr × Obj)} {σ : St} {H : Hp} {s : Shared} {a : Addr} {kvs : List (Key × V)} {k : Key} {u : Value} {A : Around} {E : Value → Shared → Prop}
theorem Jcn {v : V} {more : List Value} {Q : Value → Shared → Prop} (I : Inv X pins σ H s) (e : H a = some (.dK kvs)) (ry : RelV (kV k) u) (l : valV kvs k = some v) (hm : more = [] ∨ ∃ x,more = [x])
  (h : ∀ w' s',Inv X pins σ (upd H a (.dK (J0O kvs k))) s' → RelV v w' → Q w' s') : wpAny (model X.prog X.w) A (call (.builtin "dict.pop") (.ref a :: u :: more)) Q E s:=by
 obtain ⟨z,hd,vs,rel,dd⟩:=J9q I.hok e
 obtain ⟨w',hw,rw'⟩:=RelO.some_of (v:=v) (o:=valueAt vs k) (by rw [← l]; exact rel.val k)
 have hp : (keyPart u).isSome = true:=by
  cases k with
  | inl i=>obtain ⟨t,q⟩:=(show ∃ t,u = Value.int i t from ry); subst q; rfl
  | inr x=>obtain ⟨t,q⟩:=(show ∃ t,u = Value.str x t from ry); subst q; rfl
 have ha : argsOk "dict.pop" ⟨.ref a :: u :: more,[]⟩:=by
  rcases hm with q | ⟨x,q⟩
  ·subst q; exact PySem.F.args_dict_pop_2 _ _
  ·subst q; exact PySem.F.args_dict_pop_3 _ _ _
 refine call_meetsIn PySem.F.slot_dict_pop dd.typeIs PySem.F.entry_dict_pop ha (meets_dict_pop_there (JG X.prog X.w) a (J4d ry) more hm hp)
  ⟨vs,w',dd,by rw [← rel.length]; exact z,hw,fun h' dd' hs=>h w' _ ?_ rw'⟩
 have he : ∃ q,h'.get? a = some q:=let ⟨q,_,_,hq,_⟩:=dd'; ⟨q,hq⟩
 exact J4U I (by rw [e]; exact True.intro) hs he (J9p (Nat.le_trans (J8X kvs k) z) hd (rel.drop k) dd')
end
noncomputable def NoSl (i : Expr) : Prop:=∀ ov iv,subscripted i false ov iv = operate [ov,iv] (getItem ov iv)
theorem J6N {prog : Program} {w : World} {A : Around} {E : Value → Shared → Prop} {s : Shared} {env : Env} {value slice : Expr} {pos : Pos} {T id : String} {Q : Value → Shared → Prop}
  (hl : typeLookup (.type T) "__getitem__" = pure (some (.builtin id))) (hs : NoSl slice)
  (h : wpAny (model prog w) A (eval value env) (fun o s₁=>wpAny (model prog w) A (eval slice env) (fun i s₂=>s₂.TypeIs o T ∧ wpAny (model prog w) A (getItem o i) Q E s₂) E s₁) E s) :
  wpAny (model prog w) A (eval (.Subscript value slice pos) env) Q E s:=by
 refine Subscript_ (wpAny_mono h (fun o s₁ h₁=>wpAny_mono h₁ (fun i s₂ h₂=>?_) fun _ _ x=>x) fun _ _ x=>x)
 obtain ⟨hT,h₂⟩:=h₂
 unfold subscriptTail
 refine wpAny_bind ?_
 rw [getitemInPython_of_ne hT.not_modules]
 refine wpAny_bind (wpAny_specialOf hT hl ?_)
 have fin : wpAny (model prog w) A (subscripted slice false o i) (fun r s₃=>wpAny (model prog w) A (letTemporaryGo value o r >>= fun _=>pure r) Q E s₃) E s₂:=by
  rw [hs o i]
  exact wpAny_operating (wpAny_mono h₂ (fun r s₃ h₃=>wpAny_bind (wpAny_letTemporaryGo (wpAny_pure h₃))) fun _ _ x=>x)
 first
  | exact wpAny_pure (wpAny_bind fin)
  | exact wpAny_bind (wpAny_pure (wpAny_bind fin))
  | exact wpAny_bind fin
theorem J5i {X : Cx} {pins : List (Addr × Obj)} {σ : St} {H : Hp} {s : Shared} {a : Addr} {y : V} {o : Option V} (I : Inv X pins σ H s) (g : DGet H a y o) : s.TypeIs (.ref a) "dict":=by
 rcases g with ⟨kvs,k,e,_,_⟩ | ⟨kvs,k,b,e,_,_,_⟩
 ·obtain ⟨_,_,vs,_,dd⟩:=J4k I.hok e
  exact dd.typeIs
 ·obtain ⟨_,_,xs,_,dd⟩:=J4b I.hok e
  exact dd.typeIs
noncomputable def Jcu (td ty : TE) : TE:=fun σ H Q=>td σ H fun x H1=>ty σ H1 fun y H2=>∃ a v,x = .ref a ∧ DGet H2 a y (some v) ∧ Q v H2
noncomputable def tDIn (ty td : TE) : TE:=fun σ H Q=>ty σ H fun y H1=>td σ H1 fun x H2=>∃ a o,x = .ref a ∧ DGet H2 a y o ∧ Q (.bl o.isSome) H2
noncomputable def J9I (ty td : TE) : TE:=fun σ H Q=>ty σ H fun y H1=>td σ H1 fun x H2=>∃ a o,x = .ref a ∧ DGet H2 a y o ∧ Q (.bl (!o.isSome)) H2
noncomputable def Jcw (td ty tv : TE) : TS:=fun D σ H=>tv σ H fun v H1=>td σ H1 fun x H2=>ty σ H2 fun y H3=>∃ a H4,x = .ref a ∧ DPut H3 a y v H4 ∧ D.nx σ H4
section
variable {X : Cx} {o i e value : Expr} {pos pos' tpos : Pos} {td ty tv : TE}
theorem J2G (hu : X.A.units + 1 < cLine) (ho : PE X o td) (hi : PE X i ty) (hs : NoSl i) : PE X (.Subscript o i pos) (Jcu td ty):=by
 intro pins s σ H Q I h
 refine J6N PySem.F.slot_dict_getitem.lookup hs (thn (ho pins s σ H _ I h) fun u s1 ⟨x,H1,I1,rx,q1⟩=>thn (hi pins s1 σ H1 _ I1 q1) fun iv s2 ⟨y,H2,I2,ry,a,v,ex,g,q2⟩=>?_)
 subst ex
 obtain rfl : u = Value.ref a:=rx
 exact ⟨J5i I2 g,J7o hu I2 g ry fun w' s3 I3 rw'=>⟨v,H2,I3,rw',q2⟩⟩
theorem JbZ (hu : X.A.units + 1 < cLine) (hi : PE X i ty) (ho : PE X o td) : PC X .In i o (tDIn ty td):=by
 intro pins s σ H Q I h
 refine thn (hi pins s σ H _ I h) fun iv s1 ⟨y,H1,I1,ry,q1⟩=>thn (ho pins s1 σ H1 _ I1 q1) fun u s2 ⟨x,H2,I2,rx,a,ov,ex,g,q2⟩=>?_
 subst ex
 obtain rfl : u = Value.ref a:=rx
 exact d_in hu I2 g ry fun s3 I3=>⟨.bl ov.isSome,H2,I3,rfl,q2⟩
theorem J2L (hu : X.A.units + 1 < cLine) (hi : PE X i ty) (ho : PE X o td) : PC X .NotIn i o (J9I ty td):=by
 intro pins s σ H Q I h
 refine thn (hi pins s σ H _ I h) fun iv s1 ⟨y,H1,I1,ry,q1⟩=>thn (ho pins s1 σ H1 _ I1 q1) fun u s2 ⟨x,H2,I2,rx,a,ov,ex,g,q2⟩=>?_
 subst ex
 obtain rfl : u = Value.ref a:=rx
 exact Ja8 hu I2 g ry fun s3 I3=>⟨.bl (!ov.isSome),H2,I3,rfl,q2⟩
theorem J3c (hu : X.A.units + 1 < cLine) (ho : PE X o td) (hi : PE X i ty) (hv : PE X value tv) (hs : swapsWith value (some (.Subscript o i pos')) pos.line X.env = pure false) :
  PS X (.Assign [.Subscript o i pos'] value pos) (Jcw td ty tv):=by
 intro pins s σ H D I h
 refine wpAny_Assign_Subscript (thn (hv pins s σ H _ I h) fun r s1 ⟨v,H1,I1,rv,q1⟩=>thn (ho pins s1 σ H1 _ I1 q1) fun u s2 ⟨x,H2,I2,rx,q2⟩=>thn (hi pins s2 σ H2 _ I2 q2) fun iv s3 ⟨y,H3,I3,ry,a,H4,ex,g,q3⟩=>?_) hs
 subst ex
 obtain rfl : u = Value.ref a:=rx
 exact J7r hu I3 g ry rv fun s4 I4=>⟨σ,H4,I4,q3⟩
end
theorem J98 {P : Program} {w : World} {H : Hp} (h : Heap) (hb : sysModules < h.objs.size) : J0a P w H (h.push { cls:=.type "dict",data:=.dict #[] }) h.objs.size (.dK []) :=
 ⟨Nat.zero_le _,beq_eq_false_iff_ne.mpr (Ne.symm (Nat.ne_of_lt hb)),[],.nil,Heap.DictOf.new h⟩
noncomputable def Jcb : TE:=fun _ H Q=>∀ p,H p = none → Q (.ref p) (upd H p (.dK []))
section
variable {X : Cx} {pos : Pos}
theorem J3P : PE X (.Dict [] [] pos) Jcb:=fun pins s σ H Q I h =>
 wpAny_Dict_empty ⟨.ref s.heap.objs.size,_,I.laid (a:=s.heap.objs.size) (o:=.dK []) (t':=s.toks) (fun _ _ q=>Heap.get?_push_of_some _ q) (Nat.le_refl _) (J98 s.heap I.big),rfl,h _ (I.hok.fresh (Nat.le_refl _))⟩
end
structure M1 (X : Cx) (o : Expr) (m : Str) (apos : Pos) (e : Expr) (cpos : Pos) : Prop where
 base : attributeBase o m X.env (eval o X.env) = eval o X.env
 few : ((backTo cpos (starEach [e] X.env)).all (fun x=>!x.1) && (backToKw cpos (keywordEach [] X.env)).all (fun x=>x.1.isSome)
  && decide (([e] : List Expr).length + ([] : List Keyword).length + (if ([] : List Keyword).isEmpty then 0 else 1) < 30)) = true
 line : (apos.endLine == cpos.line) = true
 trees : backTo cpos (starEach [e] X.env) = [(false,eval e X.env)]
noncomputable def IsD (H : Hp) (a : Addr) : Prop:=(∃ kvs,Rd H a (.dK kvs)) ∨ ∃ kvs,Rd H a (.dT kvs)
theorem Jc9 {X : Cx} {pins : List (Addr × Obj)} {σ : St} {H : Hp} {s : Shared} {a : Addr} (I : Inv X pins σ H s) (d : IsD H a) :
  s.TypeIs (.ref a) "dict" ∧ (∀ b,Value.ref a = .ref b → ∃ ob,s.heap.get? b = some ob ∧ ob.dict = none) ∧ (a == sysModules) = false:=by
 rcases d with ⟨kvs,e⟩ | ⟨kvs,e⟩
 ·obtain ⟨_,hd,vs,_,dd⟩:=J4k I.hok e
  refine ⟨dd.typeIs,fun b q=>?_,hd⟩
  cases q
  obtain ⟨ob,_,_,h1,h2,_⟩:=dd
  exact ⟨ob,h1,h2.2.1⟩
 ·obtain ⟨_,hd,xs,_,dd⟩:=J4b I.hok e
  refine ⟨dd.typeIs,fun b q=>?_,hd⟩
  cases q
  obtain ⟨ob,_,_,h1,h2,_⟩:=dd
  exact ⟨ob,h1,h2.2.1⟩
section
variable {X : Cx} {pins : List (Addr × Obj)} {σ : St} {H : Hp} {s : Shared} {a : Addr} {y d : V} {u r : Value} {o : Option V} {A : Around} {E : Value → Shared → Prop}
end
noncomputable def JbU (td ty : TE) : TE:=fun σ H Q=>td σ H fun x H1=>∃ a,x = .ref a ∧ IsD H1 a ∧ ty σ H1 fun y H2=>∃ kvs k v,H2 a = some (.dK kvs) ∧ y = kV k ∧ valV kvs k = some v ∧ Q v (upd H2 a (.dK (J0O kvs k)))
section
variable {X : Cx} {o e f : Expr} {apos cpos : Pos} {td ty tx : TE}
theorem J9i (ho : PE X o td) (he : PE X e ty) (m : M1 X o "pop" apos e cpos) : PE X (.Call (.Attribute o "pop" apos) [e] [] cpos) (JbU td ty):=by
 intro pins s σ H Q I h
 refine wpAny_Call_method m.base m.few m.line PySem.F.plainAttrs_dict PySem.F.slot_dict_pop PySem.F.type_dict_pop (thn (ho pins s σ H _ I h) fun u s1 ⟨x,H1,I1,rx,a,ex,d,q1⟩=>?_)
 subst ex
 obtain rfl : u = Value.ref a:=rx
 obtain ⟨t1,t2,_⟩:=Jc9 I1 d
 refine ⟨t1,t2,?_⟩
 rw [m.trees]
 refine Calls.callWith_builtin rfl (Calls.evalArgs_plain (Calls.spliced_cons (thn (he pins s1 σ H1 _ I1 q1) fun iv s2 ⟨y,H2,I2,ry,kvs,k,v,ea,ey,l,q2⟩=>Calls.spliced_nil ?_)))
 subst ey
 exact Jcn I2 ea ry l (.inl rfl) fun w' s3 I3 rw'=>⟨v,_,I3,rw',q2⟩
end
section
variable {X : Cx} {pins : List (Addr × Obj)} {σ : St} {H : Hp} {s : Shared} {a : Addr} {kvs : List (Key × V)} {A : Around} {E : Value → Shared → Prop}
end
section
variable {X : Cx} {pins : List (Addr × Obj)} {σ : St} {H : Hp} {s : Shared} {a : Addr} {y : V} {u : Value} {A : Around} {E : Value → Shared → Prop}
end
end L2
namespace Att
open PySem PySem.W PySem.Calls PyProof.Rows
section
variable {prog : Program} {w : World} {A : Around} {E : Value → Shared → Prop} {s : Shared} {K : Frag}
end
end Att
namespace L2
open PySem PySem.Spec PyProof.Rows
end L2
namespace L2
open PySem PySem.Spec PyProof.Rows
end L2
namespace L2
open PySem PySem.Spec PyProof.Rows
section
variable {P : Program} {w : World} {K : PySem.W.Frag} {mg : Str → Option Value} {base : Heap}
end
section
variable {X : Cx}
end
section
variable {κ : Type} [DecidableEq κ]
theorem J9Z {kvs : List (κ × V)} {k : κ} {v : V} (h : valV kvs k = some v) : k ∈ kvs.map (·.1):=by
 have q : (kvs.any fun kv=>decide (kv.1 = k)) = true:=by
  rw [J1M,h]
  all_goals rfl
 obtain ⟨p,hp,e⟩:=List.any_eq_true.mp q
 exact List.mem_map.mpr ⟨p,hp,of_decide_eq_true e⟩
theorem J7L {p : κ × V} {r : List (κ × V)} {k : κ} (e : p.1 = k) : J0O (p :: r) k = J0O r k:=by
 unfold J0O
 rw [List.filter_cons,if_neg (by simp [e])]
theorem J7E {p : κ × V} {r : List (κ × V)} {k : κ} (e : ¬ p.1 = k) : J0O (p :: r) k = p :: J0O r k:=by
 unfold J0O
 rw [List.filter_cons,if_pos (by simp [e])]
end
end L2
set_option linter.all false
set_option maxRecDepth 100000
set_option maxHeartbeats 4000000
namespace L2
open PySem PySem.Spec PyProof.Rows
section
variable {prog : Program} {w : World} {K : Type} [DecidableEq K] {knd : HeapKind prog w K} {A : Around} {E : Value → Shared → Prop} {s : Shared} {d a : Addr} {xs : List (K × Addr × Value)} {k : K} {z : Value}
end
section
variable {X : Cx} {K : PySem.W.Frag}
end
end L2
set_option linter.all false
set_option maxRecDepth 100000
set_option maxHeartbeats 4000000
namespace L2
open PySem PySem.Spec PyProof.Rows
section
variable {X : Cx} {K : PySem.W.Frag}
end
section
variable {X : Cx} {es : List Expr} {k : Nat} {tpos : Pos}
end
section
variable {elt tg iter : Expr} {ifs : List Expr} {scope : Scope} {pos : Pos} {N : List Str} {js : List (Option Nat)} {wi : TI} {g : TG} {tc : TT} {te : TE}
end
end L2
set_option linter.all false
set_option maxRecDepth 100000
set_option maxHeartbeats 4000000
namespace L2
open PySem PySem.Spec PyProof.Rows
section
variable {prog : Program} {w : World} {K : Type} [DecidableEq K] {knd : KeyKind prog w K} {A : Around} {E : Value → Shared → Prop} {s : Shared}
end
section
variable {X : Cx}
end
section
variable {X : Cx} {K : PySem.W.Frag}
end
section
variable {X : Cx}
end
section
variable {X : Cx}
end
end L2
set_option linter.all false
set_option maxRecDepth 100000
set_option maxHeartbeats 4000000
namespace L2
open PySem PySem.Spec PyProof.Rows
section
variable {p : Program} {w : World} {A : Around} {R : Result → Shared → Prop} {it bst : Addr} {fp wr : List Addr} {n : Nat} {G : Nat → Value → Prop} {St : Nat → Heap → Prop} {bt : Nat → Nat → Bool} {kw : List (Str × Value)}
end
section
variable {p : Program} {w : World} {A : Around} {E : Value → Shared → Prop} {s : Shared} {l : Addr} {xs : Array (Int × Tok)} {Q : Value → Shared → Prop} {d : Value}
end
section
variable {X : Cx} {K : PySem.W.Frag}
end
end L2
set_option linter.all false
set_option maxRecDepth 100000
set_option maxHeartbeats 4000000
namespace L2
open PySem PySem.Spec PyProof.Rows
open Builtin Builtin.Str
section
variable {prog : Program} {w : World} {A : Around} {E : Value → Shared → Prop} {s : Shared}
end
end L2
set_option linter.all false
set_option maxRecDepth 100000
set_option maxHeartbeats 4000000
namespace L2
open PySem PySem.Spec PyProof.Rows
section
variable {X : Cx} {K : PySem.W.Frag}
theorem J9N {xs : List (Int × Tok)} (h : 0 < xs.length) {v : Value} (e : (intItems xs.toArray)[argBest (fun i j=>decide (numAt xs.toArray i < numAt xs.toArray j)) (xs.toArray.size - 1)]? = some v) :
  ∃ M t,v = .int M t ∧ M ∈ xs.map (·.1) ∧ ∀ a ∈ xs.map (·.1),M ≤ a:=by
 obtain ⟨t,rfl⟩:=intItems_at e
 obtain ⟨h1,h2⟩:=argBest_lt (numAt xs.toArray) (xs.toArray.size - 1)
 have ez : xs.toArray.size = xs.length:=List.size_toArray ..
 refine ⟨_,t,rfl,?_,fun a ha=>?_⟩
 ·rw [numAt_eq]
  exact getD_mem (by rw [List.length_map]; omega)
 ·obtain ⟨j,hj,rfl⟩:=mem_getD ha
  rw [List.length_map] at hj
  have:=h2 j (by omega)
  conv at this=>rhs; rw [numAt_eq]
  exact this
theorem J87 (hc : X.calm = true) (h : X.K = K) : J1m X (.builtin "min") (fun xs H Q=>∃ (D : Addr) (ns : List Int),xs = [.ref D] ∧ SqL K H D (ns.map V.int) ∧ 0 < ns.length ∧ ∀ M,M ∈ ns → (∀ a ∈ ns,M ≤ a) → Q (.int M) H):=by
 subst h
 intro pins s σ H xs us Q I r h
 obtain ⟨D,ns,rfl,hq,hn,q⟩:=h
 obtain ⟨u,rfl,ru⟩:=r.one
 cases ru
 obtain ⟨its,rv,pl,_⟩:=I.list hq
 obtain ⟨xs,rfl,rfl⟩:=J1X rv
 have e : (xs.map fun p=>Value.int p.1 p.2).toArray = intItems xs.toArray:=by simp [intItems]
 rw [List.length_map] at hn
 refine min_intList (xs:=xs.toArray) (I.ok.hd hc) (by rw [← e]; exact pl.isList) (by rw [List.size_toArray]; exact hn) fun v h' tk hv hk=>?_
 obtain ⟨M,t,rfl,m1,m2⟩:=J9N hn hv
 exact ⟨.int M,H,I.kept (fun b o e=>hk b o e),⟨t,rfl⟩,q M m1 m2⟩
end
end L2
set_option linter.all false
set_option maxRecDepth 100000
set_option maxHeartbeats 4000000
namespace L2
open PySem PySem.Spec PyProof.Rows
section
variable {κ : Type} [DecidableEq κ]
end
section
variable {p : Program} {w : World} {A : Around} {R : Result → Shared → Prop} {it : Addr} {fp wr : List Addr} {gs : Array GenState → Array GenState → Prop} {n : Nat} {Pv : Nat → Value → Prop} {St : Nat → Shared → Prop}
end
section
variable {p : Program} {w : World} {A : Around} {E : Value → Shared → Prop} {s : Shared}
end
section
variable {X : Cx}
end
end L2
set_option linter.all false
set_option maxRecDepth 100000
namespace L2
open PySem PySem.Spec PyProof.Rows
section
variable {X : Cx}
end
end L2
set_option linter.all false
set_option maxRecDepth 100000
set_option maxHeartbeats 4000000
namespace L2
open PySem PySem.Spec PyProof.Rows
section
variable {X : Cx} {e : Expr} {pos : Pos}
end
end L2
set_option linter.all false
set_option maxRecDepth 100000
set_option maxHeartbeats 4000000
namespace L2
open PySem PySem.Spec PyProof.Rows
section
variable {X : Cx}
end
end L2
set_option linter.all false
set_option maxRecDepth 100000
set_option maxHeartbeats 4000000
namespace L2
open PySem PySem.Spec PyProof.Rows
section
variable {X : Cx} {K : PySem.W.Frag} {pins : List (Addr × Obj)} {σ : St} {H : Hp} {s : Shared} {A : Around}
end
end L2
namespace L2
open PySem
end L2
set_option linter.all false
set_option maxRecDepth 100000
set_option maxHeartbeats 4000000
namespace L2
open PySem PySem.Spec PyProof.Rows
section
variable {X : Cx}
end
end L2
set_option linter.all false
set_option maxRecDepth 100000
set_option maxHeartbeats 4000000
namespace L2
open PySem PySem.Spec PyProof.Rows
section
variable {X : Cx} {K : PySem.W.Frag}
end
end L2
set_option linter.all false
set_option maxRecDepth 100000
set_option maxHeartbeats 4000000
namespace L2
open PySem PySem.Spec PyProof.Rows
section
variable {M : Model} {A : Around} {E : Value → Shared → Prop} {s : Shared} {B : Heap} {env : Env} {outer l : List Env} {L e : Addr} {c a0 fl : Value} {d : Option Addr} {Q : Unit → Shared → Prop}
end
end L2
set_option linter.all false
set_option maxRecDepth 100000
set_option maxHeartbeats 4000000
namespace L2
open PySem PySem.Spec PyProof.Rows
section
variable {prog : Program} {w : World} {A : Around} {E : Value → Shared → Prop} {h : Heap} {g : Array GenState} {d : Drawn} {t : Nat} {os : OsState}
variable {nm q : Str} {C N : Addr} {bs bm : List Value} {hdct : Bool} {sn : List Str} {sub : List Value} {ab : Bool} {col : Option Bool} {dd : Option Addr} {k0 k1 k2 k3 k5 : Option Value}
end
end L2
set_option linter.all false
set_option maxRecDepth 100000
set_option maxHeartbeats 4000000
namespace L2
open PySem PySem.Spec PyProof.Rows PySem.Builtin PySem.Builtin.ObjectAttr
section
variable {prog : Program} {w : World} {A : Around} {R : Result → Shared → Prop} {E : Value → Shared → Prop} {s : Shared} {K : PySem.W.Frag} {x C : Addr} {f : Str} {v : Value}
end
section
variable {X : Cx} {pins : List (Addr × Obj)} {σ : St} {H : Hp} {s : Shared} {e C t dx : Addr} {f : Str} {v : V} {u : Value} {A : Around} {E : Value → Shared → Prop} {Q : Unit → Shared → Prop}
end
end L2
set_option linter.all false
set_option maxRecDepth 100000
set_option maxHeartbeats 4000000
namespace L2
open PySem PySem.Spec PyProof.Rows
section
variable {X : Cx} {pins : List (Addr × Obj)} {σ : St} {H : Hp} {s : Shared} {E : XK} {Ex : Value → Shared → Prop}
end
section
variable {X : Cx} {pins : List (Addr × Obj)} {σ : St} {H : Hp} {s : Shared}
end
section
variable {P : Program} {w : World} {K : PySem.W.Frag} {mg : Str → Option Value} {base : Heap}
end
section
variable {X : Cx} {x m : Str} {k : Nat} {ps : List Str} {sp : Sp} {C : Addr} {p pos apos : Pos} {e o : Expr} {es : List Expr} {t : TA} {to : TE} {E : XK}
end
section
variable {X : Cx} {x : Str} {k : Nat} {ps : List Str} {sp : Sp} {C : Addr} {np cpos pos : Pos} {e : Expr} {es : List Expr} {t : TA} {E : XK}
end
end L2
set_option linter.all false
set_option maxRecDepth 100000
set_option maxHeartbeats 4000000
namespace L2
open PySem PySem.Spec PyProof.Rows PySem.Builtin PySem.Builtin.ObjectAttr
section
variable {X : Cx}
end
section
variable {prog : Program} {w : World} {A : Around} {E : Value → Shared → Prop} {K : PySem.W.Frag} {x C : Addr} {h : Heap} {g : Array GenState} {d : Drawn} {t : Nat} {os : OsState} {o : Obj} {od : Option Obj} {f : Str} {v : Value}
end
section
variable {X : Cx} {K : PySem.W.Frag}
end
end L2
set_option linter.all false
set_option maxRecDepth 100000
set_option maxHeartbeats 4000000
namespace L2
open PySem PySem.Spec PyProof.Rows
section
variable {X : Cx} {pins : List (Addr × Obj)} {σ : St} {H : Hp} {s : Shared} {E : XK} {Ex : Value → Shared → Prop}
end
section
variable {X : Cx} {x m : Str} {k : Nat} {ps : List Str} {sp : Sp} {C : Addr} {p pos apos : Pos} {e o : Expr} {es : List Expr} {t : TA} {to : TE} {E : XK}
end
section
variable {X : Cx} {K : PySem.W.Frag}
end
end L2
set_option linter.all false
set_option maxRecDepth 100000
set_option maxHeartbeats 4000000
namespace L2
open PySem PySem.Spec PyProof.Rows PySem.NumText
section
variable {X : Cx}
end
end L2
set_option linter.all false
set_option maxRecDepth 100000
set_option maxHeartbeats 4000000
namespace L2
open PySem PySem.Spec PyProof.Rows
section
variable {X : Cx} {a b c d : Expr} {ta tb tc td : TE} {pos : Pos}
end
section
variable {X : Cx} {K : PySem.W.Frag}
end
section
open PySem.StrLaws Builtin Builtin.Str
end
section
variable {X : Cx} {K : PySem.W.Frag}
end
section
variable {X : Cx} {e : Expr} {te : TE} {pos : Pos}
end
end L2
set_option linter.all false
set_option maxRecDepth 100000
set_option maxHeartbeats 4000000
namespace L2
open PySem PySem.Spec PyProof.Rows
section
open PySem.StrLaws Builtin Builtin.Str
end
section
variable {X : Cx} {K : PySem.W.Frag}
end
section
variable {X : Cx}
end
end L2
set_option linter.all false
set_option maxRecDepth 100000
set_option maxHeartbeats 4000000
namespace L2
open PySem PySem.Spec PyProof.Rows
section
variable {X : Cx} {K : PySem.W.Frag}
end
end L2
set_option linter.all false
set_option maxRecDepth 100000
set_option maxHeartbeats 4000000
namespace L2
open PySem PySem.Spec PyProof.Rows
section
variable {X : Cx} {K : PySem.W.Frag}
end
end L2
set_option linter.all false
set_option maxRecDepth 100000
set_option maxHeartbeats 4000000
namespace L2
open PySem PySem.Spec PyProof.Rows
section
variable {X : Cx} {K : PySem.W.Frag}
end
end L2
set_option linter.all false
set_option maxRecDepth 100000
set_option maxHeartbeats 4000000
namespace L2
open PySem PySem.Spec PyProof.Rows
section
variable {prog : Program} {w : World} {A : Around} {E : Value → Shared → Prop} {s : Shared}
end
section
variable {κ : PyProof.Rows.KeyKind}
variable {al bl out : List Keyed} {ia ib : Nat}
end
section
variable {prog : Program} {w : World} {A : Around} {E : Value → Shared → Prop} {s : Shared} {κ : PyProof.Rows.KeyKind}
end
section
variable {prog : Program} {w : World} {A : Around} {E : Value → Shared → Prop} {s : Shared} {κ : PyProof.Rows.KeyKind}
end
section
variable {κ : PyProof.Rows.KeyKind}
variable {al bl out : List Keyed} {na nb : Nat}
end
section
variable {prog : Program} {w : World} {A : Around} {E : Value → Shared → Prop} {s : Shared} {κ : PyProof.Rows.KeyKind}
end
section
variable {κ : PyProof.Rows.KeyKind}
end
section
variable {prog : Program} {w : World} {A : Around} {E : Value → Shared → Prop} {s : Shared} {κ : PyProof.Rows.KeyKind}
end
section
variable {κ : PyProof.Rows.KeyKind}
end
section
variable {prog : Program} {w : World} {A : Around} {E : Value → Shared → Prop} {s : Shared} {κ : PyProof.Rows.KeyKind}
end
section
variable {prog : Program} {w : World} {A : Around} {E : Value → Shared → Prop} {s : Shared} {κ : PyProof.Rows.KeyKind}
end
section
variable {prog : Program} {w : World} {A : Around} {E : Value → Shared → Prop} {s : Shared} {κ : PyProof.Rows.KeyKind}
end
section
variable {prog : Program} {w : World} {A : Around} {E : Value → Shared → Prop} {s : Shared} {κ : PyProof.Rows.KeyKind}
end
section
variable {X : Cx}
end
end L2
set_option linter.all false
set_option maxRecDepth 100000
set_option maxHeartbeats 4000000
namespace L2
open PySem PySem.Spec PyProof.Rows
section
variable {X : Cx}
end
end L2
set_option linter.all false
set_option maxRecDepth 100000
set_option maxHeartbeats 4000000
namespace L2
open PySem PySem.Spec PyProof.Rows
section
variable {P : Program} {w : World} {A : Around} {E : Value → Shared → Prop} {s : Shared}
end
section
variable {P : Program} {w : World} {H : Hp} {h : Heap} {a : Addr}
end
section
variable {X : Cx} {pins : List (Addr × Obj)} {σ : St} {H : Hp} {s : Shared} {a : Addr} {y v d : V} {u r : Value} {o : Option V} {A : Around} {E : Value → Shared → Prop}
end
section
variable {X : Cx} {P : Program} {w : World} {o i e value : Expr} {pos pos' tpos : Pos} {td ty tv : TE}
end
end L2
set_option linter.all false
set_option maxRecDepth 100000
set_option maxHeartbeats 4000000
namespace L2
open PySem PySem.Spec PyProof.Rows
section
variable {P : Program} {w : World} {A : Around} {E : Value → Shared → Prop} {s : Shared}
theorem J6o {it d : Addr} {i n ep : Nat} {ok ov : Value} {od : Obj} {es : Array DictEntry} {en : DictEntry} {Q : Option Value → Shared → Prop} (hit : IsItemIter s.heap it d i n ep ok ov)
  (hod : s.heap.get? d = some od) (hdd : od.data = .dict es ep) (hsz : es.size = n) (hx : es[i]? = some en)
  (hQ : ∀ h',IsItemIterOut h' it d (i + 1) n ep en.key en.val s.heap.objs.size → h'.get? s.heap.objs.size = some { cls:=.type "tuple",data:=.seq #[en.key,en.val] } → h'.objs.size = s.heap.objs.size + 1 →
   (∀ b o,b ≠ it → s.heap.get? b = some o → h'.get? b = some o) → Q (some (.ref s.heap.objs.size)) { s with heap:=h' }) :
  wpAny (model P w) A (pyNext (.ref it)) Q E s:=by
 have T0 : s.TypeIs (.ref it) "dict_itemiterator":=⟨_,hit,rfl⟩
 have own : Builtin.Dict_items.ownsTuple "dict_itemiterator" = true:=by decide
 unfold pyNext
 refine wpAny_bind (wpAny_attempt (wpAny_callSpecial?_slot (name:=Str.ofString "__next__") T0 F.slot_dict_itemiterator_next (wpAny_call_entry F.slot_dict_itemiterator_next T0 F.entry_dict_itemiterator_next ?_ (F.args_dict_itemiterator_next_1 _))))
 refine wpAny_bind (wpAny_pure (wpAny_bind (wpAny_bind ?_)))
 first | refine wpAny_bind (wpAny_typeNameOfWhole_itemiter T0 (wpAny_pure ?_)) | refine wpAny_bind (wpAny_typeNameOf_itemiter T0 (wpAny_pure ?_))
 refine wpAny_bind (wpAny_fieldsOf hit rfl ?_)
 simp only [own,if_true]
 show wpAny _ _ (if (Value.ref d == Value.none) = true then _ else _) _ _ _
 rw [if_neg (show ¬ (Value.ref d == Value.none) = true from fun z=>nomatch z)]
 refine wpAny_bind (wpAny_pure (wpAny_bind (wpAny_dictEntries hod hdd ?_)))
 rw [if_neg (by rw [hsz]; simp)]
 refine wpAny_bind (wpAny_pure (wpAny_bind (wpAny_dictEpoch hod hdd ?_)))
 rw [if_neg (by simp)]
 refine wpAny_pure ?_
 simp only [show ¬ ((i : Int) < 0) from by omega,if_false,Int.toNat_natCast,hx]
 refine wpAny_bind ?_
 first | refine wpAny_bind (wpAny_typeNameOfWhole_itemiter T0 (wpAny_pure ?_)) | refine wpAny_bind (wpAny_typeNameOf_itemiter T0 (wpAny_pure ?_))
 refine wpAny_bind (wpAny_isOneOf_itemiter T0 ?_)
 show wpAny _ _ (setField (.ref it) 3 (rawInt ((i : Int) + 1)) >>= _) _ _ s
 refine wpAny_bind (wpAny_setField_rec hit (by simp) fun h1 e1 s1=>?_)
 replace s1 : Heap.SameBut it s.heap h1:=s1
 replace e1 : IsItemIter h1 it d (i + 1) n ep ok ov:=by
  have e : ((i + 1 : Nat) : Int) = (i : Int) + 1:=by omega
  unfold IsItemIter; rw [e]; simpa [rawInt] using e1
 have T1 : Shared.TypeIs { s with heap:=h1 } (.ref it) "dict_itemiterator":=⟨_,e1,rfl⟩
 refine wpAny_bind (wpAny_holding (wpAny_bind (wpAny_isOneOf_itemiter T1 (wpAny_bind (wpAny_isOneOf_itemiter T1 ?_)))))
 show wpAny _ _ (Builtin.Dict_items.pairFromOwner (.ref it) 6 en.key en.val) _ _ { s with heap:=h1 }
 unfold Builtin.Dict_items.pairFromOwner
 refine wpAny_bind (wpAny_newTuple ?_)
 have e2 : IsItemIter (h1.push { cls:=.type "tuple",data:=.seq #[en.key,en.val] }) it d (i + 1) n ep ok ov:=Heap.get?_push_of_some _ e1
 have z1 : h1.objs.size = s.heap.objs.size:=s1.1
 have lt : it < s.heap.objs.size:=Heap.lt_size hit
 obtain ⟨h2,q2⟩ : ∃ h2,h2 = h1.push { cls:=.type "tuple",data:=.seq #[en.key,en.val] }:=⟨_,rfl⟩
 have t2 : h2.get? s.heap.objs.size = some { cls:=.type "tuple",data:=.seq #[en.key,en.val] }:=by rw [q2,← z1]; exact Heap.get?_push_size _ rfl
 have z2 : h2.objs.size = s.heap.objs.size + 1:=by rw [q2,Heap.size_push,z1]
 have k2 : ∀ b o,b ≠ it → s.heap.get? b = some o → h2.get? b = some o:=fun b o hb e=>by rw [q2]; exact Heap.get?_push_of_some _ (s1.extBut b o hb e)
 rw [← q2] at e2
 show wpAny _ _ (Builtin.Dict_items.ownedTupleIsFree (.ref it) >>= _) _ _ { s with heap:=h1.push { cls:=.type "tuple",data:=.seq #[en.key,en.val] } }
 rw [← q2]
 show wpAny _ _ (_ >>= fun _=>_) _ _ _
 rw [z1]
 refine wpAny_bind ?_
 unfold Builtin.Dict_items.ownedTupleIsFree
 refine wpAny_bind (wpAny_field e2 rfl (x:=.none) rfl (wpAny_pure ?_))
 simp only [if_true]
 refine wpAny_bind (wpAny_field e2 rfl (x:=ok) rfl (wpAny_bind (wpAny_field e2 rfl (x:=ov) rfl ?_)))
 refine wpAny_bind (wpAny_setField_rec e2 (by simp) fun h3 e3 s3=>?_)
 replace s3 : Heap.SameBut it h2 h3:=s3
 replace e3 : IsItemIter h3 it d (i + 1) n ep en.key ov:=e3
 refine wpAny_bind (wpAny_setField_rec e3 (by simp) fun h4 e4 s4=>?_)
 replace s4 : Heap.SameBut it h3 h4:=s4
 replace e4 : IsItemIter h4 it d (i + 1) n ep en.key en.val:=e4
 refine wpAny_bind (wpAny_setField_rec e4 (by simp) fun h5 e5 s5=>?_)
 replace s5 : Heap.SameBut it h4 h5:=s5
 replace e5 : IsItemIterOut h5 it d (i + 1) n ep en.key en.val s.heap.objs.size:=e5
 refine wpAny_bind (wpAny_setField_rec e5 (by simp) fun h6 e6 s6=>?_)
 replace s6 : Heap.SameBut it h5 h6:=s6
 replace e6 : IsItemIterOut h6 it d (i + 1) n ep en.key en.val s.heap.objs.size:=e6
 have kp : ∀ b o,b ≠ it → h2.get? b = some o → h6.get? b = some o:=fun b o hb e=>s6.extBut b o hb (s5.extBut b o hb (s4.extBut b o hb (s3.extBut b o hb e)))
 refine wpAny_bind (wpAny_letGo (wpAny_pure (wpAny_pure ⟨_,rfl,wpAny_pure (hQ h6 e6 (kp _ _ (Nat.ne_of_gt lt) t2) ?_ fun b o hb e=>kp b o hb (k2 b o hb e))⟩)))
 show h6.objs.size = s.heap.objs.size + 1
 rw [s6.1,s5.1,s4.1,s3.1,z2]
theorem J6r {it d : Addr} {i n ep : Nat} {ok ov : Value} {od : Obj} {es : Array DictEntry} {Q : Option Value → Shared → Prop} (hh : A.handled = none) (hit : IsItemIter s.heap it d i n ep ok ov)
  (hod : s.heap.get? d = some od) (hdd : od.data = .dict es ep) (hsz : es.size = n) (hx : n ≤ i)
  (hQ : ∀ h',Heap.ExtBut it s.heap h' → Q none { s with heap:=h' }) : wpAny (model P w) A (pyNext (.ref it)) Q E s:=by
 have T0 : s.TypeIs (.ref it) "dict_itemiterator":=⟨_,hit,rfl⟩
 have own : Builtin.Dict_items.ownsTuple "dict_itemiterator" = true:=by decide
 unfold pyNext
 refine wpAny_bind (wpAny_attempt (wpAny_callSpecial?_slot (name:=Str.ofString "__next__") T0 F.slot_dict_itemiterator_next (wpAny_call_entry F.slot_dict_itemiterator_next T0 F.entry_dict_itemiterator_next ?_ (F.args_dict_itemiterator_next_1 _))))
 refine wpAny_bind (wpAny_pure (wpAny_bind (wpAny_bind ?_)))
 first | refine wpAny_bind (wpAny_typeNameOfWhole_itemiter T0 (wpAny_pure ?_)) | refine wpAny_bind (wpAny_typeNameOf_itemiter T0 (wpAny_pure ?_))
 refine wpAny_bind (wpAny_fieldsOf hit rfl ?_)
 simp only [own,if_true]
 show wpAny _ _ (if (Value.ref d == Value.none) = true then _ else _) _ _ s
 rw [if_neg (show ¬ (Value.ref d == Value.none) = true from fun z=>nomatch z)]
 refine wpAny_bind (wpAny_pure (wpAny_bind (wpAny_dictEntries hod hdd ?_)))
 rw [if_neg (by rw [hsz]; simp)]
 refine wpAny_bind (wpAny_pure (wpAny_bind (wpAny_dictEpoch hod hdd ?_)))
 rw [if_neg (by simp)]
 refine wpAny_pure ?_
 have hge : es.size ≤ i:=by rw [hsz]; exact hx
 simp only [show ¬ ((i : Int) < 0) from by omega,if_false,Int.toNat_natCast,Array.getElem?_eq_none hge]
 refine wpAny_bind ?_
 first | refine wpAny_bind (wpAny_typeNameOfWhole_itemiter T0 (wpAny_pure ?_)) | refine wpAny_bind (wpAny_typeNameOf_itemiter T0 (wpAny_pure ?_))
 show wpAny _ _ (setField (.ref it) 2 .none >>= _) _ _ s
 refine wpAny_bind (wpAny_setField hit rfl (by simp) ?_)
 show wpAny _ _ (newExc (.type "StopIteration") [] >>= _) _ _ _
 refine wpAny_bind ?_
 simp only [newExc,newTuple]
 refine wpAny_bind (wpAny_newObj_type ?_ (by size_fits))
 refine wpAny_bind (m:=firstArgMember _ _) (wpAny_of_eq (a:=Value.none) (by first | rfl | (simp only [firstArgMember]; rfl)) ?_)
 refine wpAny_newObj_type ?_ (by size_fits)
 simp only [raiseNew]
 refine wpAny_bind (wpAny_handled ?_)
 rw [show A.in1.handled = none from hh]
 refine wpAny_bind (wpAny_pure (wpAny_throw ?_))
 refine wpAny_bind (wpAny_isInstance (T:="StopIteration") (b:=true) ⟨_,Heap.get?_push_size _ rfl,rfl⟩ isSubtype_stop ?_)
 exact wpAny_pure (hQ _ (((Heap.SameBut.update ..).extBut.push _).push _))
theorem J4K {d : Addr} (hd : (d == sysModules) = false) : MeetsIn P w (Builtin.«dict.items» ⟨[.ref d],[]⟩) (fun _ R s=>s.TypeIs (.ref d) "dict" ∧
   R (.ok (.ret (.ref s.heap.objs.size))) { s with heap:=s.heap.push { cls:=.type "dict_items",data:=.fields #[.ref d] } }) :=
 .of_wp fun A R s ⟨hT,h⟩=>by
  unfold Builtin.«dict.items»
  refine wpAny_bind ?_
  unfold Builtin.Dict.noArgs
  refine wpAny_bind (wpAny_notOrdered_dict hT ?_)
  show wpAny _ _ (pure d) _ _ s
  refine wpAny_pure ?_
  show wpAny _ _ (Builtin.Dict.showsAll d >>= _) _ _ s
  unfold Builtin.Dict.showsAll
  rw [if_neg (by rw [hd]; exact Bool.false_ne_true)]
  exact wpAny_bind (wpAny_pure (wpAny_bind (wpAny_newObj_type (wpAny_pure ⟨_,rfl,h⟩))))
theorem J6p {v d : Addr} {od : Obj} {es : Array DictEntry} {n ep : Nat} {Q : Value → Shared → Prop} (hv : s.heap.IsItemsView v d) (hod : s.heap.get? d = some od) (hdd : od.data = .dict es ep) (hsz : es.size = n)
  (hQ : Q (.ref s.heap.objs.size) { s with heap:=s.heap.push { cls:=.type "dict_itemiterator",data:=.fields #[.none,.bool false,.ref d,.int 0 0,.int n 0,.int ep 0,.none,.none] } }) :
  wpAny (model P w) A (pyIter (.ref v)) Q E s:=by
 obtain ⟨ov,hov,hcv,hdv⟩:=id hv
 have own : Builtin.Dict_items.ownsTuple "dict_itemiterator" = true:=by decide
 refine wpAny_pyIter_slot hv.typeIs F.slot_dict_items_iter (wpAny_call_entry F.slot_dict_items_iter hv.typeIs F.entry_dict_items_iter ?_ (F.args_dict_items_iter_1 _))
 unfold Builtin.«dict_items.__iter__»
 refine wpAny_bind (wpAny_pure (wpAny_bind ?_))
 unfold Builtin.Dict_items.dictOf
 refine wpAny_bind (wpAny_field hov hdv (x:=.ref d) rfl (wpAny_pure (wpAny_bind ?_)))
 unfold Builtin.Dict_items.newIterator
 refine wpAny_bind (wpAny_dictEntries hod hdd (wpAny_bind (wpAny_dictEpoch hod hdd ?_)))
 simp only [own,if_true]
 refine wpAny_newObj_type (wpAny_pure ⟨_,rfl,"dict_itemiterator",_,⟨_,Heap.get?_push_size _ rfl,rfl⟩,F.slot_dict_itemiterator_next.lookup,?_⟩)
  (by simp only [sizeOk,Builtin.Dict_items.ownedTupleFields,List.size_toArray,List.length_append,List.length_cons,List.length_nil,sizeLine_eq]; omega)
 simpa [rawInt,hsz,Builtin.Dict_items.ownedTupleFields] using hQ
end
section
variable {X : Cx} {P : Program} {w : World} {es : List Expr} {k : Nat} {tpos apos cpos : Pos} {o : Expr} {td : TE}
end
section
variable {X : Cx} {P : Program} {w : World} {pos : Pos} {k v : Expr} {tk tv : TE}
end
end L2
set_option linter.all false
set_option maxRecDepth 100000
set_option maxHeartbeats 4000000
namespace L2
open PySem PySem.Spec PyProof.Rows
section
variable {prog : Program} {w : World} {K : Type} [DecidableEq K] {knd : KeyKind prog w K} {A : Around} {E : Value → Shared → Prop} {s : Shared}
noncomputable def J0N (h h' : Heap) : Prop:=∀ b o,h.get? b = some o → h'.get? b = some o
theorem J7T {R : Result → Shared → Prop} {d q I S : Addr} {kvs : List (K × Value)} {ep : Nat} (kf : Nat → Int) (hh : A.handled = none) (hne : d ≠ I) (hSI : S ≠ I) (hSd : S ≠ d)
  (turn : ∀ (i : Nat) (v : Value),(∃ k x,kvs[i]? = some (k,x) ∧ knd.is k v = true) → ∀ (h : Heap) (tk : Nat),J0N s.heap h →
   wpAny (model prog w) A.in1 (call (.ref q) [v]) (fun x s''=>∃ h2 tk2 t2,x = .int (kf i) t2 ∧ s'' = { s with heap:=h2,toks:=tk2 } ∧ J0N h h2) (fun _ _=>False) { s with heap:=h,toks:=tk })
  (hI : s.heap.get? I = none) (hS : s.heap.get? S = none)
  (hR : ∀ i v h' tk',(∃ k x,kvs[i]? = some (k,x) ∧ knd.is k v = true) → (∀ j,j < kvs.length → kf i ≤ kf j) → J0N s.heap h' → R (.ok (.ret v)) { s with heap:=h',toks:=tk' }) :
  ∀ (r j i : Nat) (h : Heap) (tk : Nat) (vb : Value) (tb : Tok) (c : Nat),kvs.length - (j + 1) = r → j + 1 ≤ kvs.length → J0N s.heap h → h.get? S = some (seqObj "list" #[vb,.int (kf i) tb] c) →
   (h.IsKeyIter I d (j + 1) kvs.length ep ∧ h.DictAt knd d kvs ep) → (∃ k x,kvs[i]? = some (k,x) ∧ knd.is k vb = true) → i ≤ j → (∀ j',j' ≤ j → kf i ≤ kf j') →
   codeAny (model prog w) A (.builtin "min.loop" ⟨[.ref I,.ref q,.ref S],[]⟩) R { s with heap:=h,toks:=tk }:=by
 have hname : (toString "min" ++ toString ".loop" : String) = "min.loop":=by decide
 have W:=Walks.dictKeys (prog:=prog) (w:=w) (A:=A.in1) (knd:=knd) hh I d hne kvs ep
 have kept_at : ∀ {h h' : Heap} {x : Addr},J0N s.heap h → s.heap.get? x = none → (∀ b o,b ≠ x → h.get? b = some o → h'.get? b = some o) → J0N s.heap h':=fun {h h' x} k n e b o eb=>e b o (fun z=>by rw [z,n] at eb; cases eb) (k b o eb)
 intro r
 induction r with
 | zero =>
  intro j i h tk vb tb c hr hj hk hSo hst hvb hij hbest
  have hin : j + 1 = kvs.length:=by omega
  refine codeAny_builtin PySem.F.entry_min_loop ?_
  rw [Around.under_plainId PySem.F.plain_min_loop _]
  show wpAny _ A.in1 (seqItems? (.ref S) >>= _) _ _ _
  refine wpAny_bind (wpAny_seqItems hSo rfl ?_)
  show wpAny _ A.in1 (tryCatch (pyNext (.ref I)) _ >>= _) _ _ _
  refine wpAny_bind (wpAny_tryCatch (W.done _ _ _ (by rw [hin] at hst; exact hst) fun h' tk' hk'=>?_))
  have k1 : J0N s.heap h':=kept_at hk hI fun b o n e=>hk' b o (by simpa using n) e
  have hS':=hk' S _ (by simpa using hSI) hSo
  have s1:=Heap.SameBut.update h' S (Obj.mapSeq fun _=>(#[] : Array Value))
  show wpAny _ A.in1 (updateSeq S (fun _=>#[]) >>= _) _ _ _
  refine wpAny_bind ?_
  refine wpAny_updateSeq hS' rfl (wpAny_bind (wpAny_letGo (wpAny_pure ?_)))
  exact hR i vb _ _ hvb (fun j' hj'=>hbest j' (by omega)) (kept_at k1 hS fun b o n e=>s1.extBut b o n e)
 | succ r ih =>
  intro j i h tk vb tb c hr hj hk hSo hst hvb hij hbest
  have hlt : j + 1 < kvs.length:=by omega
  refine codeAny_builtin PySem.F.entry_min_loop ?_
  rw [Around.under_plainId PySem.F.plain_min_loop _]
  show wpAny _ A.in1 (seqItems? (.ref S) >>= _) _ _ _
  refine wpAny_bind (wpAny_seqItems hSo rfl ?_)
  show wpAny _ A.in1 (tryCatch (pyNext (.ref I)) _ >>= _) _ _ _
  refine wpAny_bind (wpAny_tryCatch (W.item (j + 1) _ _ _ hlt hst fun v h' tk' hP hst' hk'=>?_))
  have k1 : J0N s.heap h':=kept_at hk hI fun b o n e=>hk' b o (by simpa using n) e
  have hS':=hk' S _ (by simpa using hSI) hSo
  show wpAny _ A.in1 (tryCatch (holding [v] (call (.ref q) [v])) _ >>= _) _ _ _
  refine wpAny_bind (wpAny_tryCatch (wpAny_holding (wpAny_mono (turn (j + 1) v hP h' tk' k1) (fun x s'' he=>?_) fun _ _ hF=>hF.elim)))
  obtain ⟨h2,tk2,t2,rfl,rfl,kk⟩:=he
  have k2 : J0N s.heap h2:=fun b o e=>kk b o (k1 b o e)
  have hS2:=kk _ _ hS'
  have hst2 : h2.IsKeyIter I d (j + 1 + 1) kvs.length ep ∧ h2.DictAt knd d kvs ep:=W.frame _ _ _ hst' fun b _ o e=>kk b o e
  show wpAny _ A.in1 (tryCatch (holding [v,.int (kf (j + 1)) t2] (richCompare .Lt (.int (kf (j + 1)) t2) (.int (kf i) tb) >>= _)) _ >>= _) _ _ _
  refine wpAny_bind (wpAny_tryCatch (wpAny_holding (wpAny_bind (CmpOf.ints_lt (prog:=prog) (w:=w) (A:=A.in1) (P:=fun i v=>∃ t,v = .int (kf i) t) kf (fun i v h=>h) (j + 1) i _ _ _ _ _ ⟨t2,rfl⟩ ⟨tb,rfl⟩ ?_))))
  refine wpAny_bind (wpAny_holding (wpAny_truthy_bool ?_))
  refine wpAny_bind (wpAny_letGo (wpAny_pure ?_))
  by_cases hb' : kf (j + 1) < kf i
  ·have s1:=Heap.SameBut.update h2 S (Obj.mapSeq fun _=>#[v,.int (kf (j + 1)) t2])
   obtain ⟨c2,hc2⟩ : ∃ c2,(h2.update S (Obj.mapSeq fun _=>#[v,.int (kf (j + 1)) t2])).get? S = some (seqObj "list" #[v,.int (kf (j + 1)) t2] c2):=⟨_,get?_update_seq hS2 fun _=>#[v,.int (kf (j + 1)) t2]⟩
   simp only [hb',decide_true,if_true]
   refine wpAny_bind ?_
   refine wpAny_updateSeq hS2 rfl (wpAny_bind (wpAny_letGo ?_))
   rw [hname]
   refine wpAny_pure ⟨plainId_quiet PySem.F.plain_min_loop _,ih (j + 1) (j + 1) _ _ v t2 c2 (by omega) hlt (kept_at k2 hS fun b o n e=>s1.extBut b o n e) hc2 (W.frame _ _ _ hst2 fun b hb o e=>s1.extBut b o (fun z=>?_) e) hP (Nat.le_refl _) fun j' hj'=>?_⟩
   ·rcases List.mem_cons.mp hb with y | y
    ·exact hSI (z.symm.trans y)
    ·exact hSd (z.symm.trans (List.mem_singleton.mp y))
   ·by_cases e : j' = j + 1
    ·rw [e]; exact Int.le_refl _
    ·have:=hbest j' (by omega)
     omega
  ·simp only [hb',decide_false,Bool.false_eq_true,if_false]
   refine wpAny_bind (wpAny_letGo ?_)
   rw [hname]
   refine wpAny_pure ⟨plainId_quiet PySem.F.plain_min_loop _,ih (j + 1) i _ _ vb tb c (by omega) hlt k2 hS2 hst2 hvb (by omega) fun j' hj'=>?_⟩
   by_cases e : j' = j + 1
   ·rw [e]; omega
   ·exact hbest j' (by omega)
theorem J85 {Q : Value → Shared → Prop} {d q : Addr} {kvs : List (K × Value)} (kf : Nat → Int) (hh : A.handled = none) (hd : (d == sysModules) = false) (hm : s.heap.DictOf knd d kvs) (hn : 0 < kvs.length)
  (turn : ∀ (i : Nat) (v : Value),(∃ k x,kvs[i]? = some (k,x) ∧ knd.is k v = true) → ∀ (h : Heap) (tk : Nat),J0N s.heap h →
   wpAny (model prog w) A.in1 (call (.ref q) [v]) (fun x s''=>∃ h2 tk2 t2,x = .int (kf i) t2 ∧ s'' = { s with heap:=h2,toks:=tk2 } ∧ J0N h h2) (fun _ _=>False) { s with heap:=h,toks:=tk })
  (hQ : ∀ i v h' tk',(∃ k x,kvs[i]? = some (k,x) ∧ knd.is k v = true) → (∀ j,j < kvs.length → kf i ≤ kf j) → J0N s.heap h' → Q v { s with heap:=h',toks:=tk' }) :
  wpAny (model prog w) A (call (.builtin "min") [.ref d] [(Str.ofString "key",.ref q)]) Q E s:=by
 have hname : (toString "min" ++ toString ".loop" : String) = "min.loop":=by decide
 have hdl : d < s.heap.objs.size:=by
  obtain ⟨o,ho,_⟩:=Heap.dictOf_iff.mp hm
  exact Heap.lt_size ho
 refine kmk_tree PySem.F.kind_min PySem.F.plain_min PySem.F.entry_min (kmk_min_key _ _) ?_
 show wpAny _ A.in1 (Builtin.Builtins.bindParams "min" ["key","default"] 0 ⟨[],[(Str.ofString "key",.ref q)]⟩ >>= _) _ _ s
 refine wpAny_bind (wpAny_of_eq (show Builtin.Builtins.bindParams "min" ["key","default"] 0 ⟨[],[(Str.ofString "key",.ref q)]⟩ = pure [some (.ref q),none] from rfl) ?_)
 refine wpAny_bind (wpAny_pure ?_)
 obtain ⟨ep,hat⟩:=hm.dictAt
 refine wpAny_bind (wpAny_pyIter_dict hd hat ?_)
 refine wpAny_bind (wpAny_newList ?_ (Nat.zero_le _))
 rw [hname]
 generalize hH1 : s.heap.push { cls:=.type "dict_keyiterator",data:=.fields #[.ref d,.int 0 0,.int kvs.length 0,.int ep 0] } = H1
 have hs1 : H1.objs.size = s.heap.objs.size + 1:=by rw [← hH1,Heap.size_push]
 have hdI : d ≠ s.heap.objs.size:=Nat.ne_of_lt hdl
 have hSI : H1.objs.size ≠ s.heap.objs.size:=by rw [hs1]; omega
 have hSd : H1.objs.size ≠ d:=by rw [hs1]; exact Nat.ne_of_gt (Nat.lt_succ_of_lt hdl)
 have nI : s.heap.get? s.heap.objs.size = none:=Heap.get?_none_of_le (Nat.le_refl _)
 have nS : s.heap.get? H1.objs.size = none:=Heap.get?_none_of_le (by rw [hs1]; omega)
 generalize hH2 : H1.push (seqObj "list" #[] 0) = H2
 have keep1 : J0N s.heap H1:=fun b o e=>by rw [← hH1]; exact Heap.get?_push_of_some _ e
 have keep2 : J0N H1 H2:=fun b o e=>by rw [← hH2]; exact Heap.get?_push_of_some _ e
 have keep : J0N s.heap H2:=fun b o e=>keep2 b o (keep1 b o e)
 have gS : H2.get? H1.objs.size = some (seqObj "list" #[] 0):=by rw [← hH2]; exact Heap.get?_push_size _ rfl
 have hit : H2.IsKeyIter s.heap.objs.size d 0 kvs.length ep:=⟨_,keep2 _ _ (by rw [← hH1]; exact Heap.get?_push_size _ rfl),rfl,rfl⟩
 have hat2 : H2.DictAt knd d kvs ep:=hat.at' fun o e=>keep _ _ e
 have W:=Walks.dictKeys (prog:=prog) (w:=w) (A:=A.in1) (knd:=knd) hh s.heap.objs.size d hdI kvs ep
 refine wpAny_pure ⟨plainId_quiet PySem.F.plain_min_loop _,?_⟩
 refine codeAny_builtin PySem.F.entry_min_loop ?_
 rw [Around.under_plainId PySem.F.plain_min_loop _]
 show wpAny _ A.in1 (seqItems? (.ref _) >>= _) _ _ _
 refine wpAny_bind (wpAny_seqItems gS rfl ?_)
 show wpAny _ A.in1 (tryCatch (pyNext (.ref s.heap.objs.size)) _ >>= _) _ _ _
 refine wpAny_bind (wpAny_tryCatch (W.item 0 _ _ _ hn ⟨hit,hat2⟩ fun v h' tk' hP hst' hk'=>?_))
 have k1 : J0N s.heap h':=fun b o e=>hk' b o (by simpa using (show b ≠ s.heap.objs.size from Nat.ne_of_lt (Heap.lt_size e))) (keep b o e)
 have hS':=hk' H1.objs.size _ (by simpa using hSI) gS
 show wpAny _ A.in1 (tryCatch (holding [v] (call (.ref q) [v])) _ >>= _) _ _ _
 refine wpAny_bind (wpAny_tryCatch (wpAny_holding (wpAny_mono (turn 0 v hP h' tk' k1) (fun x s'' he=>?_) fun _ _ hF=>hF.elim)))
 obtain ⟨h2,tk2,t2,rfl,rfl,kk⟩:=he
 have k2 : J0N s.heap h2:=fun b o e=>kk b o (k1 b o e)
 have hS2:=kk _ _ hS'
 have hst2 : h2.IsKeyIter s.heap.objs.size d (0 + 1) kvs.length ep ∧ h2.DictAt knd d kvs ep:=W.frame _ _ _ hst' fun b _ o e=>kk b o e
 have s1:=Heap.SameBut.update h2 H1.objs.size (Obj.mapSeq fun _=>#[v,.int (kf 0) t2])
 obtain ⟨c2,hc2⟩ : ∃ c2,(h2.update H1.objs.size (Obj.mapSeq fun _=>#[v,.int (kf 0) t2])).get? H1.objs.size = some (seqObj "list" #[v,.int (kf 0) t2] c2):=⟨_,get?_update_seq hS2 fun _=>#[v,.int (kf 0) t2]⟩
 show wpAny _ A.in1 (updateSeq H1.objs.size (fun _=>#[v,.int (kf 0) t2]) >>= _) _ _ _
 refine wpAny_bind ?_
 refine wpAny_updateSeq hS2 rfl ?_
 rw [hname]
 refine wpAny_pure ⟨plainId_quiet PySem.F.plain_min_loop _,J7T (knd:=knd) kf hh hdI hSI hSd turn nI nS hQ _ 0 0 _ _ v t2 c2 rfl hn ?_ hc2 (W.frame _ _ _ hst2 fun b hb o e=>s1.extBut b o (fun z=>?_) e) hP (Nat.le_refl _) fun j' hj'=>?_⟩
 ·exact fun b o e=>s1.extBut b o (fun z=>by rw [z,nS] at e; cases e) (k2 b o e)
 ·rcases List.mem_cons.mp hb with y | y
  ·exact hSI (z.symm.trans y)
  ·exact hSd (z.symm.trans (List.mem_singleton.mp y))
 ·obtain rfl : j' = 0:=by omega
  exact Int.le_refl _
end
section
variable {prog : Program} {w : World} {A : Around} {E : Value → Shared → Prop} {s : Shared}
theorem Ja4 {Q : Value → Shared → Prop} {f cc d c' : Addr} {name qual dn xn : Str} {params : Arguments} {scope : Scope} {cl : List (Str × Addr)} {pm ctv u v : Value} {p1 p2 p3 : Pos} {k : Key} {vs : List (Key × Value)}
  (hroom : A.depth < recursionLimit) (hlim : s.heap.NoLimit) (ho : s.heap.get? f = some (PySem.W.kla_obj name qual params (.Subscript (.Name dn p1) (.Name xn p2) p3) scope cl pm c' ctv)) (hcd : s.heap.CodeRec (.ref c') qual)
  (hbind : bindArgs (PySem.W.kla_fn name qual params (.Subscript (.Name dn p1) (.Name xn p2) p3) scope cl pm (.ref c') ctv) ⟨[u],[]⟩ = pure [(xn,u)])
  (hco : scope.isCoroutine = false) (hgen : scope.isGenerator = false) (hk : scope.kind = .function) (hcell : ∀ x ∈ scope.names,x.2 ≠ .cell) (hx : scope.names.lookup xn = some .local) (hd : scope.names.lookup dn = some .free)
  (hcl : cl.lookup dn = some cc) (hc : s.heap.IsCell cc (some (.ref d))) (dd : s.heap.DictOf (JG prog w) d vs) (hu : (JG prog w).is k u = true) (hv : valueAt vs k = some v)
  (hQ : ∀ h' tk,J0N s.heap h' → Q v { s with heap:=h',toks:=tk })
  (n1 : (dn == ("__debug__" : Str)) = false:=by decide) (n2 : (dn == ("__classdict__" : Str)) = false:=by decide) (n3 : (xn == ("__debug__" : Str)) = false:=by decide) : wpAny (model prog w) A (call (.ref f) [u]) Q E s:=by
 refine wpAny_call (PySem.W.kla_callFunE hroom ho rfl hco hgen rfl hcd ?_)
 rw [hbind]
 refine wpAny_pure (wpAny_newFunctionEnv hcell (fun y hy=>by rw [List.mem_singleton.mp hy]; exact hx) (fun h₁ hns hsb=>?_) hk)
 have kp : J0N s.heap h₁:=fun b o e=>hsb.extBut b o (Nat.ne_of_lt (Heap.lt_size e)) (Heap.get?_push_of_some _ e)
 refine ⟨hlim.keeps kp,?_⟩
 show codeAny _ _ (.expr _ (PySem.W.envX qual scope s.heap.objs.size f (.ref c') cl)) _ _
 refine PySem.W.kla_codeExpr (J6N PySem.F.slot_dict_getitem.lookup (fun _ _=>rfl) ?_)
 have hc1 : h₁.IsCell cc (some (.ref d)):=by
  obtain ⟨o,h1,h2⟩:=hc
  exact ⟨o,kp _ _ h1,h2⟩
 refine wpAny_Name (wpAny_loadName_free hk hd hcl hc1 ?_ n2) n1
 refine wpAny_Name (wpAny_loadName_local hk hx hns (show List.lookup xn [(xn,u)] = some u by rw [List.lookup_cons,beq_self_eq_true]) ?_) n3
 have dd1:=dd.keep kp
 exact ⟨dd1.typeIs,wpAny_getItem_of hu dd1.mapOf hv (hQ _ _ kp)⟩
end
noncomputable def J35 (c' : Addr) (qual : Str) : HO:=.ext fun h=>h.CodeRec (.ref c') qual
noncomputable def JU (H : Hp) (T : Addr) (pos : Pos) (qual : Str) : Prop:=∃ ps,H T = some (.tbl ps) ∧ TriplesOk ps.toList ∧ (codeAmong pos ps.toList = none ∨ ∃ c',codeAmong pos ps.toList = some (.ref c') ∧ H c' = some (J35 c' qual))
section
variable {X : Cx} {pins : List (Addr × Obj)} {σ : St} {H : Hp} {s : Shared}
theorem Inv.grew {h' : Heap} {t' : Nat} {T c' : Addr} {ps more : Array Value} {qual : Str} (I : Inv X pins σ H s) (hT : H T = some (.tbl ps)) (k : ∀ b o,b ≠ T → s.heap.get? b = some o → h'.get? b = some o) (hT' : h'.get? T = some { cls:=.none,data:=.fields (ps ++ more) })
  (hc : s.heap.objs.size ≤ c') (hr : h'.CodeRec (.ref c') qual) : Inv X pins σ (upd (upd H T (.tbl (ps ++ more))) c' (J35 c' qual)) { s with heap:=h',toks:=t' }:=by
 have hTl : T < s.heap.objs.size:=Heap.lt_size (show s.heap.get? T = some _ from I.hok T _ hT)
 have ncT : c' ≠ T:=Nat.ne_of_gt (Nat.lt_of_lt_of_le hTl hc)
 have hcn : H c' = none:=I.hok.fresh hc
 have at' : ∀ b,b ≠ T → b ≠ c' → upd (upd H T (.tbl (ps ++ more))) c' (J35 c' qual) b = H b:=fun b n1 n2=>by rw [J7 n2,J7 n1]
 have nT : ∀ b,H b = none → b ≠ T:=fun b n z=>by rw [z,hT] at n; cases n
 have nT2 : ∀ b u,H b = some u → (∀ ps,u ≠ .tbl ps) → b ≠ T:=fun b u e n z=>by rw [z,hT] at e; exact n _ (Option.some.inj e).symm
 have nc2 : ∀ b u,H b = some u → b ≠ c':=fun b u e z=>by rw [z,hcn] at e; cases e
 refine I.un ⟨fun b o e n _ _=>k b o (nT b n) e,fun b o e n _ _=>⟨o.slots,k b o (nT b n) e⟩,fun b o e n _=>?_,fun b o e _=>?_,fun b xs e=>?_,fun b o u e=>?_,fun b qs e=>?_⟩ fun b u e=>?_
 ·rw [at' b (nT b n) (Nat.ne_of_lt (Nat.lt_of_lt_of_le (Heap.lt_size e) hc))]
  exact n
 ·by_cases z : b = T
  ·rw [z]; exact ⟨_,hT'⟩
  ·exact ⟨o,k b o z e⟩
 ·rw [at' b (nT2 b _ e fun _ z=>by cases z) (nc2 b _ e)]
  exact e
 ·rw [at' b (nT2 b _ e fun _ z=>by cases z) (nc2 b _ e)]
  exact e
 ·by_cases z : b = T
  ·rw [z,hT] at e
   cases e
   exact ⟨more,by rw [z,J7 ncT.symm,Jc]⟩
  ·exact ⟨#[],by rw [at' b z (nc2 b _ e),e]; simp⟩
 ·by_cases z1 : b = c'
  ·subst z1
   rw [Jc] at e
   obtain rfl : J35 b qual = u:=Option.some.inj e
   refine ⟨hr,?_,fun h1 h2 hp kk=>?_⟩
   ·obtain ⟨c,o,vs,t,e1,e2,_⟩:=hr
    cases e1
    exact ⟨o,e2⟩
   ·obtain ⟨c,o,vs,t,e1,e2,e3⟩:=hp
    cases e1
    exact ⟨_,o,vs,t,rfl,kk o e2,e3⟩
  ·by_cases z2 : b = T
   ·subst z2
    rw [J7 z1,Jc] at e
    obtain rfl : HO.tbl (ps ++ more) = u:=Option.some.inj e
    exact hT'
   ·rw [at' b z2 z1] at e
    refine (I.hok b u e).stay (fun c v hcc q=>k c v ?_ q) (fun c q=>?_) fun c xs q=>?_
    ·rintro rfl
     rcases hcc with y | y
     ·exact z2 y.symm
     ·rw [hT] at y; cases y
    ·rw [at' c (nT2 c _ q fun _ z=>by cases z) (nc2 c _ q)]; exact q
    ·rw [at' c (nT2 c _ q fun _ z=>by cases z) (nc2 c _ q)]; exact q
end
noncomputable def LamO (cells : List (Str × Addr)) (f c' : Addr) (qual : Str) (args : Arguments) (body : Expr) (scope : Scope) : HO :=
 .ext fun h=>∃ cl pm ctv,h.get? f = some (PySem.W.kla_obj "<lambda>" qual args body scope cl pm c' ctv) ∧ ∀ y ∈ scope.names,y.2 = .free → cl.lookup y.1 = cells.lookup y.1
noncomputable def tLam (T : Addr) (pos : Pos) (qual : Str) (cells : List (Str × Addr)) (args : Arguments) (body : Expr) (scope : Scope) : TE:=fun σ H Q=>JU H T pos qual ∧
 ∀ f c' H',(∀ a o,a ≠ T → H a = some o → H' a = some o) → JU H' T pos qual → H' c' = some (J35 c' qual) → H' f = some (LamO cells f c' qual args body scope) → Q (.ref f) H'
section
variable {X : Cx} {args : Arguments} {body : Expr} {scope : Scope} {pos : Pos} {c T : Addr}
theorem JbF (hdef : defaultsOf args X.env = ([],[])) (hcode : X.env.code = .ref c) (C : PySem.W.CodeHd X.base c T) (hb : X.base.BuiltinsAt X.mg T) (cs : ∀ y ∈ scope.names,y.2 = .free → X.env.scope.names.lookup y.1 = some .cell ∨ X.env.scope.names.lookup y.1 = some .free) :
  PE X (.Lambda args body scope pos) (tLam T pos (X.env.qual ++ "<lambda>") X.env.cells args body scope):=by
 intro pins s σ H Q I h
 obtain ⟨⟨ps,hT,ht,hcase⟩,q⟩:=h
 obtain ⟨cl,hcl,cl1,cl2⟩:=J1v (scope:=scope) (env:=X.env) fun y hy hf=>I.ok.has y.1 (cs y hy hf)
 refine PySem.W.kla_eval hdef ?_
 have hP : s.heap.get? T = some (PySem.W.tabObj ps):=I.hok T _ hT
 have hg:=I.mod.glob.keeps I.bk
 have hC:=C.keeps I.bk
 have hgP : mainGlobals ≠ T:=fun z=>by
  obtain ⟨o,es,ep,e,_⟩:=I.mod.glob
  have:=(I.bs _ _ e).2
  rw [z,hT] at this
  cases this
 have hbs : s.heap.BuiltinsAt X.mg T:=by
  obtain ⟨bm,o,b1,b2,b3,b4,b5,b6⟩:=hb
  exact ⟨bm,o,b1,b2,b3,b4,I.bk _ _ b5,b6⟩
 have lam : ∀ {H1 : Hp} {h1 : Heap} {t : Nat} {c' : Addr} {cv ctv : Value},cv = .ref c' → Inv X pins σ H1 { s with heap:=h1,toks:=t } →
   Inv X pins σ (upd H1 h1.objs.size (LamO X.env.cells h1.objs.size c' (X.env.qual ++ "<lambda>") args body scope)) { s with heap:=h1.push { cls:=.type "function",data:=.func (PySem.W.kla_fn "<lambda>" (X.env.qual ++ "<lambda>") args body scope cl ((X.mg "__name__").getD .none) cv ctv) },toks:=t }:=fun {H1 h1 t c' cv ctv} ec J=>by
  subst ec
  refine J.laid (s:={ s with heap:=h1,toks:=t }) (fun b u e=>Heap.get?_push_of_some _ e) (Nat.le_refl _) ⟨⟨cl,_,ctv,Heap.get?_push_size _ rfl,cl1⟩,⟨_,Heap.get?_push_size _ rfl⟩,fun h1 h2 ⟨cl',pm',ctv',e,r⟩ kk=>⟨cl',pm',ctv',kk _ e,r⟩⟩
 rcases hcase with hnf | ⟨c0,hf,hc0⟩
 ·refine PySem.W.kla_makeFunction hcl I.ok.glob hg hcode hC hP ht hnf hgP hbs fun c' ctv h' tk hx hge hlt hrec htb=>?_
  have I1:=I.grew (h':=h') (t':=tk) hT (fun b o n e=>hx b o n e) htb hge hrec
  have I2:=lam (c':=c') (ctv:=ctv) rfl I1
  have hTl : T < s.heap.objs.size:=Heap.lt_size hP
  have nTc : T ≠ c':=Nat.ne_of_lt (Nat.lt_of_lt_of_le hTl hge)
  have nTf : T ≠ h'.objs.size:=Nat.ne_of_lt (Nat.lt_trans (Nat.lt_of_lt_of_le hTl hge) hlt)
  have ncf : c' ≠ h'.objs.size:=Nat.ne_of_lt hlt
  have hc' : upd (upd (upd H T (.tbl (ps ++ #[rawInt pos.line,rawInt pos.col,.ref c']))) c' (J35 c' (X.env.qual ++ "<lambda>"))) h'.objs.size (LamO X.env.cells h'.objs.size c' (X.env.qual ++ "<lambda>") args body scope) c' = some (J35 c' (X.env.qual ++ "<lambda>")):=by rw [J7 ncf,Jc]
  refine ⟨.ref h'.objs.size,_,I2,rfl,q h'.objs.size c' _ (fun a o n e=>?_) ⟨ps ++ #[rawInt pos.line,rawInt pos.col,.ref c'],?_,?_,.inr ⟨c',?_,hc'⟩⟩ hc' Jc⟩
  ·have hal : a < s.heap.objs.size:=(I.hok a o e).lt
   rw [J7 (Nat.ne_of_lt (Nat.lt_trans (Nat.lt_of_lt_of_le hal hge) hlt)),J7 (Nat.ne_of_lt (Nat.lt_of_lt_of_le hal hge)),J7 n]
   exact e
  ·rw [J7 nTf,J7 nTc,Jc]
  ·have hl : (ps ++ #[rawInt pos.line,rawInt pos.col,Value.ref c']).toList = ps.toList ++ [rawInt pos.line,rawInt pos.col,.ref c']:=by simp
   rw [hl]
   exact TriplesOk_snoc _ _ _ _ ht
  ·have hl : (ps ++ #[rawInt pos.line,rawInt pos.col,Value.ref c']).toList = ps.toList ++ [rawInt pos.line,rawInt pos.col,.ref c']:=by simp
   rw [hl,codeAmong_snoc _ ht hnf]
 ·refine PySem.W.kla_makeFunctionHit hcl I.ok.glob hg hcode hC hP ht hf hbs fun ctv h' tk hk hsz=>?_
  have I1 : Inv X pins σ H { s with heap:=h',toks:=tk }:=I.kept (h':=h') (t':=tk) hk
  have I2:=lam (c':=c0) (ctv:=ctv) rfl I1
  have up : ∀ a o,H a = some o → upd H h'.objs.size (LamO X.env.cells h'.objs.size c0 (X.env.qual ++ "<lambda>") args body scope) a = some o:=fun a o e=>by
   rw [J7 (Nat.ne_of_lt (Nat.lt_of_lt_of_le (I.hok a o e).lt hsz))]
   exact e
  exact ⟨.ref h'.objs.size,_,I2,rfl,q h'.objs.size c0 _ (fun a o _ e=>up a o e) ⟨ps,up _ _ hT,ht,.inr ⟨c0,hf,up _ _ hc0⟩⟩ (up _ _ hc0) Jc⟩
end
noncomputable def tCBs (r : St → List V → List V → Hp → VK → Prop) (t tk : TA) : TE:=fun σ H Q=>t σ H fun vs H1=>tk σ H1 fun zs H2=>r σ vs zs H2 Q
noncomputable def J8J (X : Cx) (f : Value) (ks : List Str) (r : St → List V → List V → Hp → VK → Prop) : Prop:=∀ (pins : List (Addr × Obj)) (s : Shared) (σ : St) (H : Hp) (vs zs : List V) (us ws : List Value) (Q : VK),Inv X pins σ H s → Vals vs us → Vals zs ws → r σ vs zs H Q → wpAny (model X.prog X.w) X.A (call f us (ks.zip ws)) (EP X pins σ Q) X.xe s
section
variable {X : Cx}
theorem J81 {id : String} {ks : List Str} {r : St → List V → List V → Hp → VK → Prop} {x : Str} {e : Expr} {es : List Expr} {kws : List Keyword} {t tk : TA} {p pos : Pos} (hc : J8J X (.builtin id) ks r) (hg : Gl X x) (hm : X.mg x = none) (hv : bootBuiltins x = some (.builtin id)) (ha : PA X (e :: es) t) (hkw : PK X kws tk)
  (hall : (backToKw pos (keywordEach kws X.env)).all (·.1.isSome) = true:=by rfl) (hks : (backToKw pos (keywordEach kws X.env)).filterMap (·.1) = ks:=by rfl) (hn : x ≠ "__name__":=by decide)
  (hdb : (x == ("__debug__" : Str)) = false:=by decide) (he : starEach (e :: es) X.env = (false,eval e X.env) :: starEach es X.env:=by rfl)
  (hpl : ((backTo pos (starEach (e :: es) X.env)).any (·.1) || (backToKw pos (keywordEach kws X.env)).any (·.1.isNone)) = false:=by rfl) : PE X (.Call (.Name x p) (e :: es) kws pos) (tCBs r t tk):=by
 intro pins s σ H Q I h
 refine wpAny_Call_Name_kw (J2r I hg hm hv ?_ hn hdb)
 refine PySem.W.callWith_of (P:=fun _=>True) hpl (fun h _=>⟨Keeper.machine,.inr (.inl rfl),.now⟩) (evalArgs_kw2 hall (thn (ha pos pins s σ H _ I h) fun us s1 ⟨vs,H1,I1,r,q⟩=>thn (hkw pos pins s1 σ H1 _ I1 q) fun ws s2 ⟨zs,H2,I2,rz,q2⟩=>⟨True.intro,?_⟩) he)
 rw [hks]
 exact hc pins s2 σ H2 vs zs us ws Q I2 r rz q2
theorem J2z {α β : Type} {F : α → β → Prop} : ∀ {l₁ : List α} {l₂ : List β} {i : Nat} {b : β},Paired F l₁ l₂ → l₂[i]? = some b → ∃ a,l₁[i]? = some a ∧ F a b
 | _,_,_,_,.nil,e=>by simp at e
 | _,_,0,_,.cons r _,e=>by
  simp at e
  subst e
  exact ⟨_,rfl,r⟩
 | _,_,i + 1,_,.cons _ t,e=>by
  obtain ⟨a,h1,h2⟩:=J2z (i:=i) t (by simpa using e)
  exact ⟨a,by simpa using h1,h2⟩
noncomputable def numV (kvs : List (Key × V)) (j : Nat) : Int:=match kvs[j]? with
 | some (_,.int z)=>z
 | _=>0
theorem Jan {P : Program} {w : World} {k : Key} {u : Value} (h : (JG P w).is k u = true) : RelV (kV k) u:=by
 rcases JQ h with ⟨i,t,rfl,rfl⟩ | ⟨x,t,rfl,rfl⟩
 ·exact ⟨t,rfl⟩
 ·exact ⟨t,rfl⟩
theorem J5H {i : Nat} {dn xn : Str} {qual : Str} {args : Arguments} {scope : Scope} {p3 p4 p5 : Pos} (hcalm : X.calm = true) (hN : X.N[i]? = some dn) (hcv : X.env.scope.names.lookup dn = some .cell) (hroom : X.A.in1.depth < recursionLimit)
  (hbind : ∀ cl pm c' ctv u,bindArgs (PySem.W.kla_fn "<lambda>" qual args (.Subscript (.Name dn p3) (.Name xn p4) p5) scope cl pm (.ref c') ctv) ⟨[u],[]⟩ = pure [(xn,u)])
  (hco : scope.isCoroutine = false) (hgen : scope.isGenerator = false) (hk : scope.kind = .function) (hcell : ∀ x ∈ scope.names,x.2 ≠ .cell) (hx : scope.names.lookup xn = some .local) (hd : scope.names.lookup dn = some .free)
  (n1 : (dn == ("__debug__" : Str)) = false:=by decide) (n2 : (dn == ("__classdict__" : Str)) = false:=by decide) (n3 : (xn == ("__debug__" : Str)) = false:=by decide) :
  J8J X (.builtin "min") ["key"] (fun σ xs zs H Q=>∃ d f c' kvs,xs = [.ref d] ∧ zs = [.ref f] ∧ σ[i]? = some (some (.ref d)) ∧ H d = some (.dK kvs) ∧ H c' = some (J35 c' qual) ∧ H f = some (LamO X.env.cells f c' qual args (.Subscript (.Name dn p3) (.Name xn p4) p5) scope) ∧ 0 < kvs.length ∧ (∀ p ∈ kvs,∃ z,p.2 = .int z) ∧
   ∀ k z,(k,.int z) ∈ kvs → (∀ p ∈ kvs,∀ y,p.2 = .int y → z ≤ y) → Q (kV k) H):=by
 intro pins s σ H vs zs us ws Q I r rz h
 obtain ⟨d,f,c',kvs,rfl,rfl,hσ,hD,hC,hF,hl,hint,q⟩:=h
 obtain ⟨u,rfl,ru⟩:=r.one
 obtain ⟨u2,rfl,ru2⟩:=rz.one
 cases ru
 cases ru2
 obtain ⟨⟨cl,pm,ctv,hf,hcl⟩,_⟩:=(show _ ∧ _ from I.hok f _ hF)
 have hcd : s.heap.CodeRec (.ref c') qual:=(show _ ∧ _ from I.hok c' _ hC).1
 obtain ⟨z,hds,vs,rel,dd⟩:=J9q I.hok hD
 have hlen : kvs.length = vs.length:=rel.length
 obtain ⟨m,hn,hloc⟩:=I.loc
 obtain ⟨u,ru,look⟩:=hloc i dn (.ref d) hN hσ (.inr (.inl hcv))
 obtain rfl : u = Value.ref d:=ru
 obtain ⟨cc,hcc,hcel⟩ : ∃ cc,X.env.cells.lookup dn = some cc ∧ s.heap.IsCell cc (some (.ref d)):=by
  rcases look with ⟨hk',_⟩ | ⟨_,cc,e1,e2⟩
  ·have hk2 : X.env.scope.names.lookup dn = some .local:=hk'
   rw [hcv] at hk2
   cases hk2
  ·exact ⟨cc,e1,e2⟩
 have hclc : cl.lookup dn = some cc:=(hcl (dn,.free) (mem_of_lookup hd) rfl).trans hcc
 have lim : s.heap.NoLimit:=I.mod.nolimit.keeps I.bk
 have nod : (vs.map (·.1)).Nodup:=by
  obtain ⟨_,_,_,_,_,_,_,_,nd⟩:=dd
  exact nd
 have num : ∀ (j : Nat) (k : Key) (x : Value),vs[j]? = some (k,x) → ∃ t v,kvs[j]? = some (k,v) ∧ v = .int (numV kvs j) ∧ x = .int (numV kvs j) t:=fun j k x e=>by
  obtain ⟨p,hp,e1,e2⟩:=J2z rel e
  obtain ⟨z,hz⟩:=hint p (List.mem_of_getElem? hp)
  have en : numV kvs j = z:=by
   unfold numV
   obtain ⟨pk,pv⟩:=p
   have hz' : pv = .int z:=hz
   rw [hp,hz']
  obtain ⟨pk,pv⟩:=p
  have hz' : pv = .int z:=hz
  subst hz'
  obtain ⟨t,et⟩:=(show ∃ t,x = Value.int z t from e2)
  have e1' : pk = k:=e1
  subst e1'
  exact ⟨t,.int z,hp,by rw [en],by rw [en]; exact et⟩
 show wpAny _ _ (call (.builtin "min") [.ref d] [("key",.ref f)]) _ _ s
 refine J85 (knd:=JG X.prog X.w) (numV kvs) (I.ok.hd hcalm) hds dd (by omega) (fun j v ⟨k,x,e1,e2⟩ h tk kp=>?_) fun j v h' tk' ⟨k,x,e1,e2⟩ hb kp=>?_
 ·obtain ⟨t,v0,_,_,rfl⟩:=num j k x e1
  refine Ja4 (s:={ s with heap:=h,toks:=tk }) hroom (lim.keeps kp) (kp _ _ hf) ?_ (hbind cl pm c' ctv v) hco hgen hk hcell hx hd hclc ?_ (dd.keep kp) e2 (valueAt_of_get nod e1) (fun h2 tk2 k2=>⟨h2,tk2,t,rfl,rfl,k2⟩) n1 n2 n3
  ·obtain ⟨c0,o,ws,t0,a1,a2,a3⟩:=hcd
   exact ⟨c0,o,ws,t0,a1,kp _ _ a2,a3⟩
  ·obtain ⟨o,a1,a2⟩:=hcel
   exact ⟨o,kp _ _ a1,a2⟩
 ·obtain ⟨t,v0,hkv,hv0,_⟩:=num j k x e1
  subst hv0
  refine ⟨kV k,H,I.kept (h':=h') (t':=tk') kp,Jan e2,q k _ (List.mem_of_getElem? hkv) fun p hp y hy=>?_⟩
  obtain ⟨j',hj',rfl⟩:=List.getElem_of_mem hp
  have:=hb j' (by omega)
  have en : numV kvs j' = y:=by
   unfold numV
   rw [List.getElem?_eq_getElem hj']
   generalize kvs[j'] = p at hy
   obtain ⟨a,b⟩:=p
   have : b = .int y:=hy
   rw [this]
  rw [en] at this
  exact this
end
end L2
set_option linter.all false
set_option maxRecDepth 100000
set_option maxHeartbeats 4000000
namespace L2
open PySem PySem.Spec PyProof.Rows
noncomputable def Ja (T : Addr) (K : PySem.W.Frag) : PySem.W.Frag:=K.filter fun p=>!(p.1 == T)
theorem J2v {T b : Addr} : ∀ {K : PySem.W.Frag},(Ja T K).lookup b = if b = T then none else K.lookup b
 | []=>by
  show (none : Option Obj) = _
  split <;> rfl
 | (a,o) :: r=>by
  have ih:=J2v (T:=T) (b:=b) (K:=r)
  unfold Ja at ih ⊢
  rw [List.filter_cons]
  by_cases h : a = T
  ·subst h
   rw [show (!((a,o).1 == a)) = false by simp,if_neg Bool.false_ne_true,ih]
   by_cases hb : b = a
   ·rw [if_pos hb,if_pos hb]
   ·rw [if_neg hb,if_neg hb,List.lookup_cons,show (b == a) = false from beq_eq_false_iff_ne.mpr hb]
  ·rw [show (!((a,o).1 == T)) = true by simp [h],if_pos rfl,List.lookup_cons,List.lookup_cons]
   cases q : b == a with
   | true =>
    have e : b = a:=eq_of_beq q
    rw [if_neg (fun z=>h (e.symm.trans z))]
   | false=>exact ih
theorem Jl {T : Addr} {K : PySem.W.Frag} {h : Heap} (X : K.In h) : (Ja T K).In h:=fun b o e=>by
 rw [J2v] at e
 split at e
 ·cases e
 ·exact X b o e
theorem J6c {T : Addr} {K : PySem.W.Frag} : (Ja T K).lookup T = none:=by rw [J2v,if_pos rfl]
noncomputable def J5r (T : Addr) (H : Hp) : Prop:=H T = some (.tbl #[]) ∧ ∀ b,b ≠ T → H b = none ∨ ∃ o xs,H b = some (.frz o (.lst xs))
theorem J7O {P : Program} {w : World} {K : PySem.W.Frag} {mg mb : Str → Option Value} {CX : CXT} {k : Nat} {fa a T c : Addr} {fd : FuncData} {x : Str} {sp : Sp} {s₁ : Shared} {vs : List Value} {ns : List Int}
  (KX : K.In s₁.heap) (hKT : K.lookup T = none) (hT : s₁.heap.get? T = some (PySem.W.tabObj #[])) (hC : PySem.W.CodeHd s₁.heap c T)
  (hns : s₁.heap.Ns mainGlobals mg) (hb : s₁.heap.Ns builtinsNs mb) (hbb : ∀ x : Str,x ≠ "__name__" → mb x = bootBuiltins x) (hlim : s₁.heap.NoLimit) (hg : s₁.gens = #[])
  (ha : s₁.heap.get? a = some { cls:=.type "list",data:=.seq vs.toArray }) (hi : IntsAre vs ns) (hl : ns.length ≤ sizeLine) (hr : Room k callerA)
  (F : ∀ base : Heap,K.In base → base.Ns mainGlobals mg → FnOk P w K mg base CX k fa fd [x] sp) (hbind : ∀ (s : Shared) (u : Value),BindsTo s fd ⟨[u],[]⟩ [(x,u)])
  (hsp : ∀ H : Hp,J5r T H → SqL K H a (ns.map V.int) → sp [.ref a] H (fun v _=>v = .bl true) fun _ _ _=>False)
  (hCX : ∀ H e s',CX [] H s₁ (fun _ _ _=>False) e s' → False) :
  codeAny (model P w) callerA (.call (.ref fa) ⟨[.ref a],[]⟩) (fun r s'=>r = .ok (.ret (.bool true)) ∧ OldK s₁.heap s'.heap ∧ s'.os = s₁.os ∧ AllBare s'.gens) s₁:=by
 have rv:=J4c hi
 have lenV:=hi.length
 have haT : a ≠ T:=fun z=>by
  rw [z,hT] at ha
  cases ha
 have isT : isCodeTable s₁.heap T:=(hC.tab hT).isCodeTable
 have core : ∀ H : Hp,J5r T H → SqL K H a (ns.map V.int) → HOk P w H s₁.heap → (∀ b,H b ≠ none → b = a ∨ b = T) → (H a ≠ none → K.lookup a = none) →
   codeAny (model P w) callerA (.call (.ref fa) ⟨[.ref a],[]⟩) (fun r s'=>r = .ok (.ret (.bool true)) ∧ OldK s₁.heap s'.heap ∧ s'.os = s₁.os ∧ AllBare s'.gens) s₁:=by
  intro H hO hS hok hA hK
  have base_of : ∀ {b : Addr} {o : Obj},s₁.heap.get? b = some o → H b = none → (hidT s₁.heap H).get? b = some o:=fun e n=>J8G e n
  have noA : ∀ {b : Addr} {o : Obj} {es : Array DictEntry} {ep : Nat},s₁.heap.get? b = some o → o.data = .dict es ep → H b = none:=fun {b o es ep} e d=>by
   cases q : H b with
   | none=>rfl
   | some u =>
    rcases hA b (by rw [q]; simp) with e' | e'
    ·subst e'
     rw [ha] at e; cases e
     have d' : Data.seq vs.toArray _ = Data.dict es ep:=d
     cases d'
    ·subst e'
     rw [hT] at e; cases e
     have d' : Data.fields _ = Data.dict es ep:=d
     cases d'
  have nsK : ∀ {b : Addr} {m : Str → Option Value},s₁.heap.Ns b m → (hidT s₁.heap H).Ns b m:=fun {b m} ⟨o,es,ep,e,d,r⟩=>⟨o,es,ep,base_of e (noA e d),d,r⟩
  have hKb : K.In (hidT s₁.heap H):=fun b o e=>base_of (KX b o e) (by
   cases q : H b with
   | none=>rfl
   | some u =>
    rcases hA b (by rw [q]; simp) with e' | e'
    ·subst e'
     rw [hK (by rw [q]; simp)] at e; cases e
    ·subst e'
     rw [hKT] at e; cases e)
  have hM : Mod K mg (hidT s₁.heap H):=⟨hKb,nsK hns,⟨mb,nsK hb,hbb⟩,let ⟨mc,h1,h2⟩:=hlim; ⟨mc,nsK h1,h2⟩⟩
  have e0 : Env0 P w K mg (hidT s₁.heap H) callerA [] s₁ H:=⟨rfl,hM,fun b o e=>J9X e,Nat.le_of_eq (J7R _ _),trivial,fun b hb=>absurd (show b ∈ ([] : List Addr) from hb) (by simp),hok,.of_eq hg⟩
  refine codeAny_mono ((F _ hKb (nsK hns)).run callerA [] s₁ H ⟨[.ref a],[]⟩ [.ref a] [.ref a] _ _ hr e0 (hbind s₁ (.ref a)) (.cons rfl .nil) (hsp H hO hS)) fun r s' h=>?_
  cases r with
  | error e=>exact (hCX H e s' h).elim
  | ok fl =>
   cases fl with
   | next=>exact False.elim h
   | brk=>exact False.elim h
   | cont=>exact False.elim h
   | ret u =>
    obtain ⟨v,H',os,bare,un,hok',r',q⟩:=h
    have q' : v = .bl true:=q
    subst q'
    obtain rfl : u = Value.bool true:=r'
    obtain ⟨more,hT'⟩:=un.tbls T #[] hO.1
    have gT : s'.heap.get? T = some { cls:=.none,data:=.fields (#[] ++ more) }:=hok' T _ hT'
    have rest : ∀ b o,b ≠ T → s₁.heap.get? b = some o → s'.heap.get? b = some o:=fun b o n e=>by
     cases q : H b with
     | none=>exact un.keep b o e q (by intro z; exact absurd (show b ∈ ([] : List Addr) from z) (by simp)) (by simp)
     | some u =>
      rcases hO.2 b n with z | ⟨ob,xs,z⟩
      ·rw [q] at z; cases z
      ·have z2:=un.frzs b ob _ z
       obtain ⟨e1,_⟩:=hok b _ z
       obtain ⟨e2,_⟩:=hok' b _ z2
       rw [e] at e1; cases e1
       exact e2
    refine ⟨rfl,⟨fun b o e=>?_,fun b o e=>?_⟩,os,bare⟩
    ·by_cases z : b = T
     ·subst z
      rw [hT] at e; cases e
      exact .inr (.inl ⟨isT,rfl,#[],more,rfl,gT⟩)
     ·exact .inl (rest b o z e)
    ·by_cases z : b = T
     ·subst z
      exact ⟨_,gT⟩
     ·exact ⟨o,rest b o z e⟩
 cases hk : K.lookup a with
 | some o =>
  have e:=KX a o hk
  rw [ha] at e
  cases e
  refine core (fun b=>if b = T then some (.tbl #[]) else none) ⟨if_pos rfl,fun b n=>.inl (if_neg n)⟩ (.inr ⟨_,vs.toArray,_,hk,rfl,rfl,rfl,by rw [List.size_toArray,lenV]; exact hl,by simpa using rv⟩) (fun b u z=>?_) (fun b z=>?_) fun z=>absurd (if_neg haT) z
  ·by_cases hb : b = T
   ·have z':=(if_pos hb).symm.trans z
    cases z'
    subst hb
    exact hT
   ·have z':=(if_neg hb).symm.trans z
    cases z'
  ·by_cases hb : b = T
   ·exact .inr hb
   ·exact absurd (if_neg hb) z
 | none =>
  refine core (fun b=>if b = T then some (.tbl #[]) else if b = a then some (.frz { cls:=.type "list",data:=.seq vs.toArray } (.lst (ns.map V.int))) else none) ⟨if_pos rfl,fun b n=>?_⟩ (.inl (.inr ⟨{ cls:=.type "list",data:=.seq vs.toArray },(if_neg haT).trans (if_pos rfl)⟩)) (fun b u z=>?_) (fun b z=>?_) fun _=>hk
  ·by_cases hb : b = a
   ·exact .inr ⟨_,_,(if_neg n).trans (if_pos hb)⟩
   ·exact .inl ((if_neg n).trans (if_neg hb))
  ·by_cases hbT : b = T
   ·have z':=(if_pos hbT).symm.trans z
    cases z'
    subst hbT
    exact hT
   ·have z1:=(if_neg hbT).symm.trans z
    by_cases hb : b = a
    ·have z':=(if_pos hb).symm.trans z1
     cases z'
     subst hb
     exact ⟨ha,by rw [List.length_map]; exact hl,vs,_,rv,ha⟩
    ·have z':=(if_neg hb).symm.trans z1
     cases z'
  ·by_cases hbT : b = T
   ·exact .inr hbT
   ·by_cases hb : b = a
    ·exact .inl hb
    ·exact absurd ((if_neg hbT).trans (if_neg hb)) z
theorem walk_ofT {l : PySem.W.OpenLaw} {n k : Nat} {q : Program} {loose : List Str} {XP : (Str → Option Value) → Heap → Prop} {YP : World → Heap → Prop} {d : DefRec} {K : Params → PySem.W.Frag} {T c : Addr} {CX : CXT} {sp : PySem.W.Frag → Sp} {x : Str}
  (hn : l.most = some n) (hn2 : n ≤ sizeLine) (hdf : d.params.defaults = []) (hr : Room k callerA)
  (hY : ∀ (w : World) (h : Heap),YP w h → (K w.params).In h) (hT : ∀ P,(K P).lookup T = some (PySem.W.tabObj #[])) (hC : ∀ P,PySem.W.codeHdIn (K P) c T = true)
  (F : ∀ (w : World) (mg : Str → Option Value) (fa : Addr) (h : Heap),(K w.params).In h → h.Ns mainGlobals mg → mg d.name = some (.ref fa) →
   ∃ fd : FuncData,(∀ (s : Shared) (u : Value),BindsTo s fd ⟨[u],[]⟩ [(x,u)]) ∧
    ∀ base : Heap,(Ja T (K w.params)).In base → base.Ns mainGlobals mg → FnOk l.prog w (Ja T (K w.params)) mg base CX k fa fd [x] (sp (Ja T (K w.params))))
  (hsp : ∀ (K : PySem.W.Frag) (H : Hp) (a : Addr) (ns : List Int),ns.length ≤ n → J5r T H → SqL K H a (ns.map V.int) → sp K [.ref a] H (fun v _=>v = .bl true) fun _ _ _=>False)
  (hCX : ∀ (H : Hp) (s : Shared) (e : Value) (s' : Shared),CX [] H s (fun _ _ _=>False) e s' → False) :
  PySem.W.WalkO q loose XP YP l.row.toRowW d [] (fun f vs=>PySem.call f vs):=by
 refine Att.attach_call hn hdf fun w s₀ s₁ mg mb fa o pm cd doc a vs ns G Y ho hd hcd hmg hobj hints hlen hg=>?_
 have KX:=hY w _ Y
 obtain ⟨fd,hb,hF⟩:=F w mg fa _ KX G.T.g hmg
 exact J7O (Jl KX) J6c (KX _ _ (hT w.params)) (PySem.W.codeHd_of_K KX (hC w.params)) G.T.g G.T.b G.T.builtins G.T.nolimit hg hobj hints (Nat.le_trans hlen hn2) hr hF hb (fun H hO hS=>hsp _ H a ns hlen hO hS) fun H e s'=>hCX H s₁ e s'
structure TabK (K : PySem.W.Frag) (mg : Str → Option Value) (T : Addr) : Prop where
 blt : ∃ bm ob,mg "__builtins__" = some (.ref bm) ∧ bm ≠ builtinsNs ∧ bm ≠ mainGlobals ∧ bm ≠ T ∧ K.lookup bm = some ob ∧ ob.cls = .type "module" ∧ ob.dict = some builtinsNs ∧ ob.data = .plain
theorem TabK.at {K : PySem.W.Frag} {mg : Str → Option Value} {T : Addr} {h : Heap} (t : TabK K mg T) (X : K.In h) : h.BuiltinsAt mg T:=by
 obtain ⟨bm,ob,a,b,c,d,e,f⟩:=t.blt
 exact ⟨bm,ob,a,b,c,d,X _ _ e,f⟩
noncomputable def GT (K : PySem.W.Frag) (mg : Str → Option Value) (x : Str) (st : Stmt) (T : Addr) : Prop:=∃ f oc od kV doc pm an c ct osl,
 K.lookup f = some ⟨oc,od,.func (PySem.W.fnOf x x (Jh st) (Jf st) (J3 st) .none kV doc pm an (.ref c) ct),osl⟩ ∧ PySem.W.codeIn K (.ref c) x = true ∧ PySem.W.keepIn K (.ref f) = true ∧ mg x = some (.ref f) ∧ PySem.W.codeHdIn K c T = true ∧ TabK K mg T
theorem GT.g {P : Program} {w : World} {K : PySem.W.Frag} {mg : Str → Option Value} {base : Heap} {x : Str} {st : Stmt} {T : Addr} {N ps : List Str} {k : Nat} {sp : Sp} (F : GT K mg x st T) (S : Jw N ps (J3 st))
  (bnd : ∀ (kV doc pm : Value) (an : Option Addr) (cdv ct : Value) (us : List Value),us.length = ps.length → bindArgs (PySem.W.fnOf x x (Jh st) (Jf st) (J3 st) .none kV doc pm an cdv ct) ⟨us,[]⟩ = pure (ps.zip us))
  (len : ∀ vs H Q E,sp vs H Q E → vs.length = ps.length)
  (hbody : ∀ (f c : Addr) (A : Around) (outer : List Env) (s : Shared) (H : Hp) (vs : List V) (Q : VK) (E : XK),PySem.W.codeHdIn K c T = true → TabK K mg T → Room k (A.deeper (envOfC x (J3 st) s.heap.objs.size f (.ref c))) → sp vs H Q E →
   ∃ t,PSs (cxOf CX0 P w K mg base N x (J3 st) f (.ref c) A outer s H E).nox (Jf st) t ∧ t { nx:=fun _ H'=>Q .non H',rt:=Q } (start N vs) H) : FnG P w K mg base x (k + 1) ps sp:=by
 obtain ⟨f,oc,od,kV,doc,pm,an,c,ct,osl,lk,hcd,kp,m,hc,tk⟩:=F
 refine ⟨f,_,Jam lk hcd S len fun A outer s H vs Q E hr hsp=>?_,m,kp,.all (bnd kV doc pm an _ ct)⟩
 obtain ⟨t,h,q⟩:=hbody f c A outer s H vs Q E hc tk hr hsp
 exact ⟨t,h.nox,q⟩
section
variable {X : Cx} {args : Arguments} {body : Expr} {scope : Scope} {pos : Pos} {c T : Addr}
theorem Ja5 (hcode : X.env.code = .ref c) (hC : PySem.W.codeHdIn X.K c T = true) (hb : TabK X.K X.mg T) (hdef : defaultsOf args X.env = ([],[]):=by rfl)
  (cs : ∀ y ∈ scope.names,y.2 = .free → X.env.scope.names.lookup y.1 = some .cell ∨ X.env.scope.names.lookup y.1 = some .free:=by decide) :
  PE X (.Lambda args body scope pos) (tLam T pos (X.env.qual ++ "<lambda>") X.env.cells args body scope):=by
 intro pins s σ H Q I h
 exact JbF hdef hcode (PySem.W.codeHd_of_K I.ok.mod.kin hC) (hb.at I.ok.mod.kin) cs pins s σ H Q I h
end
noncomputable def Grw (T : Addr) (H H' : Hp) : Prop:=∀ a o,a ≠ T → H a = some o → H' a = some o
noncomputable def Jcf (T : Addr) (pos : Pos) (qual : Str) (i : Nat) : TE:=fun σ H Q=>JU H T pos qual ∧ ∃ d kvs,σ[i]? = some (some (.ref d)) ∧ H d = some (.dK kvs) ∧ 0 < kvs.length ∧ (∀ p ∈ kvs,∃ z,p.2 = .int z) ∧
 ∀ H' k z,Grw T H H' → JU H' T pos qual → (k,V.int z) ∈ kvs → (∀ p ∈ kvs,∀ y,p.2 = .int y → z ≤ y) → Q (kV k) H'
theorem Room.inA {k : Nat} {A : Around} (r : Room k A) : A.in1.depth < recursionLimit:=by
 have:=r.dp
 show A.depth < _
 omega
section
variable {X : Cx} {args : Arguments} {scope : Scope} {pos p cpos kpos q1 p3 p4 p5 : Pos} {c T : Addr} {i k : Nat} {dn xn : Str} {qual : Str}
theorem J7I (hr : Room k X.A) (hcalm : X.calm = true) (hcode : X.env.code = .ref c) (hC : PySem.W.codeHdIn X.K c T = true) (hb : TabK X.K X.mg T) (hmg : X.mg "min" = none) (hq : X.env.qual ++ "<lambda>" = qual) (hN : X.N[i]? = some dn) (hcv : X.env.scope.names.lookup dn = some .cell)
  (hbind : ∀ cl pm c' ctv u,bindArgs (PySem.W.kla_fn "<lambda>" qual args (.Subscript (.Name dn p3) (.Name xn p4) p5) scope cl pm (.ref c') ctv) ⟨[u],[]⟩ = pure [(xn,u)])
  (hco : scope.isCoroutine = false) (hgen : scope.isGenerator = false) (hk : scope.kind = .function) (hcell : ∀ x ∈ scope.names,x.2 ≠ .cell) (hx : scope.names.lookup xn = some .local) (hd : scope.names.lookup dn = some .free)
  (hdef : defaultsOf args X.env = ([],[])) (hs : scope.names = [(xn,.local),(dn,.free)]) (hg : Gl X "min")
  (n1 : (dn == ("__debug__" : Str)) = false:=by decide) (n2 : (dn == ("__classdict__" : Str)) = false:=by decide) (n3 : (xn == ("__debug__" : Str)) = false:=by decide) :
  PE X (.Call (.Name "min" p) [.Name dn q1] [⟨some "key",.Lambda args (.Subscript (.Name dn p3) (.Name xn p4) p5) scope pos,kpos⟩] cpos) (Jcf T pos qual i):=by
 subst hq
 have cs : ∀ y ∈ scope.names,y.2 = .free → X.env.scope.names.lookup y.1 = some .cell ∨ X.env.scope.names.lookup y.1 = some .free:=fun y hy hf=>by
  rw [hs] at hy
  rcases List.mem_cons.mp hy with z | z
  ·rw [z] at hf
   cases hf
  ·rw [List.mem_singleton.mp z]
   exact .inl hcv
 intro pins s σ H Q I h
 obtain ⟨tb,d,kvs,hσ,hD,hl,hint,q⟩:=h
 refine J81 (J5H (X:=X) (i:=i) (qual:=X.env.qual ++ "<lambda>") hcalm hN hcv hr.inA hbind hco hgen hk hcell hx hd n1 n2 n3) hg hmg J6l (J0 (J8N (i:=i) hN (.inr (.inl hcv)) n1 n2) J9) (Jai (Ja5 hcode hC hb hdef cs) JbX) rfl rfl (by decide) (by decide) rfl rfl pins s σ H Q I ?_
 refine ⟨.ref d,hσ,tb,fun f c' H' grw tb' hc' hf=>?_⟩
 have nT : d ≠ T:=fun z=>by
  obtain ⟨ps,e,_⟩:=tb
  rw [z,e] at hD
  cases hD
 exact ⟨d,f,c',kvs,rfl,rfl,hσ,grw _ _ nT hD,hc',hf,hl,hint,fun k z m1 m2=>q H' k z grw tb' m1 m2⟩
end
theorem JU.upd {H : Hp} {T a : Addr} {pos : Pos} {qual : Str} {o : HO} (t : JU H T pos qual) (h : H a = none ∨ ∃ u,H a = some u ∧ (∀ ps,u ≠ .tbl ps) ∧ ∀ φ,u ≠ .ext φ) : JU (upd H a o) T pos qual:=by
 obtain ⟨ps,e,tr,c⟩:=t
 have nT : T ≠ a:=fun z=>by
  subst z
  rcases h with h | ⟨u,h,n,_⟩
  ·rw [h] at e; cases e
  ·rw [h] at e
   exact n ps (Option.some.inj e)
 refine ⟨ps,by rw [J7 nT]; exact e,tr,?_⟩
 rcases c with c | ⟨c',e1,e2⟩
 ·exact .inl c
 ·refine .inr ⟨c',e1,?_⟩
  rw [J7 (fun z=>?_)]
  ·exact e2
  ·subst z
   rcases h with h | ⟨u,h,_,n⟩
   ·rw [h] at e2; cases e2
   ·rw [h] at e2
    exact n _ (Option.some.inj e2)
theorem JU.same {H H' : Hp} {T : Addr} {pos : Pos} {qual : Str} (t : JU H T pos qual) (s : Same H H') : JU H' T pos qual:=by
 obtain ⟨ps,e,tr,c⟩:=t
 refine ⟨ps,s _ _ e,tr,?_⟩
 rcases c with c | ⟨c',e1,e2⟩
 ·exact .inl c
 ·exact .inr ⟨c',e1,s _ _ e2⟩
theorem J5r.tab {H : Hp} {T : Addr} {pos : Pos} {qual : Str} (h : J5r T H) : JU H T pos qual:=⟨#[],h.1,trivial,.inl rfl⟩
noncomputable def J9n (K : PySem.W.Frag) (f c : Addr) : Prop:=∃ oc od fd sl,K.lookup f = some ⟨oc,od,.func fd,sl⟩ ∧ fd.code = .ref c
noncomputable def J6W (K : PySem.W.Frag) (c T : Addr) : Prop:=∃ oc od vs sl,K.lookup c = some ⟨oc,od,.fields vs,sl⟩ ∧ (vs[11]? : Option Value) = some (.ref T)
theorem code_mk {K : PySem.W.Frag} {f c : Addr} {oc : Value} {od an : Option Addr} {sl : Array (Option Value)} {nm qn : Str} {ps : Arguments} {bd : List Stmt} {sc : Scope} {dV kV doc pm ct : Value}
  (h : K.lookup f = some ⟨oc,od,.func (PySem.W.fnOf nm qn ps bd sc dV kV doc pm an (.ref c) ct),sl⟩) : J9n K f c:=⟨oc,od,_,sl,h,rfl⟩
theorem table_mk {K : PySem.W.Frag} {c T : Addr} {oc : Value} {od : Option Addr} {sl : Array (Option Value)} {vs : Array Value} (h : K.lookup c = some ⟨oc,od,.fields vs,sl⟩) (e : (vs[11]? : Option Value) = some (.ref T)) : J6W K c T:=⟨oc,od,vs,sl,h,e⟩
theorem Jcv {K : PySem.W.Frag} {mg : Str → Option Value} {x : Str} {st : Stmt} {T f c bm : Addr} {oc : Value} {od an : Option Addr} {osl slB : Array (Option Value)} {kV doc pm ct : Value} {h : Heap} (X : K.In h) (G : h.Ns mainGlobals mg)
  (a : PySem.W.nsIn K mainGlobals x = some (some (.ref f))) (l : K.lookup f = some ⟨oc,od,.func (PySem.W.fnOf x x (Jh st) (Jf st) (J3 st) .none kV doc pm an (.ref c) ct),osl⟩) (cd : PySem.W.codeIn K (.ref c) x = true) (k : PySem.W.keepIn K (.ref f) = true)
  (hC : PySem.W.codeHdIn K c T = true) (b : PySem.W.nsIn K mainGlobals "__builtins__" = some (some (.ref bm))) (lb : K.lookup bm = some ⟨.type "module",some builtinsNs,.plain,slB⟩) (n : bm ≠ builtinsNs ∧ bm ≠ mainGlobals ∧ bm ≠ T) : GT K mg x st T :=
 ⟨f,oc,od,kV,doc,pm,an,c,ct,osl,l,cd,k,PySem.W.mg_of X G a,hC,⟨bm,_,PySem.W.mg_of X G b,n.1,n.2.1,n.2.2,lb,rfl,rfl,rfl⟩⟩
end L2
set_option linter.all false
set_option maxRecDepth 100000
set_option maxHeartbeats 4000000
namespace L2
open PySem PySem.Spec PyProof.Rows
theorem J37 {α β : Type} {F : α → β → Prop} : ∀ {l₁ : List α} {l₂ : List β} {i : Nat} {a : α},Paired F l₁ l₂ → l₁[i]? = some a → ∃ b,l₂[i]? = some b ∧ F a b
 | _,_,_,_,.nil,e=>by simp at e
 | _,_,0,_,.cons r _,e=>by
  simp at e
  subst e
  exact ⟨_,rfl,r⟩
 | _,_,i + 1,_,.cons _ t,e=>by
  obtain ⟨a,h1,h2⟩:=J37 (i:=i) t (by simpa using e)
  exact ⟨a,by simpa using h1,h2⟩
noncomputable def DkP (P : Program) (w : World) (a : Addr) (ep : Nat) (kvs : List (Key × V)) (h : Heap) : Prop:=kvs.length ≤ sizeLine ∧ (a == sysModules) = false ∧ ∃ vs,KV kvs vs ∧ h.DictAt (JG P w) a vs ep
noncomputable def DkE (P : Program) (w : World) (a : Addr) (ep : Nat) (kvs : List (Key × V)) : HO:=.ext (DkP P w a ep kvs)
theorem Jc8 {P : Program} {w : World} {H : Hp} {h : Heap} {a : Addr} {ep : Nat} {kvs : List (Key × V)} (p : DkP P w a ep kvs h) : J0a P w H h a (DkE P w a ep kvs):=by
 refine ⟨p,?_,fun h1 h2 q kk=>?_⟩
 ·obtain ⟨_,_,_,_,o,_,e,_⟩:=p
  exact ⟨o,e⟩
 ·obtain ⟨z,y,vs,r,o,es,e,c⟩:=q
  exact ⟨z,y,vs,r,o,es,kk _ e,c⟩
noncomputable def Idk (P : Program) (w : World) (d : Addr) (ep : Nat) (xs : List (Key × V)) : It :=
  ⟨fun i H=>H d = some (DkE P w d ep xs) ∧ i < xs.length,
   fun i H v H'=>∃ p e,H p = none ∧ xs[i]? = some e ∧ v = .ref p ∧ H' = upd H p (.tup [kV e.1,e.2]),
   fun i H=>H d = some (DkE P w d ep xs) ∧ xs.length ≤ i⟩
theorem J5v {P : Program} {w : World} {K : PySem.W.Frag} {es : List Expr} {k : Nat} {pos : Pos} {it d : Addr} {ep : Nat} {xs : List (Key × V)} :
  Turn P w K (.Tuple es k pos) (Idk P w d ep xs) [it] it (fun i h=>∃ ok ov,IsItemIter h it d i xs.length ep ok ov) where
 mem:=by simp
 obj:=fun i h st b hb=>by
  obtain ⟨ok,ov,hz⟩:=st
  rw [List.mem_singleton.mp hb]
  exact ⟨_,hz,fun v q=>by cases q⟩
 keep:=fun i h h' st kk=>by
  obtain ⟨ok,ov,hz⟩:=st
  exact ⟨ok,ov,kk it (by simp) _ hz⟩
 item:=by
  intro X hP hw hK hc i pins s σ H E I hf st hg
  subst hP hw hK
  obtain ⟨ok,ov,hz⟩:=st
  obtain ⟨hd,hlt⟩:=hg
  obtain ⟨⟨zl,hs,ys,rel,od,es2,g1,g2,g3,g4,g5,g6⟩,_⟩:=(show J0a X.prog X.w H s.heap d (DkE X.prog X.w d ep xs) from I.hok d _ hd)
  have hx : xs[i]? = some xs[i]:=List.getElem?_eq_getElem hlt
  have hsz : es2.size = xs.length:=by rw [← Array.length_toList,g5.length,Paired.length rel]
  have hen : es2[i]? = some es2[i]:=Array.getElem?_eq_getElem (by omega)
  obtain ⟨y,hy,ey,ry⟩:=J37 rel hx
  obtain ⟨ek,ev⟩ : (JG X.prog X.w).is y.1 es2[i].key = true ∧ es2[i].val = y.2:=g5.get? (i:=i) (e:=es2[i]) (k:=y.1) (v:=y.2) (by rw [Array.getElem?_toList]; exact hen) hy
  have rk : RelV (kV xs[i].1) es2[i].key:=by
   rw [ey]
   exact Jan ek
  have rv : RelV xs[i].2 es2[i].val:=by
   rw [ev]
   exact ry
  refine J6o hz g1 g3 hsz hen fun h' a1 a3 a4 kp=>?_
  refine ⟨_,rfl,?_⟩
  refine wpAny_letOwnedTupleGo_items (s:={ s with heap:=h' }) a1 fun h2' hz' hs'=>?_
  replace hs' : Heap.SameBut it h' h2':=hs'
  have ilt : it < s.heap.objs.size:=Heap.lt_size hz
  have fz:=hf it (by simp)
  have keepAll : ∀ b o,b ≠ it → s.heap.get? b = some o → h2'.get? b = some o:=fun b o b1 e=>hs'.extBut _ _ b1 (kp b o b1 e)
  have hnew : H s.heap.objs.size = none:=I.hok.fresh (Nat.le_refl _)
  have ht2 : h2'.get? s.heap.objs.size = some { cls:=.type "tuple",data:=.seq #[es2[i].key,es2[i].val] }:=hs'.extBut _ _ (Nat.ne_of_gt ilt) a3
  have I2 : Inv X pins σ (upd H s.heap.objs.size (.tup [kV xs[i].1,xs[i].2])) { s with heap:=h2' }:=by
   have trk : ∀ b u',H b = some u' → b ≠ it:=fun b u' e q=>(by rw [q,fz.1] at e; cases e)
   have okH : HOk X.prog X.w (upd H s.heap.objs.size (.tup [kV xs[i].1,xs[i].2])) h2':=fun b u' e=>by
    by_cases hb : b = s.heap.objs.size
    ·subst hb
     rw [Jc] at e
     cases e
     exact ⟨(show 2 ≤ sizeLine by decide),[es2[i].key,es2[i].val],.cons rk (.cons rv .nil),⟨_,ht2,rfl,_,rfl⟩⟩
    ·rw [J7 hb] at e
     have hx:=I.hok b u' e
     refine hx.stay (fun q o hq e2=>?_) (fun q e2=>?_) (fun q xs e2=>?_)
     ·rcases hq with rfl | hq
      ·exact keepAll q o (trk q _ e) e2
      ·exact keepAll q o (trk q _ hq) e2
     ·rw [J7 (Jb e2 hnew)]; exact e2
     ·rw [J7 (Jb e2 hnew)]; exact e2
   refine I.step (g':=s.gens) (d':=s.drawn) (ch:=[it]) (fun b hb=>?_) (fun b o _ _ hcb e n=>?_) (fun b o _ _ hcb e n=>?_) (fun b o hcb e n=>?_) (fun b o hcb e=>?_) (fun b xs e=>?_) (fun b o u' e=>?_) (fun b ps e=>?_) (fun m hm=>?_) okH I.bare
   ·rw [List.mem_singleton.mp hb]
    exact ⟨fz.2.2.2.1,fz.2.1,fz.2.2.2.2.1,fz.2.2.2.2.2⟩
   ·exact keepAll b o (fun q=>hcb (by rw [q]; simp)) e
   ·exact ⟨o.slots,keepAll b o (fun q=>hcb (by rw [q]; simp)) e⟩
   ·rw [J7 (Nat.ne_of_lt (Heap.lt_size e))]; exact n
   ·exact ⟨o,keepAll b o (fun q=>hcb (by rw [q]; simp)) e⟩
   ·rw [J7 (Jb e hnew)]; exact e
   ·rw [J7 (Jb e hnew)]; exact e
   ·exact ⟨#[],by rw [J7 (Jb e hnew),e]; simp⟩
   ·obtain ⟨o,es',ep,ho,r⟩:=hm
    exact ⟨o,es',ep,keepAll _ o fz.2.1.symm ho,r⟩
  refine ⟨.ref s.heap.objs.size,_,I2,rfl,⟨_,xs[i],hnew,hx,rfl,rfl⟩,⟨_,_,hz'⟩,fun b hb=>?_⟩
  rw [List.mem_singleton.mp hb,J7 (Nat.ne_of_lt ilt)]
  exact fz.1
 done:=by
  intro X hP hw hK hc i pins s σ H E I hf st hg
  subst hP hw hK
  obtain ⟨ok,ov,hz⟩:=st
  obtain ⟨hd,hge⟩:=hg
  obtain ⟨⟨zl,hs,ys,rel,od,es2,g1,g2,g3,g4,g5,g6⟩,_⟩:=(show J0a X.prog X.w H s.heap d (DkE X.prog X.w d ep xs) from I.hok d _ hd)
  have hsz : es2.size = xs.length:=by rw [← Array.length_toList,g5.length,Paired.length rel]
  obtain ⟨f0,f1,f2,f3,f4,f5⟩:=hf it (by simp)
  exact J6r (I.ok.hd hc) hz g1 g3 hsz hge fun h' eb=>⟨rfl,I.turned (t':=s.toks) (fun b o hb e=>eb b o hb e) f0 f1 f3 f4 f5⟩
 self:=fun A i s Q E st h=>by
  obtain ⟨ok,ov,hz⟩:=st
  exact PySem.W.kcp_self hz h
noncomputable def J9U (P : Program) (w : World) (td : TE) : TI:=fun σ H R=>td σ H fun x H1=>∃ a xs,x = .ref a ∧ H1 a = some (.dK xs) ∧ ∀ ep,R (Idk P w a ep xs) (upd H1 a (DkE P w a ep xs))
section
variable {X : Cx} {P : Program} {w : World} {es : List Expr} {k : Nat} {tpos apos cpos : Pos} {o : Expr} {td : TE}
theorem Inv.dked {pins : List (Addr × Obj)} {σ : St} {H : Hp} {s : Shared} {a : Addr} {xs : List (Key × V)} (I : Inv X pins σ H s) (ha : H a = some (.dK xs)) :
  ∃ ep,Inv X pins σ (upd H a (DkE X.prog X.w a ep xs)) s:=by
 obtain ⟨zl,hs,ys,rel,od,es2,ep,g1,g2,g3,g4,g5,g6⟩:=(show J0a X.prog X.w H s.heap a (.dK xs) from I.hok a _ ha)
 refine ⟨ep,?_⟩
 have na : ∀ {b : Addr} {u : HO},H b = some u → u ≠ .dK xs → b ≠ a:=fun {b u} e n z=>by
  rw [z,ha] at e
  exact n (Option.some.inj e).symm
 have nn : ∀ {b : Addr},H b = none → b ≠ a:=fun {b} e z=>by
  rw [z,ha] at e
  cases e
 refine I.un (t':=s.toks) (h':=s.heap) ⟨fun b o e _ _ _=>e,fun b o e _ _ _=>⟨o.slots,e⟩,fun b o _ n _=>?_,fun b o e _=>⟨o,e⟩,fun b zs e=>?_,fun b o u e=>?_,fun b ps e=>⟨#[],?_⟩⟩ fun b u e=>?_
 ·rw [J7 (nn n)]; exact n
 ·rw [J7 (na e fun z=>by cases z)]; exact e
 ·rw [J7 (na e fun z=>by cases z)]; exact e
 ·rw [J7 (na e fun z=>by cases z),e]; simp
 ·by_cases z : b = a
  ·subst z
   rw [Jc] at e
   obtain rfl:=Option.some.inj e
   exact Jc8 ⟨zl,hs,ys,rel,od,es2,g1,g2,g3,g4,g5,g6⟩
  ·rw [J7 z] at e
   refine (I.hok b u e).stay (fun c v _ q=>q) (fun c q=>?_) fun c zs q=>?_
   ·rw [J7 (na q fun z=>by cases z)]; exact q
   ·rw [J7 (na q fun z=>by cases z)]; exact q
theorem J7V (hP : X.prog = P) (hw : X.w = w) (ho : PE X o td) (hb : attributeBase o "items" X.env (eval o X.env) = eval o X.env) (hl : (apos.endLine == cpos.line) = true) :
  PI X (.Tuple es k tpos) (.Call (.Attribute o "items" apos) [] [] cpos) (J9U P w td):=by
 subst hP hw
 intro pins s σ H R I h
 refine wpAny_Call_method (T:="dict") (id:="dict.items") hb rfl hl PySem.F.plainAttrs_dict PySem.F.slot_dict_items PySem.F.type_dict_items (thn (ho pins s σ H _ I h) fun u s1 ⟨x,H1,J1,rx,a,xs,ex,ha,q0⟩=>?_)
 subst ex
 obtain rfl : u = Value.ref a:=rx
 obtain ⟨ep,I1⟩:=J1.dked ha
 have q1:=q0 ep
 obtain ⟨⟨zl,hs,ys,rel,od,es2,g1,g2,g3,g4,g5,g6⟩,_⟩:=(show J0a X.prog X.w _ s1.heap a (DkE X.prog X.w a ep xs) from I1.hok a _ Jc)
 have hsz : es2.size = xs.length:=by rw [← Array.length_toList,g5.length,Paired.length rel]
 have hT : s1.TypeIs (.ref a) "dict":=⟨od,g1,g2.1⟩
 refine ⟨hT,fun b q=>by cases q; exact ⟨od,g1,g2.2.1⟩,?_⟩
 show wpAny _ _ (callWith cpos (.builtin "dict.items") [.ref a] [] []) _ _ s1
 refine method_meetsIn PySem.F.slot_dict_items PySem.F.entry_dict_items rfl (PySem.evalArgs_none ⟨rfl,hT,PySem.F.args_dict_items_1 _,_,J4K hs,hT,?_⟩)
 have I2 : Inv X pins σ (upd H1 a (DkE X.prog X.w a ep xs)) { s1 with heap:=s1.heap.push { cls:=.type "dict_items",data:=.fields #[.ref a] } }:=I1.kept (t':=s1.toks) fun _ _ q=>Heap.get?_push_of_some _ q
 refine J6p (s:={ s1 with heap:=s1.heap.push { cls:=.type "dict_items",data:=.fields #[.ref a] } }) ⟨_,Heap.get?_push_size _ rfl,rfl,rfl⟩ (Heap.get?_push_of_some _ g1) g3 hsz ?_
 have I3:=I2.kept (t':=s1.toks) (h':=(s1.heap.push { cls:=.type "dict_items",data:=.fields #[.ref a] }).push { cls:=.type "dict_itemiterator",data:=.fields #[.none,.bool false,.ref a,.int 0 0,.int xs.length 0,.int ep 0,.none,.none] }) fun _ _ q=>Heap.get?_push_of_some _ q
 refine ⟨_,[_],_,_,_,rfl,I3,J5v,⟨.none,.none,Heap.get?_push_size _ rfl⟩,fun b hb=>?_,q1⟩
 rw [List.mem_singleton.mp hb]
 exact I2.fpOk (Nat.le_refl _) (I2.hok.fresh (Nat.le_refl _))
end
theorem J6B {P : Program} {w : World} {a : Addr} {ep : Nat} {xs : List (Key × V)} {g : TG} {tb : TS} {D : Ends} {σ : St} {H : Hp} (Pv : Nat → St → Hp → Prop) (h0 : Pv 0 σ H) (hl : ∀ i σ H,i ≤ xs.length → Pv i σ H → H a = some (DkE P w a ep xs))
  (hs : ∀ i e p σ H,xs[i]? = some e → H p = none → Pv i σ H → g (.ref p) σ (upd H p (.tup [kV e.1,e.2])) fun σ2 H2=>tb { D with nx:=Pv (i + 1),ct:=Pv (i + 1),bk:=D.nx } σ2 H2) (hd : ∀ σ H,Pv xs.length σ H → D.nx σ H) :
  ∃ W : Nat → Nat → St → Hp → Prop,(∃ m,W 0 m σ H) ∧ ∀ i m σ H,W i m σ H →
   ((Idk P w a ep xs).stop i H ∧ D.nx σ H) ∨ ((Idk P w a ep xs).go i H ∧ ∃ N : St → Hp → Prop,(∀ σ' H',N σ' H' → ∃ m',m' < m ∧ W (i + 1) m' σ' H') ∧ ∀ x H',(Idk P w a ep xs).yld i H x H' → g x σ H' fun σ2 H2=>tb { D with nx:=N,ct:=N,bk:=D.nx } σ2 H2):=by
 refine ⟨fun i m σ H=>m = xs.length - i ∧ i ≤ xs.length ∧ Pv i σ H,⟨xs.length,by simp,Nat.zero_le _,h0⟩,?_⟩
 rintro i m σ H ⟨rfl,hi,p⟩
 have q:=hl i σ H hi p
 by_cases hlt : i < xs.length
 ·refine .inr ⟨⟨q,hlt⟩,Pv (i + 1),fun σ' H' p'=>⟨xs.length - (i + 1),by omega,rfl,hlt,p'⟩,fun x H' y=>?_⟩
  obtain ⟨r,e,hr,e1,rfl,rfl⟩:=y
  exact hs i e r σ H e1 hr p
 ·have e : i = xs.length:=by omega
  subst e
  exact .inl ⟨⟨q,Nat.le_refl _⟩,hd σ H p⟩
end L2
set_option maxHeartbeats 4000000
namespace K46
open PySem L2
noncomputable def top (i : Nat) : Stmt:=PySem.Challenge.pw_rotafair_k46_whole_settled.main.body.getD i (.Pass ⟨0,0,0,0⟩)
noncomputable abbrev J0c : Stmt:=J71 (top 1) 0
noncomputable abbrev JN : Stmt:=J71 (top 2) 0
noncomputable abbrev JW : Stmt:=top 3
noncomputable abbrev J0m : Stmt:=top 4
noncomputable abbrev J0f : Stmt:=top 5
noncomputable abbrev J0l : Stmt:=top 6
noncomputable abbrev JO : Stmt:=top 7
noncomputable abbrev JF : Stmt:=top 8
noncomputable abbrev J0h : Stmt:=top 9
noncomputable abbrev J0J : Stmt:=top 10
noncomputable abbrev J0d : Stmt:=top 11
noncomputable abbrev J0k : Stmt:=top 12
noncomputable abbrev J0t : Stmt:=top 13
noncomputable abbrev JD : Stmt:=top 14
noncomputable abbrev J1P : Stmt:=top 15
noncomputable abbrev JC : Stmt:=top 16
noncomputable abbrev J1t : Stmt:=top 17
noncomputable abbrev JY : Stmt:=top 19
noncomputable abbrev J0o : Stmt:=top 20
noncomputable abbrev JB : Stmt:=top 21
noncomputable abbrev JR : Stmt:=top 22
noncomputable abbrev J05 : Stmt:=top 23
noncomputable abbrev JZ : Stmt:=top 24
noncomputable abbrev J0g : Stmt:=top 25
noncomputable abbrev J1e : Stmt:=top 26
theorem J5d : Jw ["self","many","arcs"] ["self","many","arcs"] (J3 J0c):=⟨rfl,rfl,rfl,by decide +kernel,rfl,by decide +kernel,by decide +kernel⟩
theorem J4u : Jw ["self","net"] ["self","net"] (J3 JN):=⟨rfl,rfl,rfl,by decide +kernel,rfl,by decide +kernel,by decide +kernel⟩
theorem J4E : Jw ["arc","prices"] ["arc","prices"] (J3 JW):=⟨rfl,rfl,rfl,by decide +kernel,rfl,by decide +kernel,by decide +kernel⟩
theorem J5U : Jw ["net","flows"] ["net","flows"] (J3 J0m):=⟨rfl,rfl,rfl,by decide +kernel,rfl,by decide +kernel,by decide +kernel⟩
theorem J12 : Jw ["net","prices","total","arc","weight"] ["net","prices"] (J3 J0f):=⟨rfl,rfl,rfl,by decide +kernel,rfl,by decide +kernel,by decide +kernel⟩
theorem J5Z : Jw ["net","flows"] ["net","flows"] (J3 J0l):=⟨rfl,rfl,rfl,by decide +kernel,rfl,by decide +kernel,by decide +kernel⟩
theorem J4v : Jw ["net","flows","prices"] ["net","flows","prices"] (J3 JO):=⟨rfl,rfl,rfl,by decide +kernel,rfl,by decide +kernel,by decide +kernel⟩
theorem J3r : Jw ["arc","number","weight"] ["arc","number","weight"] (J3 JF):=⟨rfl,rfl,rfl,by decide +kernel,rfl,by decide +kernel,by decide +kernel⟩
theorem J2e : Jw ["net","nodes","within","must_leave","can_come"] ["net","nodes"] (J3 J0h):=⟨rfl,rfl,rfl,by decide +kernel,rfl,by decide +kernel,by decide +kernel⟩
theorem J2K : Jw ["many","nodes","found","node"] ["many","nodes"] (J3 J0J):=⟨rfl,rfl,rfl,by decide +kernel,rfl,by decide +kernel,by decide +kernel⟩
theorem J1o : Jw ["net","flows","spare","number","arc"] ["net","flows"] (J3 J0d):=⟨rfl,rfl,rfl,by decide +kernel,rfl,by decide +kernel,by decide +kernel⟩
theorem J1Q : Jw ["net","ways","number","arc"] ["net"] (J3 J0k):=⟨rfl,rfl,rfl,by decide +kernel,rfl,by decide +kernel,by decide +kernel⟩
theorem J1z : Jw ["net","work","far","steps","node"] ["net"] (J3 J0t):=⟨rfl,rfl,rfl,by decide +kernel,rfl,by decide +kernel,by decide +kernel⟩
theorem JE : Jw ["work","far","steps","waiting","node","number","other","sign","length"] ["work","far","steps"] (J3 JD):=⟨rfl,rfl,rfl,by decide +kernel,rfl,by decide +kernel,by decide +kernel⟩
theorem J6J : Jw ["work","number","sign","arc"] ["work","number","sign"] (J3 J1P):=⟨rfl,rfl,rfl,by decide +kernel,rfl,by decide +kernel,by decide +kernel⟩
theorem J14 : Jw ["work","far","reach","node","length"] ["work","far","reach"] (J3 JC):=⟨rfl,rfl,rfl,by decide +kernel,rfl,by decide +kernel,by decide +kernel⟩
theorem J16 : Jw ["work","steps","node","path","start","rooms","many","number","before","sign"] ["work","steps","node"] (J3 J1t):=⟨rfl,rfl,rfl,by decide +kernel,rfl,by decide +kernel,by decide +kernel⟩
theorem JM : Jw ["_law_cell","_law_many","_law_found","_law_number","_law_k","_law_left_over"] ["_law_cell","_law_many"] (J3 JY):=⟨rfl,rfl,rfl,by decide +kernel,rfl,by decide +kernel,by decide +kernel⟩
theorem J02 : Jw ["_law_cell","_law_many","_law_xs","_law_least","_law_most","_law_cost","_law_great"] ["_law_cell","_law_many"] (J3 J0o):=⟨rfl,rfl,rfl,by decide +kernel,rfl,by decide +kernel,by decide +kernel⟩
theorem J3k : Jw ["_law_found","_law_many"] ["_law_found","_law_many"] (J3 JB):=⟨rfl,rfl,rfl,by decide +kernel,rfl,by decide +kernel,by decide +kernel⟩
theorem J13 : Jw ["_law_net","_law_many","_law_arcs","_law_told","_law_prices","_law_spare","_law_arc_here","_law_number","_law_weight"] ["_law_net","_law_many","_law_arcs","_law_told","_law_prices"] (J3 JR):=⟨rfl,rfl,rfl,by decide +kernel,rfl,by decide +kernel,by decide +kernel⟩
theorem J1R : Jw ["_law_net","_law_many","_law_arcs","_law_nodes","_law_k","_law_leave","_law_come"] ["_law_net","_law_many","_law_arcs","_law_nodes"] (J3 J05):=⟨rfl,rfl,rfl,by decide +kernel,rfl,by decide +kernel,by decide +kernel⟩
theorem J4F : Jw ["_law_net","_law_many","_law_arcs","_law_found"] ["_law_net","_law_many","_law_arcs","_law_found"] (J3 JZ):=⟨rfl,rfl,rfl,by decide +kernel,rfl,by decide +kernel,by decide +kernel⟩
theorem J08 : Jw ["_law_cells","_law_first","_law_arcs","_law_k","_law_xs","_law_cost","_law_cell"] ["_law_cells","_law_first"] (J3 J0g):=⟨rfl,rfl,rfl,by decide +kernel,rfl,by decide +kernel,by decide +kernel⟩
theorem J0T : Jw ["_law_script","_law_many","_law_first","_law_arcs","_law_net","_law_found","_law_word","_law_again"] ["_law_script"] (J3 J1e):=⟨rfl,rfl,rfl,by decide +kernel,rfl,by decide +kernel,by decide +kernel⟩
structure Tx (K : PySem.W.Frag) (mg : Str → Option Value) (Je J8 J4 : Addr) : Prop where
 J61 : MF K Je "__init__" "Net.__init__" J0c
 J5g : MF K J8 "__init__" "Work.__init__" JN
 J57 : GF K mg "weight_of" JW
 J7b : GF K mg "cost_of" J0m
 J5V : GF K mg "floor_of" J0f
 J7g : GF K mg "is_flow" J0l
 J5b : GF K mg "is_priced" JO
 J3W : GF K mg "keeps_price" JF
 J8c : GF K mg "is_cut" J0h
 J8a : GF K mg "marked" J0J
 J5Y : GF K mg "spare_of" J0d
 J7c : GF K mg "ways_of" J0k
 J8m : GF K mg "settle" J0t
 J3l : GT K mg "nearest_lack" JD J4
 JaN : GF K mg "room" J1P
 J3B : GF K mg "shift_prices" JC
 JaS : GF K mg "push" J1t
 J58 : GF K mg "_law_drawn" JY
 J7a : GF K mg "_law_arc" J0o
 J3Y : GF K mg "_law_numbers" JB
 J6a : GF K mg "_law_flow" JR
 J7e : GF K mg "_law_cut" J05
 J5f : GF K mg "_law_right" JZ
 J62 : GF K mg "_law_long" J0g
 JcB : GF K mg "law" J1e
 J11 : CF K mg "Net" Je
 J0S : CF K mg "Work" J8
 JH : J0V K Je "many"
 JA : J0V K Je "arcs"
 J0R : J0V K J8 "net"
 J01 : J0V K J8 "prices"
 JX : J0V K J8 "flows"
 J0e : J0V K J8 "spare"
 J10 : J0V K J8 "ways"
 J3q : mg "all" = none
 J54 : mg "any" = none
 J4z : mg "bool" = none
 J1n : mg "enumerate" = none
 J6L : mg "int" = none
 JV : mg "isinstance" = none
 J0C : mg "len" = none
 J0Q : mg "list" = none
 J45 : mg "min" = none
 J0I : mg "range" = none
 J6F : mg "set" = none
 J2Y : mg "sum" = none
 J3a : mg "tuple" = none
 J2V : mg "zip" = none
theorem J6x {n : Nat} (h : n ≤ 1000) : n ≤ sizeLine:=Nat.le_trans h (by decide)
theorem J8z {α : Type} (l : List α) (k : Int) (h0 : 0 ≤ k) : cutN l (some k) none = l.drop k.toNat:=by
 unfold cutN
 have e : HT.sIx l.length 0 (some k) = min k.toNat l.length:=by
  show (if k < 0 then _ else min k.toNat l.length) = _
  rw [if_neg (by omega)]
 rw [e,HT.sIx_none]
 by_cases h : k.toNat ≤ l.length
 ·rw [Nat.min_eq_left h]
  exact List.take_of_length_le (by rw [List.length_drop]; omega)
 ·rw [Nat.min_eq_right (by omega),List.drop_eq_nil_of_le (Nat.le_refl _),List.drop_eq_nil_of_le (by omega),List.take_nil]
theorem J8I {α : Type} (l : List α) (k : Int) (h0 : 0 ≤ k) : cutN l none (some k) = l.take k.toNat:=by
 unfold cutN
 have e : HT.sIx l.length l.length (some k) = min k.toNat l.length:=by
  show (if k < 0 then _ else min k.toNat l.length) = _
  rw [if_neg (by omega)]
 rw [e,HT.sIx_none,List.drop_zero,Nat.sub_zero]
 by_cases h : k.toNat ≤ l.length
 ·rw [Nat.min_eq_left h]
 ·rw [Nat.min_eq_right (by omega),List.take_of_length_le (Nat.le_refl _),List.take_of_length_le (by omega)]
theorem Ja2 {α : Type} (l : List α) (i : Int) (h0 : 0 ≤ i) (h : i < l.length) : ∃ c,atI l i = some c ∧ l[i.toNat]? = some c:=by
 have hi : i.toNat < l.length:=by omega
 have e : i = ((i.toNat : Nat) : Int):=by omega
 have q : atI l ((i.toNat : Nat) : Int) = some l[i.toNat]:=J0z (by simp [hi])
 rw [← e] at q
 exact ⟨l[i.toNat],q,List.getElem?_eq_getElem hi⟩
theorem JbY (ns : List Int) (i : Int) (h0 : 0 ≤ i) (h : i < ns.length) : ∃ z,atI (ns.map V.int) i = some (.int z) ∧ ns[i.toNat]? = some z:=by
 obtain ⟨c,h1,h2⟩:=Ja2 (ns.map V.int) i h0 (by rw [List.length_map]; exact h)
 rw [List.getElem?_map] at h2
 cases hz : ns[i.toNat]? with
 | none=>rw [hz] at h2; cases h2
 | some z =>
  rw [hz] at h2
  have e : c = .int z:=(Option.some.inj h2).symm
  subst e
  exact ⟨z,h1,rfl⟩
theorem JbG {p : (Nat → Nat → St → Hp → Prop) → Prop} (h : ∃ W,p W) : ∃ W,p W:=h
theorem Jab {p : (Nat → St → Hp → Prop) → Prop} (h : ∃ W,p W) : ∃ W,p W:=h
theorem Jcl {A B : Prop} (h : B) : if (!true) = true then A else B:=h
theorem Jct {A B : Prop} (h : A) : if (!false) = true then A else B:=h
theorem J9O {i j : Int} (h1 : 0 < j) (h2 : j < 1073741824) : CDiv i j:=⟨h1,h2⟩
theorem Jch {i j : Int} (h1 : -(2 ^ 64) < i) (h2 : i < 2 ^ 64) : CMul i j:=.inl ⟨h1,h2⟩
theorem Jcp {i j : Int} (h1 : -(2 ^ 64) < j) (h2 : j < 2 ^ 64) : CMul i j:=.inr ⟨h1,h2⟩
theorem Jc3 {n : Int} (h : 0 < n) : 0 < n:=h
@[irreducible] def Here (p : Prop) : Prop:=p
theorem Here.mk {p : Prop} (h : p) : Here p:=by unfold Here; exact h
theorem Here.out {p : Prop} (h : Here p) : p:=by unfold Here at h; exact h
theorem J07 {i : Nat} {v : V} {σ σ' : St} {H : Hp} {Q : St → Hp → Prop} (e : σ.set i (some v) = σ') (h : Q σ' H) : J4r i v σ H Q:=by subst e; exact h
theorem J6q {n : Nat} (h : n ≤ 100000) : n ≤ sizeLine:=Nat.le_trans h (by decide)
theorem J2R {n : Nat} (h : n ≤ 100000) : n < sizeLine:=Nat.lt_of_le_of_lt h (by decide)
local macro_rules | `(tactic| walk_at "len")=>`(tactic| (simp only [List.length_append,List.length_cons,List.length_nil,List.length_singleton,List.length_take,List.length_drop,List.length_map,List.length_reverse,List.length_range] <;> omega))
local macro_rules | `(tactic| walk_at "st")=>`(tactic| (try simp only [L2.start,List.map_cons,List.map_nil,List.length_cons,List.length_nil,Nat.reduceAdd,Nat.reduceSub,List.replicate_succ,List.replicate_zero,List.cons_append,List.nil_append]))
local macro_rules | `(tactic| walk_at "lk")=>`(tactic| fail)
local macro_rules | `(tactic| walk_at "cl")=>`(tactic| first
 | (with_reducible assumption) | rfl
 | (with_reducible show @LE.le Nat _ _ _; first | omega | (walk_at "len") | exact J6q (by omega) | exact J6q (by walk_at "len"))
 | (with_reducible show @LT.lt Nat _ _ _; first | omega | (walk_at "len") | exact J2R (by omega) | exact J2R (by walk_at "len"))
 | (with_reducible show @LE.le Int _ _ _; omega) | (with_reducible show @LT.lt Int _ _ _; omega)
 | ((with_reducible refine J9O ?_ ?_) <;> omega) | ((with_reducible refine Jch ?_ ?_) <;> omega) | ((with_reducible refine Jcp ?_ ?_) <;> omega) | ((with_reducible refine Jc3 ?_) <;> omega)
 | exact Jc | exact JK (by with_reducible assumption) _ _ _ Jc | exact SqL.of (by with_reducible assumption) | exact SqL.of Jc | exact SqT.of Jc | exact SqT.of (by with_reducible assumption) | exact Or.inl (by with_reducible assumption) | exact Or.inl (SqL.of (by with_reducible assumption)) | exact Or.inl (SqL.of Jc)
 | exact Or.inl ⟨rfl,_,SqL.of (by with_reducible assumption)⟩ | exact Or.inl ⟨rfl,_,SqL.of Jc⟩ | exact Or.inl ⟨rfl,_,by with_reducible assumption⟩ | exact ⟨_,by with_reducible assumption⟩ | exact ⟨_,SqL.of (by with_reducible assumption)⟩ | exact ⟨_,SqL.of Jc⟩
 | exact ⟨by omega,by omega⟩ | assumption | walk_at "lk")
local macro_rules | `(tactic| walk_at "rd1")=>`(tactic| first
 | (with_reducible refine J07 (by first | (simp only [List.set_cons_zero,List.set_cons_succ]; done) | (simp only [List.set_cons_zero,List.set_cons_succ]; rfl)) ?_)
 | (with_reducible refine iteT ?_) | (with_reducible refine iteF ?_) | (with_reducible refine Jcl ?_) | (with_reducible refine Jct ?_)
 | ((fail_if_success apply JbG); (fail_if_success apply Jab); apply Exists.intro)
 | (apply And.intro; (· walk_at "cl"))
 | (refine Or.inl ⟨_,rfl,?_⟩) | (refine Or.inr (Or.inl ⟨_,rfl,?_⟩)) | (refine Or.inr (Or.inr (Or.inl ⟨_,rfl,?_⟩))) | (refine Or.inr (Or.inr (Or.inr (Or.inl ⟨_,rfl,?_⟩)))) | (refine Or.inr (Or.inr (Or.inr (Or.inr ⟨_,_,rfl,by with_reducible assumption,?_⟩)))))
local macro_rules | `(tactic| walk_at "rd")=>`(tactic| repeat (walk_at "rd1"))
theorem J34 {f : Str} {v : V} {r : List (Str × V)} : List.lookup f ((f,v) :: r) = some v:=by rw [List.lookup_cons,beq_self_eq_true]
theorem J1L {f g : Str} {v : V} {r : List (Str × V)} (h : f ≠ g) : List.lookup f ((g,v) :: r) = List.lookup f r:=by rw [List.lookup_cons,beq_eq_false_iff_ne.mpr h]
theorem putN {f : Str} {v : V} : ∀ {fs : List (Str × V)},(∀ g ∈ fs.map (·.1),g ≠ f) → putF f v fs = fs ++ [(f,v)]
 | [],_=>rfl
 | (g,x) :: r,h=>by
  have h1 : ¬ g = f:=h g (by simp)
  have ih:=putN (f:=f) (v:=v) (fs:=r) fun g hg=>h g (by rw [List.map_cons]; exact List.mem_cons_of_mem _ hg)
  show (if g = f then (g,v) :: r else (g,x) :: putF f v r) = _
  rw [if_neg h1,ih]
  rfl
noncomputable def But (p : Addr) (H H' : Hp) : Prop:=∀ a o,a ≠ p → H a = some o → H' a = some o
theorem But.refl (p : Addr) (H : Hp) : But p H H:=fun _ _ _ h=>h
theorem But.at {p : Addr} {H H' : Hp} {o : HO} (b : But p H H') : But p H (upd H' p o):=fun a u n e=>by rw [J7 n]; exact b a u n e
theorem But.new {p l : Addr} {H H' : Hp} {o : HO} (b : But p H H') (hl : H' l = none) : But p H (upd H' l o):=fun a u n e=>by
 have:=b a u n e
 rw [J7 (Jb this hl)]; exact this
theorem J4j {H H' : Hp} {x dx : Addr} {u o : HO} (nx : H x = none) (nd : H dx = none) (b : But x (upd (upd H dx u) x o) H') : Same H H':=fun a v e=>by
 have h1 : a ≠ x:=Jb e nx
 refine b a v h1 ?_
 rw [J7 h1,J7 (Jb e nd)]
 exact e
theorem J2j {H : Hp} {x dx a : Addr} {u o : HO} (h : upd (upd H dx u) x o a = none) : H a = none:=by
 have h1 : a ≠ x:=fun z=>by subst z; rw [Jc] at h; cases h
 rw [J7 h1] at h
 have h2 : a ≠ dx:=fun z=>by subst z; rw [Jc] at h; cases h
 rw [J7 h2] at h
 exact h
theorem J3h {H : Hp} {x dx a : Addr} {u o v : HO} (nx : H x = none) (nd : H dx = none) (e : H a = some v) : upd (upd H dx u) x o a = some v:=by
 rw [J7 (Jb e nx),J7 (Jb e nd)]; exact e
noncomputable def J6 (ns : List Int) (k : Int) : Int:=ns.getD k.toNat 0
theorem Jt {ns : List Int} {k : Int} (h0 : 0 ≤ k) (h : k < ns.length) : atI (ns.map V.int) k = some (.int (J6 ns k)):=by
 obtain ⟨z,h1,h2⟩:=JbY ns k h0 h
 unfold J6
 rw [h1,List.getD_eq_getElem?_getD,h2]
 rfl
theorem newl {H : Hp} {l : Addr} {xs : List V} (h : H l = none) : ∃ H',H' = upd H l (.lst xs) ∧ H' l = some (.lst xs) ∧ Same H H':=⟨_,rfl,Jc,JK h _⟩
theorem newt {H : Hp} {l : Addr} {xs : List V} (h : H l = none) : ∃ H',H' = upd H l (.tup xs) ∧ H' l = some (.tup xs) ∧ Same H H':=⟨_,rfl,Jc,JK h _⟩
theorem iV (a b : Int) : decide (V.int a = V.int b) = decide (a = b):=by
 by_cases h : a = b
 ·subst h; simp
 ·rw [decide_eq_false h,decide_eq_false fun z=>h (V.int.inj z)]
noncomputable abbrev fN (a b : V) : List (Str × V):=[("many",a),("arcs",b)]
theorem J0Z (a b : V) : List.lookup ("many" : Str) (fN a b) = some a:=J34
theorem J0Y (a b : V) : List.lookup ("arcs" : Str) (fN a b) = some b:=by rw [J1L (by decide +kernel),J34]
structure Ar where
 s : Int
 g : Int
 l : Int
 m : Int
 c : Int
noncomputable def ArT : Ar → V → Hp → Prop:=fun a y H=>∃ t,y = .ref t ∧ H t = some (.tup [.int a.s,.int a.g,.int a.l,.int a.m,.int a.c])
theorem ArT.keeps (a : Ar) (y : V) (Ha Hb : Hp) (k : J1i Ha Hb) (h : ArT a y Ha) : ArT a y Hb:=let ⟨t,e,h⟩:=h; ⟨t,e,k _ _ h fun zs z=>by cases z⟩
noncomputable def J3N (C : Addr) (H : Hp) (p : Addr) (m : Int) (l : Addr) : Prop:=∃ dx,H p = some (.ins C dx (fN (.int m) (.ref l)))
noncomputable def NetA (C : Addr) (H : Hp) (p : Addr) (m : Int) (xs : List V) (as : List Ar) : Prop:=∃ l,J3N C H p m l ∧ H l = some (.lst xs) ∧ All2 ArT H as xs
theorem NetA.same {C : Addr} {H H' : Hp} {p : Addr} {m : Int} {xs : List V} {as : List Ar} (x : NetA C H p m xs as) (s : Same H H') : NetA C H' p m xs as:=by
 obtain ⟨l,⟨dx,h1⟩,h2,h3⟩:=x
 exact ⟨l,⟨dx,s _ _ h1⟩,s _ _ h2,h3.imp fun a y=>ArT.keeps a y _ _ s.keeps⟩
theorem ArT.refs {H : Hp} : ∀ {as : List Ar} {xs : List V},All2 ArT H as xs → ∀ x ∈ xs,∃ p,x = .ref p
 | [],[],_,x,hx=>by cases hx
 | a :: as,y :: ys,h,x,hx=>by
  rcases List.mem_cons.mp hx with rfl | z
  ·obtain ⟨t,e,_⟩:=h.1
   exact ⟨t,e⟩
  ·exact ArT.refs h.2 x z
 | [],_ :: _,h,_,_=>h.elim
 | _ :: _,[],h,_,_=>h.elim
noncomputable def J56 (C : Addr) : Sp:=fun vs H Q _=>∃ p dx m b xs,vs = [.ref p,m,.ref b] ∧ H p = some (.ins C dx []) ∧ H b = some (.lst xs) ∧ ∀ H' l,But p H H' → H' p = some (.ins C dx (fN m (.ref l))) → H' l = some (.lst xs) → H l = none → Q .non H'
noncomputable def rNet (C : Addr) : List V → Hp → VK → Prop:=fun vs H Q=>∃ m b xs,vs = [.int m,.ref b] ∧ H b = some (.lst xs) ∧ ∀ p H' l,Same H H' → J3N C H' p m l → H' l = some (.lst xs) → H l = none → Q (.ref p) H'
theorem Jc6 {C : Addr} : ∀ vs H Q,rNet C vs H Q → ∀ x dx,H x = none → H dx = none → dx ≠ x → J56 C (.ref x :: (vs ++ [])) (upd (upd H dx (.own x)) x (.ins C dx [])) (fun v H2=>v = .non ∧ Q (.ref x) H2) E0:=by
 rintro _ H Q ⟨m,b,xs,rfl,h1,q⟩ x dx nx nd _
 exact ⟨x,dx,_,b,xs,rfl,Jc,J3h nx nd h1,fun H' l b e e1 n1=>⟨rfl,q x H' l (J4j nx nd b) ⟨dx,e⟩ e1 (J2j n1)⟩⟩
noncomputable def ArOk (n : Nat) (a : Ar) : Prop:=0 ≤ a.s ∧ a.s < (n : Int) ∧ 0 ≤ a.g ∧ a.g < (n : Int) ∧ 0 ≤ a.l ∧ a.l ≤ 100 ∧ 0 ≤ a.m ∧ a.m ≤ 100
noncomputable def wtF (ps : List Int) (a : Ar) : Int:=a.c + J6 ps a.s - J6 ps a.g
noncomputable def mnF (i j : Int) : Int:=if j < i then j else i
noncomputable def fl1 (ps : List Int) (a : Ar) : Int:=mnF (wtF ps a * a.l) (wtF ps a * a.m)
noncomputable def J1U (ps : List Int) (as : List Ar) : Int:=(as.map (fl1 ps)).sum
theorem J5G {ps : List Int} {as : List Ar} {i : Nat} {a : Ar} (h : as[i]? = some a) : J1U ps (as.take (i + 1)) = J1U ps (as.take i) + fl1 ps a:=by
 unfold J1U
 rw [List.take_add_one,h,List.map_append,List.sum_append]
 show _ + (fl1 ps a + 0) = _
 rw [Int.add_zero]
noncomputable def J5M (zs : List (Int × Ar)) : Int:=(zs.map fun p=>p.1 * p.2.c).sum
noncomputable def inB (p : Int × Ar) : Bool:=decide (p.2.l ≤ p.1) && decide (p.1 ≤ p.2.m)
noncomputable def st1 (xs : List Int) (p : Int × Ar) : List Int:=(xs.set p.2.s.toNat (J6 xs p.2.s - p.1)).set p.2.g.toNat (J6 (xs.set p.2.s.toNat (J6 xs p.2.s - p.1)) p.2.g + p.1)
noncomputable def spF (m : Nat) (zs : List (Int × Ar)) : List Int:=zs.foldl st1 (List.replicate m 0)
theorem J6Y (xs : List Int) (p : Int × Ar) : (st1 xs p).length = xs.length:=by unfold st1; rw [List.length_set,List.length_set]
theorem J5B : ∀ (zs : List (Int × Ar)) (xs : List Int),(zs.foldl st1 xs).length = xs.length
 | [],_=>rfl
 | z :: zs,xs=>by rw [List.foldl_cons,J5B zs,J6Y]
theorem J17 (m : Nat) (zs : List (Int × Ar)) : (spF m zs).length = m:=by unfold spF; rw [J5B,List.length_replicate]
theorem J5w {m : Nat} {zs : List (Int × Ar)} {i : Nat} {p : Int × Ar} (h : zs[i]? = some p) : spF m (zs.take (i + 1)) = st1 (spF m (zs.take i)) p:=by
 unfold spF
 rw [List.take_add_one,h,List.foldl_append]
 rfl
noncomputable def nzB (n : Int) : Bool:=n != 0
noncomputable def J1Z (m : Nat) (as : List Ar) (fs : List Int) : Bool:=decide (fs.length = as.length) && ((fs.zip as).all inB && !((spF m (fs.zip as)).any nzB))
noncomputable def kp1 (a : Ar) (n w : Int) : Bool:=if 0 < w then decide (n = a.l) else decide (w = 0) || decide (n = a.m)
noncomputable def kpB (ps : List Int) (p : Int × Ar) : Bool:=kp1 p.2 p.1 (wtF ps p.2)
noncomputable def J2k (m : Nat) (as : List Ar) (fs ps : List Int) : Bool:=decide (ps.length = m) && (J1Z m as fs && (fs.zip as).all (kpB ps))
theorem J1W {n : Nat} {k : Int} (h0 : 0 ≤ k) (h : k < n) : ixN n k = some k.toNat:=by
 unfold ixN
 rw [if_pos h0,if_pos h]
theorem J0j (l : List Int) (j : Nat) (z : Int) : (l.map V.int).set j (.int z) = (l.set j z).map V.int:=by rw [List.map_set]
noncomputable def J7d (K : PySem.W.Frag) : Sp:=fun vs H Q _=>∃ (t l : Addr) (a : Ar) (ps : List Int),vs = [.ref t,.ref l] ∧ H t = some (.tup [.int a.s,.int a.g,.int a.l,.int a.m,.int a.c]) ∧ SqL K H l (ps.map V.int) ∧ ArOk ps.length a ∧ Q (.int (wtF ps a)) H
noncomputable def J8n (K : PySem.W.Frag) (C : Addr) : Sp:=fun vs H Q _=>∃ (n l : Addr) (m : Int) (xs : List V) (as : List Ar) (ps : List Int),vs = [.ref n,.ref l] ∧ NetA C H n m xs as ∧ H l = some (.lst (ps.map V.int)) ∧ (∀ a ∈ as,ArOk ps.length a) ∧ Q (.int (J1U ps as)) H
noncomputable def J8q (K : PySem.W.Frag) (C : Addr) : Sp:=fun vs H Q _=>∃ (n l : Addr) (m : Nat) (xs : List V) (as : List Ar) (fs : List Int),vs = [.ref n,.ref l] ∧ NetA C H n m xs as ∧ H l = some (.lst (fs.map V.int)) ∧ fs.length = as.length ∧ m ≤ 100 ∧ (∀ a ∈ as,ArOk m a) ∧ ∀ D H',H D = none → Same H H' → H' D = some (.lst ((spF m (fs.zip as)).map V.int)) → Q (.ref D) H'
noncomputable def J9y (K : PySem.W.Frag) (C : Addr) : Sp:=fun vs H Q _=>∃ (n l : Addr) (m : Nat) (xs : List V) (as : List Ar) (fs : List Int),vs = [.ref n,.ref l] ∧ NetA C H n m xs as ∧ H l = some (.lst (fs.map V.int)) ∧ m ≤ 100 ∧ as.length ≤ 500 ∧ (∀ a ∈ as,ArOk m a) ∧ ∀ H',Same H H' → Q (.bl (J1Z m as fs)) H'
noncomputable def J8i : Sp:=fun vs H Q _=>∃ (t : Addr) (a : Ar) (n wt : Int),vs = [.ref t,.int n,.int wt] ∧ H t = some (.tup [.int a.s,.int a.g,.int a.l,.int a.m,.int a.c]) ∧ Q (.bl (kp1 a n wt)) H
noncomputable def J7j (K : PySem.W.Frag) (C : Addr) : Sp:=fun vs H Q _=>∃ (n l pl : Addr) (m : Nat) (xs : List V) (as : List Ar) (fs ps : List Int),vs = [.ref n,.ref l,.ref pl] ∧ NetA C H n m xs as ∧ H l = some (.lst (fs.map V.int)) ∧ H pl = some (.lst (ps.map V.int)) ∧ m ≤ 100 ∧ as.length ≤ 500 ∧ (∀ a ∈ as,ArOk m a) ∧ ∀ H',Same H H' → Q (.bl (J2k m as fs ps)) H'
noncomputable def J9z (K : PySem.W.Frag) (C : Addr) : Sp:=fun vs H Q _=>∃ (n l : Addr) (m : Nat) (xs : List V) (as : List Ar) (fs : List Int),vs = [.ref n,.ref l] ∧ NetA C H n m xs as ∧ H l = some (.lst (fs.map V.int)) ∧ fs.length = as.length ∧ as.length ≤ 500 ∧ (∀ f ∈ fs,-1000 ≤ f ∧ f ≤ 1000) ∧ ∀ H',Same H H' → Q (.int (J5M (fs.zip as))) H'
theorem J6u {α : Type} {H : Hp} {f : α → Bool} {xs : List α} {ys : List V} (h : All2 (fun a y _=>y = V.bl (f a)) H (xs.filter fun _=>true) ys) : ys = (xs.map f).map V.bl:=by
 rw [h.eqmap (f:=fun a=>V.bl (f a)) (fun a y e=>e),List.filter_eq_self.mpr fun _ _=>rfl,List.map_map]
 rfl
theorem J4H {α : Type} {H : Hp} {f : α → Int} {xs : List α} {ys : List V} (h : All2 (fun a y _=>y = V.int (f a)) H (xs.filter fun _=>true) ys) : ys = (xs.map f).map V.int:=by
 rw [h.eqmap (f:=fun a=>V.int (f a)) (fun a y e=>e),List.filter_eq_self.mpr fun _ _=>rfl,List.map_map]
 rfl
theorem J6j {α : Type} (f : α → Bool) (xs : List α) : (xs.map f).all id = xs.all f:=by rw [List.all_map]; rfl
noncomputable def inI (n : Int) (ns : List Int) : Bool:=decide (n ∈ ns)
noncomputable def rgB (m : Nat) (n : Int) : Bool:=decide (0 ≤ n) && decide (n < (m : Int))
noncomputable def okN (m : Nat) (ns : List Int) : Bool:=ns.all (rgB m)
noncomputable def lvB (ns : List Int) (a : Ar) : Bool:=inI a.s ns && !inI a.g ns
noncomputable def cmB (ns : List Int) (a : Ar) : Bool:=inI a.g ns && !inI a.s ns
noncomputable def J3L (as : List Ar) (ns : List Int) : Int:=((as.filter (lvB ns)).map (·.l)).sum
noncomputable def J5q (as : List Ar) (ns : List Int) : Int:=((as.filter (cmB ns)).map (·.m)).sum
noncomputable def cutB (m : Nat) (as : List Ar) (ns : List Int) : Bool:=decide (J0G ns = ns.length) && (okN m ns && decide (J5q as ns < J3L as ns))
theorem J72 (ns : List Int) (x : Int) : (ns ++ [x]).foldl PyProof.Rows.step_dedup [] = PyProof.Rows.step_dedup (ns.foldl PyProof.Rows.step_dedup []) x:=by rw [List.foldl_append]; rfl
theorem J6k (k : Int) : ∀ (r ns : List Int),r = ns.reverse → ((ns.foldl PyProof.Rows.step_dedup []).any (· == k)) = decide (k ∈ ns)
 | [],ns,h=>by
  have : ns = []:=by simpa using h.symm
  subst this
  rfl
 | x :: r,ns,h=>by
  have e : ns = r.reverse ++ [x]:=by rw [← List.reverse_reverse ns,← h,List.reverse_cons]
  subst e
  have ih:=J6k k r r.reverse (by simp)
  have ix:=J6k x r r.reverse (by simp)
  rw [J72]
  unfold PyProof.Rows.step_dedup at ih ix ⊢
  by_cases hx : x ∈ r.reverse
  ·rw [decide_eq_true hx] at ix
   rw [if_pos ix,ih]
   by_cases hk : k ∈ r.reverse
   ·rw [decide_eq_true hk,decide_eq_true (List.mem_append_left _ hk)]
   ·rw [decide_eq_false hk,decide_eq_false fun z=>?_]
    rcases List.mem_append.mp z with z | z
    ·exact hk z
    ·rw [List.mem_singleton.mp z] at hk; exact hk hx
  ·rw [decide_eq_false hx] at ix
   rw [if_neg (by rw [ix]; exact Bool.false_ne_true),List.any_append,ih]
   by_cases hk : k ∈ r.reverse
   ·rw [decide_eq_true hk,decide_eq_true (List.mem_append_left _ hk)]; rfl
   ·by_cases hkx : x = k
    ·subst hkx
     rw [decide_eq_false hk,decide_eq_true (List.mem_append_right _ (List.mem_singleton.mpr rfl))]
     simp
    ·rw [decide_eq_false hk,decide_eq_false fun z=>?_]
     ·simp [hkx]
     ·rcases List.mem_append.mp z with z | z
      ·exact hk z
      ·exact hkx (List.mem_singleton.mp z).symm
theorem J48 (ns : List Int) (x : Int) : J0G (ns ++ [x]) = if x ∈ ns then J0G ns else J0G ns + 1:=by
 unfold J0G
 rw [J72]
 have h:=J6k x ns.reverse ns rfl
 unfold PyProof.Rows.step_dedup at h ⊢
 by_cases hx : x ∈ ns
 ·rw [decide_eq_true hx] at h
  rw [if_pos h,if_pos hx]
 ·rw [decide_eq_false hx] at h
  rw [if_neg (by rw [h]; exact Bool.false_ne_true),if_neg hx,List.length_append]
  rfl
theorem J5P (ns : List Int) : ∀ (r ys : List Int),r = ys.reverse → J0G (ns ++ ys) ≤ J0G ns + ys.length
 | [],ys,h=>by
  have : ys = []:=by simpa using h.symm
  subst this
  simp
 | x :: r,ys,h=>by
  have e : ys = r.reverse ++ [x]:=by rw [← List.reverse_reverse ys,← h,List.reverse_cons]
  subst e
  have ih:=J5P ns r r.reverse (by simp)
  rw [← List.append_assoc,J48,List.length_append,List.length_singleton]
  split <;> omega
theorem J9J (ns : List Int) : J0G ns ≤ ns.length:=by
 have:=J5P [] ns.reverse ns rfl
 simpa [J0G] using this
theorem J86 {ns : List Int} {i : Nat} {x : Int} (h : ns[i]? = some x) (h0 : J0G (ns.take i) = i) (hx : ¬ x ∈ ns.take i) : J0G (ns.take (i + 1)) = i + 1:=by
 rw [List.take_add_one,h]
 show J0G (ns.take i ++ [x]) = _
 rw [J48,if_neg hx,h0]
noncomputable def wiF (m : Nat) (ns : List Int) : List Bool:=(List.range m).map fun (k : Nat)=>decide ((k : Int) ∈ ns)
theorem Jah (m : Nat) (ns : List Int) : (wiF m ns).length = m:=by unfold wiF; rw [List.length_map,List.length_range]
theorem Jc7 {m : Nat} {ns : List Int} {n : Int} (h0 : 0 ≤ n) : (wiF m ns).set n.toNat true = wiF m (ns ++ [n]):=by
 refine List.ext_getElem? fun k=>?_
 rw [List.getElem?_set]
 unfold wiF
 rw [List.getElem?_map,List.getElem?_map,List.length_map,List.length_range]
 by_cases hkm : k < m
 ·rw [List.getElem?_range hkm]
  by_cases e : n.toNat = k
  ·rw [if_pos e,if_pos (by omega)]
   show some true = some (decide ((k : Int) ∈ ns ++ [n]))
   rw [decide_eq_true (List.mem_append_right _ (List.mem_singleton.mpr (by omega)))]
  ·rw [if_neg e]
   show some (decide ((k : Int) ∈ ns)) = some (decide ((k : Int) ∈ ns ++ [n]))
   by_cases hk : (k : Int) ∈ ns
   ·rw [decide_eq_true hk,decide_eq_true (List.mem_append_left _ hk)]
   ·rw [decide_eq_false hk,decide_eq_false fun z=>?_]
    rcases List.mem_append.mp z with z | z
    ·exact hk z
    ·have:=List.mem_singleton.mp z
     omega
 ·have hn : (List.range m)[k]? = none:=List.getElem?_eq_none (by rw [List.length_range]; omega)
  rw [hn]
  by_cases e : n.toNat = k
  ·rw [if_pos e,if_neg (by omega)]; rfl
  ·rw [if_neg e]; rfl
theorem J6T {m : Nat} {ns : List Int} {s : Int} (h0 : 0 ≤ s) (h : s < (m : Int)) : atI ((wiF m ns).map V.bl) s = some (.bl (inI s ns)):=by
 have e : s = ((s.toNat : Nat) : Int):=by omega
 have hl : s.toNat < m:=by omega
 have q : atI ((wiF m ns).map V.bl) ((s.toNat : Nat) : Int) = some (.bl (inI ((s.toNat : Nat) : Int) ns)):=J0z (by
  unfold wiF inI
  rw [List.getElem?_map,List.getElem?_map,List.getElem?_range hl]
  rfl)
 rwa [← e] at q
theorem Jc4 (m : Nat) : (List.replicate m [V.bl false]).flatten = (wiF m []).map V.bl:=by
 have e : wiF m [] = List.replicate m false:=by
  unfold wiF
  rw [show (fun (k : Nat)=>decide ((k : Int) ∈ ([] : List Int))) = fun _=>false from funext fun k=>by simp,List.map_const',List.length_range]
 rw [e]
 induction m with
 | zero=>rfl
 | succ m ih =>
  have e2 : wiF m [] = List.replicate m false:=by
   unfold wiF
   rw [show (fun (k : Nat)=>decide ((k : Int) ∈ ([] : List Int))) = fun _=>false from funext fun k=>by simp,List.map_const',List.length_range]
  rw [List.replicate_succ,List.flatten_cons,ih e2,List.replicate_succ,List.map_cons]; rfl
theorem J5u (n : Int) : ∀ ns : List Int,inV (V.int n) (ns.map V.int) = inI n ns
 | []=>rfl
 | x :: r=>by
  have ih:=J5u n r
  unfold inV inI at ih ⊢
  rw [List.map_cons,List.any_cons,ih]
  have h : eqV (V.int x) (V.int n) = decide (n = x):=by
   show (x == n) = _
   by_cases z : x = n
   ·subst z; simp
   ·rw [decide_eq_false fun y=>z y.symm]; simpa using z
  rw [h]
  simp [List.mem_cons,Bool.decide_or]
theorem newo {H : Hp} {l : Addr} {o : HO} (h : H l = none) : ∃ H',H' = upd H l o ∧ H' l = some o ∧ Same H H':=⟨_,rfl,Jc,JK h _⟩
theorem J3V {α : Type} {H : Hp} {p : α → Bool} {f : α → Int} {xs : List α} {ys : List V} (h : All2 (fun a y _=>y = V.int (f a)) H (xs.filter p) ys) : ys = ((xs.filter p).map f).map V.int:=by
 rw [h.eqmap (f:=fun a=>V.int (f a)) (fun a y e=>e),List.map_map]
 rfl
noncomputable def J7f : Sp:=fun vs H Q _=>∃ (m : Nat) (l : Addr) (ns : List Int),vs = [.int m,.ref l] ∧ H l = some (.lst (ns.map V.int)) ∧ m ≤ 100 ∧ okN m ns = true ∧ ∀ D H',H D = none → Same H H' → H' D = some (.lst ((wiF m ns).map V.bl)) → Q (.ref D) H'
noncomputable def Jbp (C : Addr) : Sp:=fun vs H Q _=>∃ (n l : Addr) (m : Nat) (xs : List V) (as : List Ar) (ns : List Int),vs = [.ref n,.ref l] ∧ NetA C H n m xs as ∧ H l = some (.lst (ns.map V.int)) ∧ m ≤ 100 ∧ as.length ≤ 500 ∧ ns.length ≤ 1000 ∧ (∀ a ∈ as,ArOk m a) ∧ ∀ H',Same H H' → Q (.bl (cutB m as ns)) H'
noncomputable def Jax (_ j : Int) : Prop:=0 < j ∧ j.natAbs.log2 < 9000
theorem J8K {X : Cx} : OpR X (binaryOp .FloorDiv) (rI Jax fun i j=>.int (i / j)):=opI fun i j _ _ _ _ _ hc q=>by
 have h1 : (0 : Int) < j:=hc.1
 exact PyProof.Rows.floordiv_int (by omega) (by rw [Int.fdiv_eq_ediv_of_nonneg i (by omega)]; exact q) (.inl (PyProof.noPylong_of_log2 hc.2))
noncomputable abbrev lpos : Pos:=⟨80,32,80,60⟩
noncomputable abbrev J0P : Str:="nearest_lack.<locals>.<lambda>"
noncomputable def J39 (T : Addr) (K : PySem.W.Frag) : Sp:=fun xs H Q _=>∃ (a : Addr) (ns : List Int),xs = [.ref a] ∧ SqL K H a (ns.map V.int) ∧ ns.length ≤ 63 ∧ JU H T lpos J0P ∧ ∀ H',Q (.bl true) H'
theorem J9T {zs : List Int} {k : Int} (h0 : 0 ≤ k) (h : k < zs.length) : J6 zs k ∈ zs:=by
 unfold J6
 rw [List.getD_eq_getElem?_getD,List.getElem?_eq_getElem (show k.toNat < zs.length by omega)]
 exact List.getElem_mem _
theorem J5Q {α : Type} {P : α → V → Hp → Prop} {H : Hp} {as : List α} {ys : List V} (h : All2 P H as ys) : ∀ y ∈ ys,∃ a ∈ as,P a y H:=fun y hy=>by
 obtain ⟨j,hj⟩:=List.getElem?_of_mem hy
 obtain ⟨a,ha,p⟩:=h.back hj
 exact ⟨a,List.mem_of_getElem? ha,p⟩
noncomputable def difF (ps : List Int) (z : Int × Ar) : Int:=z.1 * (J6 ps z.2.s - J6 ps z.2.g)
theorem J3E {xs : List Int} {i : Nat} {v : Int} {k : Int} (h0 : 0 ≤ k) (hi : i < xs.length) : J6 (xs.set i v) k = if k.toNat = i then v else J6 xs k:=by
 unfold J6
 rw [List.getD_eq_getElem?_getD,List.getD_eq_getElem?_getD,List.getElem?_set]
 by_cases h : i = k.toNat
 ·rw [if_pos h,if_pos (h ▸ hi),if_pos h.symm]; rfl
 ·rw [if_neg h,if_neg fun z=>h z.symm]
theorem J94 {n : Nat} {xs : List Int} {f : Int} {a : Ar} (ok : ArOk n a) (hx : xs.length = n) (k : Int) (h0 : 0 ≤ k) : J6 (st1 xs (f,a)) k = J6 xs k - (if k = a.s then f else 0) + (if k = a.g then f else 0):=by
 obtain ⟨a0,a1,a2,a3,_⟩:=ok
 unfold st1
 simp only
 have l1 : a.s.toNat < xs.length:=by omega
 have l2 : a.g.toNat < (xs.set a.s.toNat (J6 xs a.s - f)).length:=by rw [List.length_set]; omega
 rw [J3E h0 l2,J3E h0 l1,J3E a2 l1]
 have e1 : (k.toNat = a.g.toNat) ↔ k = a.g:=by omega
 have e2 : (k.toNat = a.s.toNat) ↔ k = a.s:=by omega
 have e3 : (a.g.toNat = a.s.toNat) ↔ a.g = a.s:=by omega
 by_cases h1 : k = a.g <;> by_cases h2 : k = a.s
 ·rw [if_pos (e1.mpr h1),if_pos (e3.mpr (h1 ▸ h2)),if_pos h2,if_pos h1,← h2]
 ·rw [if_pos (e1.mpr h1),if_neg (fun z=>h2 (h1.trans (e3.mp z))),if_neg h2,if_pos h1,← h1]; omega
 ·rw [if_neg (fun z=>h1 (e1.mp z)),if_pos (e2.mpr h2),if_pos h2,if_neg h1,← h2]; omega
 ·rw [if_neg (fun z=>h1 (e1.mp z)),if_neg (fun z=>h2 (e2.mp z)),if_neg h2,if_neg h1]; omega
theorem J9r {xs ys : List Int} (hl : xs.length = ys.length) (h : ∀ k : Int,0 ≤ k → J6 xs k = J6 ys k) : xs = ys:=by
 refine List.ext_getElem hl fun i h1 h2=>?_
 have:=h (i : Int) (by omega)
 unfold J6 at this
 rw [Int.toNat_natCast,List.getD_eq_getElem?_getD,List.getD_eq_getElem?_getD,List.getElem?_eq_getElem h1,List.getElem?_eq_getElem h2] at this
 exact this
theorem JbM {w f l m : Int} (h1 : l ≤ f) (h2 : f ≤ m) : mnF (w * l) (w * m) ≤ f * w ∧ (mnF (w * l) (w * m) = f * w ↔ (if 0 < w then decide (f = l) else decide (w = 0) || decide (f = m)) = true):=by
 unfold mnF
 rw [Int.mul_comm f w]
 rcases Int.lt_trichotomy w 0 with h | h | h
 ·obtain ⟨k,rfl⟩ : ∃ k,w = -k:=⟨-w,by omega⟩
  have hk : 0 < k:=by omega
  have e1 : k * l ≤ k * f:=Int.mul_le_mul_of_nonneg_left h1 (by omega)
  have e2 : k * f ≤ k * m:=Int.mul_le_mul_of_nonneg_left h2 (by omega)
  rw [if_neg (show ¬ 0 < -k by omega),decide_eq_false (show ¬ -k = 0 by omega),Bool.false_or,Int.neg_mul,Int.neg_mul,Int.neg_mul]
  have e3 : (if -(k * m) < -(k * l) then -(k * m) else -(k * l)) = -(k * m):=by split <;> omega
  rw [e3]
  refine ⟨by omega,fun z=>decide_eq_true ?_,fun z=>?_⟩
  ·exact Int.eq_of_mul_eq_mul_left (a:=k) (by omega) (by omega)
  ·rw [of_decide_eq_true z]
 ·subst h
  rw [if_neg (show ¬ (0 : Int) < 0 by omega),Int.zero_mul,Int.zero_mul,Int.zero_mul]
  exact ⟨by simp,fun _=>rfl,fun _=>by simp⟩
 ·have e1 : w * l ≤ w * f:=Int.mul_le_mul_of_nonneg_left h1 (by omega)
  have e2 : w * f ≤ w * m:=Int.mul_le_mul_of_nonneg_left h2 (by omega)
  rw [if_pos h]
  have e3 : (if w * m < w * l then w * m else w * l) = w * l:=by split <;> omega
  rw [e3]
  refine ⟨e1,fun z=>decide_eq_true ?_,fun z=>?_⟩
  ·exact (Int.eq_of_mul_eq_mul_left (a:=w) (by omega) z).symm
  ·rw [of_decide_eq_true z]
noncomputable def wsF (ps : List Int) (zs : List (Int × Ar)) : Int:=(zs.map fun z=>z.1 * wtF ps z.2).sum
theorem J6P (ps : List Int) : ∀ zs : List (Int × Ar),wsF ps zs = J5M zs + (zs.map (difF ps)).sum
 | []=>rfl
 | z :: zs=>by
  have ih:=J6P ps zs
  unfold wsF J5M at ih ⊢
  rw [List.map_cons,List.sum_cons,List.map_cons,List.sum_cons,List.map_cons,List.sum_cons,ih]
  have e : z.1 * wtF ps z.2 = z.1 * z.2.c + difF ps z:=by
   unfold wtF difF
   rw [Int.add_sub_assoc,Int.mul_add]
  rw [e]
  omega
theorem J4l (ps : List Int) : ∀ (zs : List (Int × Ar)),zs.all inB = true → (zs.map fun z=>fl1 ps z.2).sum ≤ wsF ps zs ∧ ((zs.map fun z=>fl1 ps z.2).sum = wsF ps zs ↔ zs.all (kpB ps) = true)
 | [],_=>⟨Int.le_refl _,fun _=>rfl,fun _=>rfl⟩
 | z :: zs,h=>by
  rw [List.all_cons,Bool.and_eq_true] at h
  obtain ⟨i1,i2⟩:=J4l ps zs h.2
  have hb:=Bool.and_eq_true_iff.mp h.1
  obtain ⟨j1,j2⟩:=JbM (w:=wtF ps z.2) (of_decide_eq_true hb.1) (of_decide_eq_true hb.2)
  unfold wsF at i1 i2 ⊢
  rw [List.map_cons,List.sum_cons,List.map_cons,List.sum_cons,List.all_cons,Bool.and_eq_true]
  have e : fl1 ps z.2 = mnF (wtF ps z.2 * z.2.l) (wtF ps z.2 * z.2.m):=rfl
  rw [← e] at j1 j2
  refine ⟨by omega,fun y=>⟨?_,?_⟩,fun y=>?_⟩
  ·exact j2.mp (by omega)
  ·exact i2.mp (by omega)
  ·have y1:=j2.mpr y.1
   have y2:=i2.mpr y.2
   omega
theorem J6U (ps : List Int) : ∀ (fs : List Int) (as : List Ar),fs.length = as.length → ((fs.zip as).map fun z=>fl1 ps z.2).sum = J1U ps as
 | [],[],_=>rfl
 | f :: fs,a :: as,h=>by
  have ih:=J6U ps fs as (by simpa using h)
  unfold J1U at ih ⊢
  rw [List.zip_cons_cons,List.map_cons,List.sum_cons,List.map_cons,List.sum_cons,ih]
 | [],_ :: _,h=>by simp at h
 | _ :: _,[],h=>by simp at h
noncomputable def rmF (a : Ar) (f sg : Int) : Int:=if sg = 1 then a.m - f else f - a.l
noncomputable def Edge (as : List Ar) (fs : List Int) (u v : Int) (e : Nat) (sg : Int) : Prop:=∃ a f,as[e]? = some a ∧ fs[e]? = some f ∧ 0 < rmF a f sg ∧ ((sg = 1 ∧ a.s = u ∧ a.g = v) ∨ (sg = -1 ∧ a.g = u ∧ a.s = v))
noncomputable def arD : Ar:=⟨0,0,0,0,0⟩
noncomputable def lenF (as : List Ar) (ps : List Int) (e : Nat) (sg : Int) : Int:=sg * wtF ps (as.getD e arD)
noncomputable def RP (as : List Ar) (fs ps : List Int) : Prop:=∀ (e : Nat) a f,as[e]? = some a → fs[e]? = some f → a.l ≤ f ∧ f ≤ a.m ∧ (f < a.m → 0 ≤ wtF ps a) ∧ (a.l < f → wtF ps a ≤ 0)
theorem J0x {as : List Ar} {e : Nat} {a : Ar} (h : as[e]? = some a) : as.getD e arD = a:=by
 rw [List.getD_eq_getElem?_getD,h]
 rfl
theorem Edge.len {as : List Ar} {fs ps : List Int} {u v : Int} {e : Nat} {sg : Int} (h : Edge as fs u v e sg) (r : RP as fs ps) : 0 ≤ lenF as ps e sg:=by
 obtain ⟨a,f,ha,hf,hr,hs⟩:=h
 obtain ⟨_,_,r1,r2⟩:=r e a f ha hf
 unfold lenF
 rw [J0x ha]
 unfold rmF at hr
 rcases hs with ⟨rfl,_⟩ | ⟨rfl,_⟩
 ·rw [if_pos rfl] at hr
  have:=r1 (by omega)
  omega
 ·rw [if_neg (by decide)] at hr
  have:=r2 (by omega)
  omega
noncomputable abbrev Tab:=List (Int × Int)
noncomputable abbrev Stps:=Int → Option (Nat × Int × Int)
noncomputable def Come (as : List Ar) (fs ps sp : List Int) (F : Tab) (S : Stps) (x d : Int) : Prop :=
 (S x = none ∧ 0 < J6 sp x ∧ d = 0) ∨ ∃ e u sg du,S x = some (e,u,sg) ∧ (u,du) ∈ F ∧ Edge as fs u x e sg ∧ d = du + lenF as ps e sg
structure DJ (n : Nat) (as : List Ar) (fs ps sp : List Int) (F W : Tab) (S : Stps) (todo : Int → Int → Nat → Int → Prop) : Prop where
 nodF : (F.map (·.1)).Nodup
 nodW : (W.map (·.1)).Nodup
 dis : ∀ p ∈ F,∀ q ∈ W,p.1 ≠ q.1
 rng : ∀ p,p ∈ F ∨ p ∈ W → 0 ≤ p.1 ∧ p.1 < (n : Int)
 ord : ∀ p ∈ F,∀ q ∈ W,p.2 ≤ q.2
 rel : ∀ p ∈ F,∀ v e sg,Edge as fs p.1 v e sg → ¬ todo p.1 v e sg → ∃ d,((v,d) ∈ F ∨ (v,d) ∈ W) ∧ d ≤ p.2 + lenF as ps e sg
 src : ∀ x : Int,0 ≤ x → x < (n : Int) → 0 < J6 sp x → (x,0) ∈ F ∨ (x,0) ∈ W
 pre : ∀ (i : Nat) x d,F[i]? = some (x,d) → Come as fs ps sp (F.take i) S x d
 prw : ∀ p ∈ W,Come as fs ps sp F S p.1 p.2
 pos : ∀ p,p ∈ F ∨ p ∈ W → 0 ≤ p.2
 sst : ∀ x r,S x = some r → ∃ d,(x,d) ∈ F ∨ (x,d) ∈ W
theorem J2o {l : Tab} {x d : Int} (h : (x,d) ∈ l) : x ∈ l.map (·.1):=List.mem_map.mpr ⟨_,h,rfl⟩
theorem J1H {l : Tab} (h : (l.map (·.1)).Nodup) {x d d' : Int} (h1 : (x,d) ∈ l) (h2 : (x,d') ∈ l) : d = d':=by
 induction l with
 | nil=>cases h1
 | cons p l ih =>
  rw [List.map_cons,List.nodup_cons] at h
  rcases List.mem_cons.mp h1 with e1 | m1 <;> rcases List.mem_cons.mp h2 with e2 | m2
  ·exact (Prod.mk.inj (e1.trans e2.symm)).2
  ·exact absurd (J2o m2) (by rw [show x = p.1 from congrArg Prod.fst e1]; exact h.1)
  ·exact absurd (J2o m1) (by rw [show x = p.1 from congrArg Prod.fst e2]; exact h.1)
  ·exact ih h.2 m1 m2
theorem Come.mono {as : List Ar} {fs ps sp : List Int} {F F' : Tab} {S : Stps} {x d : Int} (h : Come as fs ps sp F S x d) (k : ∀ p ∈ F,p ∈ F') : Come as fs ps sp F' S x d:=by
 rcases h with h | ⟨e,u,sg,du,h1,h2,h3⟩
 ·exact .inl h
 ·exact .inr ⟨e,u,sg,du,h1,k _ h2,h3⟩
theorem DJ.start {n : Nat} {as : List Ar} {fs ps sp : List Int} {W : Tab} (h1 : (W.map (·.1)).Nodup) (h2 : ∀ p ∈ W,p.2 = 0 ∧ 0 ≤ p.1 ∧ p.1 < (n : Int) ∧ 0 < J6 sp p.1) (h3 : ∀ x : Int,0 ≤ x → x < (n : Int) → 0 < J6 sp x → (x,0) ∈ W) : DJ n as fs ps sp [] W (fun _=>none) (fun _ _ _ _=>False) where
 nodF:=List.nodup_nil
 nodW:=h1
 dis:=fun p hp=>nomatch hp
 rng:=fun p hp=>hp.elim (fun z=>nomatch z) fun z=>⟨(h2 p z).2.1,(h2 p z).2.2.1⟩
 ord:=fun p hp=>nomatch hp
 rel:=fun p hp=>nomatch hp
 src:=fun x a b c=>.inr (h3 x a b c)
 pre:=fun i x d h=>by simp at h
 prw:=fun p hp=>.inl ⟨rfl,(h2 p hp).2.2.2,(h2 p hp).1⟩
 pos:=fun p hp=>hp.elim (fun z=>nomatch z) fun z=>by rw [(h2 p z).1]; exact Int.le_refl _
 sst:=fun x r h=>nomatch h
theorem DJ.take {n : Nat} {as : List Ar} {fs ps sp : List Int} {F W W' : Tab} {S : Stps} {x d : Int} (h : DJ n as fs ps sp F W S (fun _ _ _ _=>False)) (hx : (x,d) ∈ W) (hm : ∀ q ∈ W,d ≤ q.2) (hW : ∀ q,q ∈ W' ↔ q ∈ W ∧ q.1 ≠ x) (hn : (W'.map (·.1)).Nodup) : DJ n as fs ps sp (F ++ [(x,d)]) W' S (fun u _ _ _=>u = x) where
 nodF:=by
  rw [List.map_append,List.nodup_append]
  refine ⟨h.nodF,by simp,fun a ha b hb e=>?_⟩
  obtain ⟨p,hp,rfl⟩:=List.mem_map.mp ha
  have : b = x:=List.mem_singleton.mp hb
  exact h.dis p hp (x,d) hx (e.trans this)
 nodW:=hn
 dis:=fun p hp q hq=>by
  obtain ⟨q1,q2⟩:=(hW q).mp hq
  rcases List.mem_append.mp hp with y | y
  ·exact h.dis p y q q1
  ·rw [List.mem_singleton.mp y]
   exact fun z=>q2 z.symm
 rng:=fun p hp=>by
  rcases hp with y | y
  ·rcases List.mem_append.mp y with y | y
   ·exact h.rng p (.inl y)
   ·rw [List.mem_singleton.mp y]
    exact h.rng _ (.inr hx)
  ·exact h.rng p (.inr ((hW p).mp y).1)
 ord:=fun p hp q hq=>by
  obtain ⟨q1,q2⟩:=(hW q).mp hq
  rcases List.mem_append.mp hp with y | y
  ·exact h.ord p y q q1
  ·rw [List.mem_singleton.mp y]
   exact hm q q1
 rel:=fun p hp v e sg he hd=>by
  rcases List.mem_append.mp hp with y | y
  ·obtain ⟨d',h1,h2⟩:=h.rel p y v e sg he (fun z=>z)
   refine ⟨d',?_,h2⟩
   rcases h1 with z | z
   ·exact .inl (List.mem_append_left _ z)
   ·by_cases hv : v = x
    ·subst hv
     rw [J1H h.nodW z hx]
     exact .inl (List.mem_append_right _ (List.mem_singleton.mpr rfl))
    ·exact .inr ((hW _).mpr ⟨z,hv⟩)
  ·rw [List.mem_singleton.mp y] at hd
   exact absurd rfl hd
 src:=fun y a b c=>by
  rcases h.src y a b c with z | z
  ·exact .inl (List.mem_append_left _ z)
  ·by_cases hv : y = x
   ·subst hv
    rw [J1H h.nodW z hx]
    exact .inl (List.mem_append_right _ (List.mem_singleton.mpr rfl))
   ·exact .inr ((hW _).mpr ⟨z,hv⟩)
 pre:=fun i y d' hi=>by
  rcases Nat.lt_or_ge i F.length with z | z
  ·rw [List.getElem?_append_left z] at hi
   rw [List.take_append_of_le_length (by omega)]
   exact h.pre i y d' hi
  ·have hl:=(List.getElem?_eq_some_iff.mp hi).1
   rw [List.length_append,List.length_singleton] at hl
   obtain rfl : i = F.length:=by omega
   rw [List.getElem?_concat_length] at hi
   obtain ⟨rfl,rfl⟩:=Prod.mk.inj (Option.some.inj hi)
   rw [List.take_append_of_le_length (Nat.le_refl _),List.take_length]
   exact h.prw _ hx
 prw:=fun p hp=>(h.prw p ((hW p).mp hp).1).mono fun q hq=>List.mem_append_left _ hq
 pos:=fun p hp=>by
  rcases hp with y | y
  ·rcases List.mem_append.mp y with y | y
   ·exact h.pos p (.inl y)
   ·rw [List.mem_singleton.mp y]
    exact h.pos _ (.inr hx)
  ·exact h.pos p (.inr ((hW p).mp y).1)
 sst:=fun y r hr=>by
  obtain ⟨d',z | z⟩:=h.sst y r hr
  ·exact ⟨d',.inl (List.mem_append_left _ z)⟩
  ·by_cases hv : y = x
   ·subst hv
    exact ⟨d,.inl (List.mem_append_right _ (List.mem_singleton.mpr rfl))⟩
   ·exact ⟨d',.inr ((hW _).mpr ⟨z,hv⟩)⟩
theorem DJ.skip {n : Nat} {as : List Ar} {fs ps sp : List Int} {F W : Tab} {S : Stps} {td td' : Int → Int → Nat → Int → Prop} (h : DJ n as fs ps sp F W S td) (hs : ∀ p ∈ F,∀ v e sg,Edge as fs p.1 v e sg → ¬ td' p.1 v e sg → td p.1 v e sg → ∃ d,((v,d) ∈ F ∨ (v,d) ∈ W) ∧ d ≤ p.2 + lenF as ps e sg) : DJ n as fs ps sp F W S td' :=
 ⟨h.nodF,h.nodW,h.dis,h.rng,h.ord,fun p hp v e sg he hd=>(Classical.em (td p.1 v e sg)).elim (fun z=>hs p hp v e sg he hd z) (fun z=>h.rel p hp v e sg he z),h.src,h.pre,h.prw,h.pos,h.sst⟩
theorem DJ.put {n : Nat} {as : List Ar} {fs ps sp : List Int} {F W W' : Tab} {S : Stps} {td td' : Int → Int → Nat → Int → Prop} {x d v : Int} {e : Nat} {sg : Int} (h : DJ n as fs ps sp F W S td) (r : RP as fs ps) (hx : (x,d) ∈ F) (hl : ∀ p ∈ F,p.2 ≤ d) (he : Edge as fs x v e sg) (hv0 : 0 ≤ v) (hv1 : v < (n : Int)) (hvF : ∀ p ∈ F,p.1 ≠ v)
  (hlt : ∀ q ∈ W,q.1 = v → d + lenF as ps e sg < q.2) (hW : ∀ q,q ∈ W' ↔ q = (v,d + lenF as ps e sg) ∨ (q ∈ W ∧ q.1 ≠ v)) (hn : (W'.map (·.1)).Nodup) (htd : ∀ p ∈ F,∀ v' e' sg',td p.1 v' e' sg' → ¬ td' p.1 v' e' sg' → p.1 = x ∧ v' = v ∧ e' = e ∧ sg' = sg) :
  DJ n as fs ps sp F W' (fun y=>if y = v then some (e,x,sg) else S y) td':=by
 have len0:=he.len r
 have d0:=h.pos _ (.inl hx)
 have nsrc : ¬ 0 < J6 sp v:=fun z=>by
  rcases h.src v hv0 hv1 z with y | y
  ·exact hvF _ y rfl
  ·have:=hlt _ y rfl
   omega
 have keepS : ∀ y,y ≠ v → (if y = v then some (e,x,sg) else S y) = S y:=fun y ny=>if_neg ny
 have come : ∀ {G : Tab} {y dy : Int},y ≠ v → Come as fs ps sp G S y dy → Come as fs ps sp G (fun y=>if y = v then some (e,x,sg) else S y) y dy:=fun {G y dy} ny hc=>by
  rcases hc with ⟨c1,c2⟩ | ⟨e',u,sg',du,c1,c2⟩
  ·exact .inl ⟨(keepS y ny).trans c1,c2⟩
  ·exact .inr ⟨e',u,sg',du,(keepS y ny).trans c1,c2⟩
 refine ⟨h.nodF,hn,fun p hp q hq=>?_,fun p hp=>?_,fun p hp q hq=>?_,fun p hp v' e' sg' he' hd=>?_,fun y a b c=>?_,fun i y dy hi=>?_,fun p hp=>?_,fun p hp=>?_,fun y r' hr=>?_⟩
 ·rcases (hW q).mp hq with rfl | ⟨q1,_⟩
  ·exact hvF p hp
  ·exact h.dis p hp q q1
 ·rcases hp with y | y
  ·exact h.rng p (.inl y)
  ·rcases (hW p).mp y with rfl | ⟨q1,_⟩
   ·exact ⟨hv0,hv1⟩
   ·exact h.rng p (.inr q1)
 ·rcases (hW q).mp hq with rfl | ⟨q1,_⟩
  ·have:=hl p hp
   show p.2 ≤ d + lenF as ps e sg
   omega
  ·exact h.ord p hp q q1
 ·by_cases z : td p.1 v' e' sg'
  ·obtain ⟨e1,rfl,rfl,rfl⟩:=htd p hp v' e' sg' z hd
   refine ⟨d + lenF as ps e' sg',.inr ((hW _).mpr (.inl rfl)),?_⟩
   have : p.2 = d:=J1H h.nodF (x:=p.1) (d:=p.2) (d':=d) hp (by rw [e1]; exact hx)
   omega
  ·obtain ⟨d',h1,h2⟩:=h.rel p hp v' e' sg' he' z
   rcases h1 with y | y
   ·exact ⟨d',.inl y,h2⟩
   ·by_cases hv : v' = v
    ·subst hv
     have:=hlt _ y rfl
     exact ⟨d + lenF as ps e sg,.inr ((hW _).mpr (.inl rfl)),by show d + lenF as ps e sg ≤ _; omega⟩
    ·exact ⟨d',.inr ((hW _).mpr (.inr ⟨y,hv⟩)),h2⟩
 ·rcases h.src y a b c with z | z
  ·exact .inl z
  ·by_cases hv : y = v
   ·subst hv; exact absurd c nsrc
   ·exact .inr ((hW _).mpr (.inr ⟨z,hv⟩))
 ·have hm:=List.mem_of_getElem? hi
  exact come (fun z=>hvF _ hm z) (h.pre i y dy hi)
 ·rcases (hW p).mp hp with rfl | ⟨q1,q2⟩
  ·exact .inr ⟨e,x,sg,d,if_pos rfl,hx,he,rfl⟩
  ·exact come q2 (h.prw p q1)
 ·rcases hp with y | y
  ·exact h.pos p (.inl y)
  ·rcases (hW p).mp y with rfl | ⟨q1,_⟩
   ·show 0 ≤ d + lenF as ps e sg
    omega
   ·exact h.pos p (.inr q1)
 ·by_cases hv : y = v
  ·exact ⟨d + lenF as ps e sg,.inr ((hW _).mpr (.inl (by rw [hv])))⟩
  ·have hr' : S y = some r':=by
    have : (if y = v then some (e,x,sg) else S y) = some r':=hr
    rwa [if_neg hv] at this
   obtain ⟨d',z | z⟩:=h.sst y r' hr'
   ·exact ⟨d',.inl z⟩
   ·exact ⟨d',.inr ((hW _).mpr (.inr ⟨z,hv⟩))⟩
structure J3F (n : Nat) (as : List Ar) (fs ps : List Int) (F : Tab) (D : Int) : Prop where
 nod : (F.map (·.1)).Nodup
 rng : ∀ p ∈ F,0 ≤ p.1 ∧ p.1 < (n : Int)
 le : ∀ p ∈ F,p.2 ≤ D
 rel : ∀ p ∈ F,∀ v e sg,Edge as fs p.1 v e sg → (∃ d,(v,d) ∈ F ∧ d ≤ p.2 + lenF as ps e sg) ∨ ((∀ q ∈ F,q.1 ≠ v) ∧ D ≤ p.2 + lenF as ps e sg)
theorem DJ.reach {n : Nat} {as : List Ar} {fs ps sp : List Int} {F W : Tab} {S : Stps} {t D : Int} (h : DJ n as fs ps sp F W S (fun u _ _ _=>u = t)) (r : RP as fs ps) (ht : (t,D) ∈ F) (hl : ∀ p ∈ F,p.2 ≤ D) : J3F n as fs ps F D where
 nod:=h.nodF
 rng:=fun p hp=>h.rng p (.inl hp)
 le:=hl
 rel:=fun p hp v e sg he=>by
  have l0:=he.len r
  by_cases z : p.1 = t
  ·have pd : p.2 = D:=J1H h.nodF (x:=p.1) hp (by rw [z]; exact ht)
   by_cases hv : ∃ d,(v,d) ∈ F
   ·obtain ⟨d,hd⟩:=hv
    have:=hl _ hd
    exact .inl ⟨d,hd,by have : d ≤ D:=this; omega⟩
   ·exact .inr ⟨fun q hq e=>hv ⟨q.2,by rw [← e]; exact hq⟩,by omega⟩
  ·obtain ⟨d,h1,h2⟩:=h.rel p hp v e sg he z
   rcases h1 with y | y
   ·exact .inl ⟨d,y,h2⟩
   ·have:=h.ord _ ht _ y
    refine .inr ⟨fun q hq e=>h.dis q hq _ y e,?_⟩
    have : D ≤ d:=this
    omega
noncomputable def shF (F : Tab) (D : Int) (ps : List Int) : List Int:=F.foldl (fun ps p=>ps.set p.1.toNat (J6 ps p.1 + (p.2 - D))) ps
theorem J4L (D : Int) : ∀ (F : Tab) (ps : List Int),(shF F D ps).length = ps.length
 | [],_=>rfl
 | p :: F,ps=>by
  show (shF F D _).length = _
  rw [J4L D F,List.length_set]
theorem J1a {xs : List Int} {i : Nat} {v : Int} {k : Int} (h0 : 0 ≤ k) (hi : i < xs.length) : J6 (xs.set i v) k = if k.toNat = i then v else J6 xs k:=by
 unfold J6
 rw [List.getD_eq_getElem?_getD,List.getElem?_set,List.getD_eq_getElem?_getD]
 by_cases z : i = k.toNat
 ·rw [if_pos z,if_pos z.symm,if_pos (by omega)]
  rfl
 ·rw [if_neg z,if_neg fun y=>z y.symm]
theorem J2y {n : Nat} (D : Int) : ∀ (F : Tab) (ps : List Int),(F.map (·.1)).Nodup → (∀ p ∈ F,0 ≤ p.1 ∧ p.1 < (n : Int)) → ps.length = n → ∀ x : Int,0 ≤ x → ((∀ d,(x,d) ∈ F → J6 (shF F D ps) x = J6 ps x + (d - D)) ∧ ((∀ p ∈ F,p.1 ≠ x) → J6 (shF F D ps) x = J6 ps x))
 | [],ps,_,_,_,x,_=>⟨fun d h=>(nomatch h),fun _=>rfl⟩
 | p :: F,ps,hn,hr,hl,x,hx=>by
  rw [List.map_cons,List.nodup_cons] at hn
  have hp:=hr p List.mem_cons_self
  obtain ⟨i1,i2⟩:=J2y (n:=n) D F (ps.set p.1.toNat (J6 ps p.1 + (p.2 - D))) hn.2 (fun q hq=>hr q (List.mem_cons_of_mem _ hq)) (by rw [List.length_set]; exact hl) x hx
  have hs:=J1a (xs:=ps) (i:=p.1.toNat) (v:=J6 ps p.1 + (p.2 - D)) hx (by omega)
  constructor
  ·intro d hd
   rcases List.mem_cons.mp hd with e | e
   ·have e1 : x = p.1:=congrArg Prod.fst e
    have e2 : d = p.2:=congrArg Prod.snd e
    have:=i2 fun q hq z=>hn.1 (by rw [← e1,← z]; exact List.mem_map.mpr ⟨q,hq,rfl⟩)
    show J6 (shF F D _) x = _
    rw [this,hs,if_pos (by rw [e1]),e1,e2]
   ·have ne : x ≠ p.1:=fun z=>hn.1 (by rw [← z]; exact J2o e)
    show J6 (shF F D _) x = _
    rw [i1 d e,hs,if_neg (by omega)]
  ·intro hno
   have ne : x ≠ p.1:=fun z=>hno p List.mem_cons_self z.symm
   show J6 (shF F D _) x = _
   rw [i2 fun q hq=>hno q (List.mem_cons_of_mem _ hq),hs,if_neg (by omega)]
noncomputable def InN (n : Nat) (as : List Ar) : Prop:=∀ (e : Nat) a,as[e]? = some a → 0 ≤ a.s ∧ a.s < (n : Int) ∧ 0 ≤ a.g ∧ a.g < (n : Int)
theorem Edge.rng {n : Nat} {as : List Ar} {fs : List Int} {u v : Int} {e : Nat} {sg : Int} (h : Edge as fs u v e sg) (hi : InN n as) : 0 ≤ u ∧ u < (n : Int) ∧ 0 ≤ v ∧ v < (n : Int):=by
 obtain ⟨a,f,ha,_,_,hs⟩:=h
 obtain ⟨a1,a2,a3,a4⟩:=hi e a ha
 rcases hs with ⟨_,rfl,rfl⟩ | ⟨_,rfl,rfl⟩
 ·exact ⟨a1,a2,a3,a4⟩
 ·exact ⟨a3,a4,a1,a2⟩
theorem Edge.shift {as : List Ar} {fs ps ps' : List Int} {u v : Int} {e : Nat} {sg : Int} (h : Edge as fs u v e sg) : lenF as ps' e sg = lenF as ps e sg + (J6 ps' u - J6 ps u) - (J6 ps' v - J6 ps v):=by
 obtain ⟨a,f,ha,_,_,hs⟩:=h
 unfold lenF
 rw [J0x ha]
 unfold wtF
 rcases hs with ⟨rfl,rfl,rfl⟩ | ⟨rfl,rfl,rfl⟩
 ·omega
 ·omega
theorem J3F.step {n : Nat} {as : List Ar} {fs ps : List Int} {F : Tab} {D : Int} (h : J3F n as fs ps F D) (r : RP as fs ps) (hi : InN n as) (hl : ps.length = n) {u v : Int} {e : Nat} {sg : Int} (he : Edge as fs u v e sg) : 0 ≤ lenF as (shF F D ps) e sg:=by
 obtain ⟨u0,u1,v0,v1⟩:=he.rng hi
 have l0:=he.len r
 rw [he.shift (ps:=ps)]
 obtain ⟨a1,a2⟩:=J2y (n:=n) D F ps h.nod h.rng hl u u0
 obtain ⟨b1,b2⟩:=J2y (n:=n) D F ps h.nod h.rng hl v v0
 by_cases hu : ∃ d,(u,d) ∈ F
 ·obtain ⟨du,hu⟩:=hu
  have e1:=a1 du hu
  rcases h.rel _ hu v e sg he with ⟨dv,hv,hle⟩ | ⟨hv,hle⟩
  ·have e2:=b1 dv hv
   have hle' : dv ≤ du + lenF as ps e sg:=hle
   omega
  ·have e2:=b2 hv
   have hle' : D ≤ du + lenF as ps e sg:=hle
   omega
 ·have e1:=a2 fun p hp z=>hu ⟨p.2,by rw [← z]; exact hp⟩
  by_cases hv : ∃ d,(v,d) ∈ F
  ·obtain ⟨dv,hv⟩:=hv
   have e2:=b1 dv hv
   have:=h.le _ hv
   have : dv ≤ D:=this
   omega
  ·have e2:=b2 fun p hp z=>hv ⟨p.2,by rw [← z]; exact hp⟩
   omega
theorem RP.shift {n : Nat} {as : List Ar} {fs ps : List Int} {F : Tab} {D : Int} (r : RP as fs ps) (h : J3F n as fs ps F D) (hi : InN n as) (hl : ps.length = n) : RP as fs (shF F D ps):=by
 intro e a f ha hf
 obtain ⟨r1,r2,_,_⟩:=r e a f ha hf
 refine ⟨r1,r2,fun z=>?_,fun z=>?_⟩
 ·have he : Edge as fs a.s a.g e 1:=⟨a,f,ha,hf,by unfold rmF; rw [if_pos rfl]; omega,.inl ⟨rfl,rfl,rfl⟩⟩
  have:=h.step r hi hl he
  unfold lenF at this
  rw [J0x ha] at this
  omega
 ·have he : Edge as fs a.g a.s e (-1):=⟨a,f,ha,hf,by unfold rmF; rw [if_neg (by decide)]; omega,.inr ⟨rfl,rfl,rfl⟩⟩
  have:=h.step r hi hl he
  unfold lenF at this
  rw [J0x ha] at this
  omega
theorem J3F.zero {n : Nat} {as : List Ar} {fs ps : List Int} {F : Tab} {D : Int} (h : J3F n as fs ps F D) (hi : InN n as) (hl : ps.length = n) {u v du dv : Int} {e : Nat} {sg : Int} (he : Edge as fs u v e sg) (hu : (u,du) ∈ F) (hv : (v,dv) ∈ F) (hd : dv = du + lenF as ps e sg) : lenF as (shF F D ps) e sg = 0:=by
 obtain ⟨u0,u1,v0,v1⟩:=he.rng hi
 rw [he.shift (ps:=ps),(J2y (n:=n) D F ps h.nod h.rng hl u u0).1 du hu,(J2y (n:=n) D F ps h.nod h.rng hl v v0).1 dv hv]
 omega
noncomputable def cF (z : Int) (p : Int × Ar) : Int:=(if z = p.2.g then p.1 else 0) - (if z = p.2.s then p.1 else 0)
noncomputable def balF (zs : List (Int × Ar)) (z : Int) : Int:=(zs.map (cF z)).sum
theorem J8o {n : Nat} {z : Int} (hz : 0 ≤ z) : ∀ (zs : List (Int × Ar)) (xs : List Int),(∀ p ∈ zs,ArOk n p.2) → xs.length = n → J6 (zs.foldl st1 xs) z = J6 xs z + balF zs z
 | [],xs,_,_=>by
  show J6 xs z = J6 xs z + 0
  omega
 | p :: zs,xs,hp,hx=>by
  rw [List.foldl_cons,J8o hz zs _ (fun q hq=>hp q (List.mem_cons_of_mem _ hq)) (by rw [J6Y]; exact hx)]
  have:=J94 (f:=p.1) (hp p List.mem_cons_self) hx z hz
  have e : st1 xs p = st1 xs (p.1,p.2):=rfl
  rw [e,this]
  show _ = J6 xs z + (cF z p + balF zs z)
  unfold cF
  omega
theorem J3Q (n : Nat) (z : Int) : J6 (List.replicate n 0) z = 0:=by
 unfold J6
 rw [List.getD_eq_getElem?_getD,List.getElem?_replicate]
 split <;> rfl
theorem J1V {n : Nat} {fs : List Int} {as : List Ar} {z : Int} (hz : 0 ≤ z) (ha : ∀ a ∈ as,ArOk n a) : J6 (spF n (fs.zip as)) z = balF (fs.zip as) z:=by
 unfold spF
 rw [J8o (n:=n) hz _ _ (fun p hp=>ha _ (List.of_mem_zip hp).2) List.length_replicate,J3Q]
 omega
theorem J75 (z f' : Int) : ∀ (e : Nat) (fs : List Int) (as : List Ar) (f : Int) (a : Ar),fs[e]? = some f → as[e]? = some a → balF ((fs.set e f').zip as) z = balF (fs.zip as) z + cF z (f',a) - cF z (f,a)
 | 0,f0 :: fs,a0 :: as,f,a,h1,h2=>by
  obtain rfl : f0 = f:=Option.some.inj h1
  obtain rfl : a0 = a:=Option.some.inj h2
  show cF z (f',a0) + balF (fs.zip as) z = cF z (f0,a0) + balF (fs.zip as) z + cF z (f',a0) - cF z (f0,a0)
  omega
 | e + 1,f0 :: fs,a0 :: as,f,a,h1,h2=>by
  have ih:=J75 z f' e fs as f a (by simpa using h1) (by simpa using h2)
  show cF z (f0,a0) + balF ((fs.set e f').zip as) z = cF z (f0,a0) + balF (fs.zip as) z + cF z (f',a) - cF z (f,a)
  rw [ih]
  omega
 | _,[],_,_,_,h1,_=>by simp at h1
 | _,_ :: _,[],_,_,_,h2=>by simp at h2
noncomputable abbrev Stp1:=Nat × Int × Int
noncomputable def JT (pt : List Stp1) (many : Int) (fs : List Int) : List Int:=pt.foldl (fun fs st=>fs.set st.1 (fs.getD st.1 0 + st.2.2 * many)) fs
theorem J2w (pt : List Stp1) (st : Stp1) (many : Int) (fs : List Int) : JT (pt ++ [st]) many fs = (JT pt many fs).set st.1 ((JT pt many fs).getD st.1 0 + st.2.2 * many):=by
 unfold JT
 rw [List.foldl_append]
 rfl
theorem J2m (many : Int) : ∀ (pt : List Stp1) (fs : List Int),(JT pt many fs).length = fs.length
 | [],_=>rfl
 | st :: pt,fs=>by
  show (JT pt many _).length = _
  rw [J2m many pt,List.length_set]
inductive Way (as : List Ar) (fs ps : List Int) (F : Tab) (S : Stps) (i : Nat) : List Stp1 → Nat → Prop where
 | nil : Way as fs ps F S i [] i
 | snoc {pt : List Stp1} {j k : Nat} {y dy u du : Int} {e : Nat} {sg : Int} : Way as fs ps F S i pt j → F[j]? = some (y,dy) → S y = some (e,u,sg) → F[k]? = some (u,du) → k < j → Edge as fs u y e sg → dy = du + lenF as ps e sg → Way as fs ps F S i (pt ++ [(e,u,sg)]) k
theorem DJ.back {n : Nat} {as : List Ar} {fs ps sp : List Int} {F W : Tab} {S : Stps} {td : Int → Int → Nat → Int → Prop} (h : DJ n as fs ps sp F W S td) {j : Nat} {y dy : Int} (hj : F[j]? = some (y,dy)) : (S y = none ∧ 0 < J6 sp y) ∨ ∃ e u sg k du,S y = some (e,u,sg) ∧ k < j ∧ F[k]? = some (u,du) ∧ Edge as fs u y e sg ∧ dy = du + lenF as ps e sg:=by
 rcases h.pre j y dy hj with ⟨a,b,_⟩ | ⟨e,u,sg,du,a,b,c,d⟩
 ·exact .inl ⟨a,b⟩
 ·obtain ⟨k,hk⟩:=List.getElem?_of_mem b
  have hkl:=(List.getElem?_eq_some_iff.mp hk).1
  rw [List.length_take] at hkl
  rw [List.getElem?_take_of_lt (by omega)] at hk
  exact .inr ⟨e,u,sg,k,du,a,by omega,hk,c,d⟩
theorem J6V {F : Tab} (h : (F.map (·.1)).Nodup) {i j : Nat} {x d d' : Int} (h1 : F[i]? = some (x,d)) (h2 : F[j]? = some (x,d')) : i = j:=by
 have a1 : (F.map (·.1))[i]? = some x:=by rw [List.getElem?_map,h1]; rfl
 have a2 : (F.map (·.1))[j]? = some x:=by rw [List.getElem?_map,h2]; rfl
 exact (List.getElem?_inj (List.getElem?_eq_some_iff.mp a1).1 h).mp (a1.trans a2.symm)
structure Push (n : Nat) (as : List Ar) (fs ps' : List Int) (F : Tab) (t y : Int) (k : Nat) (pt : List Stp1) (many : Int) : Prop where
 bal : ∀ z : Int,0 ≤ z → balF ((JT pt many fs).zip as) z = balF (fs.zip as) z + (if z = t then many else 0) - (if z = y then many else 0)
 arc : ∀ (e : Nat) a f,as[e]? = some a → fs[e]? = some f → ((JT pt many fs)[e]? = some f ∧ ∀ st ∈ pt,st.1 ≠ e) ∨ ∃ sg,(sg = 1 ∨ sg = -1) ∧ (JT pt many fs)[e]? = some (f + sg * many) ∧ many ≤ rmF a f sg ∧ lenF as ps' e sg = 0 ∧ ∃ j x d,k < j ∧ F[j]? = some (x,d) ∧ (x = a.s ∨ x = a.g)
theorem Way.push {n : Nat} {as : List Ar} {fs ps : List Int} {F : Tab} {S : Stps} {D many : Int} (R : J3F n as fs ps F D) (hi : InN n as) (hl : ps.length = n) (hfa : fs.length = as.length) {i : Nat} {t dt : Int} (ht : F[i]? = some (t,dt)) {pt : List Stp1} {k : Nat} (w : Way as fs ps F S i pt k) (hm : ∀ st ∈ pt,∀ a f,as[st.1]? = some a → fs[st.1]? = some f → many ≤ rmF a f st.2.2) : ∃ y dy,F[k]? = some (y,dy) ∧ Push n as fs (shF F D ps) F t y k pt many:=by
 induction w with
 | nil=>exact ⟨t,dt,ht,⟨fun z _=>by show balF (fs.zip as) z = _; omega,fun e a f _ hf=>.inl ⟨hf,fun st h=>nomatch h⟩⟩⟩
 | @snoc pt j k y dy u du e sg w hj hs hk hkj he hd ih =>
  obtain ⟨y',dy',hy',P⟩:=ih fun st h=>hm st (List.mem_append_left _ h)
  obtain ⟨rfl,rfl⟩:=Prod.mk.inj (Option.some.inj (hy'.symm.trans hj))
  obtain ⟨a,f,ha,hf,hr,hcase⟩:=id he
  have hmn:=hm (e,u,sg) (List.mem_append_right _ (List.mem_singleton.mpr rfl)) a f ha hf
  have hz:=R.zero hi hl he (List.mem_of_getElem? hk) (List.mem_of_getElem? hj) hd
  have hsg : sg = 1 ∨ sg = -1:=by rcases hcase with ⟨h,_⟩ | ⟨h,_⟩ <;> simp [h]
  have hend : (y' = a.s ∧ u = a.g) ∨ (y' = a.g ∧ u = a.s):=by rcases hcase with ⟨_,h1,h2⟩ | ⟨_,h1,h2⟩ <;> simp [h1,h2]
  have hnew : (JT pt many fs)[e]? = some f ∧ ∀ st ∈ pt,st.1 ≠ e:=by
   rcases P.arc e a f ha hf with h | ⟨sg',_,_,_,_,j',x,d,hlt,hx,hxa⟩
   ·exact h
   ·exfalso
    have hxy : x = y' ∨ x = u:=by
     rcases hend with ⟨e1,e2⟩ | ⟨e1,e2⟩
     ·rcases hxa with z | z
      ·exact .inl (z.trans e1.symm)
      ·exact .inr (z.trans e2.symm)
     ·rcases hxa with z | z
      ·exact .inr (z.trans e2.symm)
      ·exact .inl (z.trans e1.symm)
    rcases hxy with rfl | rfl
    ·have:=J6V R.nod hx hj
     omega
    ·have:=J6V R.nod hx hk
     omega
  have hgd : (JT pt many fs).getD e 0 = f:=by rw [List.getD_eq_getElem?_getD,hnew.1]; rfl
  refine ⟨u,du,hk,⟨fun z hz0=>?_,fun e' a' f' ha' hf'=>?_⟩⟩
  ·rw [J2w]
   show balF (((JT pt many fs).set e ((JT pt many fs).getD e 0 + sg * many)).zip as) z = _
   rw [hgd,J75 z (f + sg * many) e _ as f a hnew.1 ha,P.bal z hz0]
   unfold cF
   show _ + ((if z = a.g then f + sg * many else 0) - (if z = a.s then f + sg * many else 0)) - ((if z = a.g then f else 0) - (if z = a.s then f else 0)) = _
   rcases hcase with ⟨rfl,h1,h2⟩ | ⟨rfl,h1,h2⟩
   ·rw [← h1,← h2]
    by_cases q1 : z = a.g <;> by_cases q2 : z = a.s <;> simp only [q1,q2,if_true,if_false] <;> omega
   ·rw [← h1,← h2]
    by_cases q1 : z = a.g <;> by_cases q2 : z = a.s <;> simp only [q1,q2,if_true,if_false] <;> omega
  ·rw [J2w]
   show ((((JT pt many fs).set e ((JT pt many fs).getD e 0 + sg * many))[e']? = some f' ∧ _) ∨ _)
   by_cases z : e = e'
   ·subst z
    obtain rfl : a = a':=Option.some.inj (ha.symm.trans ha')
    obtain rfl : f = f':=Option.some.inj (hf.symm.trans hf')
    refine .inr ⟨sg,hsg,?_,hmn,hz,j,y',dy',hkj,hj,?_⟩
    ·rw [List.getElem?_set,if_pos rfl,if_pos (by rw [J2m]; exact (List.getElem?_eq_some_iff.mp hf).1),hgd]
    ·rcases hend with ⟨h,_⟩ | ⟨h,_⟩
     ·exact .inl h
     ·exact .inr h
   ·have hset : ((JT pt many fs).set e ((JT pt many fs).getD e 0 + sg * many))[e']? = (JT pt many fs)[e']?:=by rw [List.getElem?_set,if_neg z]
    rw [hset]
    rcases P.arc e' a' f' ha' hf' with ⟨h1,h2⟩ | ⟨sg',h1,h2,h3,h4,j',x,d,h5,h6⟩
    ·refine .inl ⟨h1,fun st hst=>?_⟩
     rcases List.mem_append.mp hst with q | q
     ·exact h2 st q
     ·rw [List.mem_singleton.mp q]
      exact z
    ·exact .inr ⟨sg',h1,h2,h3,h4,j',x,d,by omega,h6⟩
theorem Push.rp {n : Nat} {as : List Ar} {fs ps' : List Int} {F : Tab} {t y : Int} {k : Nat} {pt : List Stp1} {many : Int} (h : Push n as fs ps' F t y k pt many) (r : RP as fs ps') (h0 : 0 ≤ many) (hfa : fs.length = as.length) : RP as (JT pt many fs) ps':=by
 intro e a f' ha hf'
 have hel : e < fs.length:=by rw [hfa]; exact (List.getElem?_eq_some_iff.mp ha).1
 have hf : fs[e]? = some fs[e]:=List.getElem?_eq_getElem hel
 generalize fs[e] = f at hf
 obtain ⟨r1,r2,r3,r4⟩:=r e a f ha hf
 rcases h.arc e a f ha hf with ⟨h1,_⟩ | ⟨sg,hsg,h1,h2,h3,_⟩
 ·obtain rfl : f = f':=Option.some.inj (h1.symm.trans hf')
  exact ⟨r1,r2,r3,r4⟩
 ·obtain rfl : f + sg * many = f':=Option.some.inj (h1.symm.trans hf')
  unfold lenF at h3
  rw [J0x ha] at h3
  unfold rmF at h2
  rcases hsg with rfl | rfl
  ·rw [if_pos rfl] at h2
   refine ⟨by omega,by omega,fun _=>by omega,fun _=>by omega⟩
  ·rw [if_neg (by decide)] at h2
   refine ⟨by omega,by omega,fun _=>by omega,fun _=>by omega⟩
theorem J5E : ∀ (l : List Nat) (i v x : Nat),l[i]? = some x → (l.set i v).sum + x = l.sum + v
 | y :: l,0,v,x,h=>by
  obtain rfl : y = x:=Option.some.inj h
  show v + l.sum + y = y + l.sum + v
  omega
 | y :: l,i + 1,v,x,h=>by
  have:=J5E l i v x (by simpa using h)
  show y + (l.set i v).sum + x = y + l.sum + v
  omega
 | [],_,_,_,h=>by simp at h
noncomputable def posF (sp : List Int) : Nat:=(sp.map Int.toNat).sum
theorem J9Y {xs : List Int} {k : Int} (h0 : 0 ≤ k) (h : k < (xs.length : Int)) : xs[k.toNat]? = some (J6 xs k):=by
 unfold J6
 rw [List.getD_eq_getElem?_getD,List.getElem?_eq_getElem (by omega)]
 rfl
theorem J5J {sp : List Int} {k v : Int} (h0 : 0 ≤ k) (h : k < (sp.length : Int)) : posF (sp.set k.toNat v) + (J6 sp k).toNat = posF sp + v.toNat:=by
 unfold posF
 rw [List.map_set]
 exact J5E _ _ _ _ (by rw [List.getElem?_map,J9Y h0 h]; rfl)
noncomputable def J1h (sp : List Int) (x t many : Int) : List Int:=(sp.set x.toNat (J6 sp x - many)).set t.toNat (J6 (sp.set x.toNat (J6 sp x - many)) t + many)
theorem J6f (sp : List Int) (x t many : Int) : (J1h sp x t many).length = sp.length:=by unfold J1h; rw [List.length_set,List.length_set]
theorem J7K {sp : List Int} {x t many : Int} (x0 : 0 ≤ x) (x1 : x < (sp.length : Int)) (t0 : 0 ≤ t) (t1 : t < (sp.length : Int)) (hx : many ≤ J6 sp x) (ht : many ≤ - J6 sp t) (h1 : 1 ≤ many) : posF (J1h sp x t many) < posF sp:=by
 have ne : ¬ t.toNat = x.toNat:=fun z=>by
  have : t = x:=by omega
  subst this
  omega
 have e1:=J5J (v:=J6 sp x - many) x0 x1
 have e2:=J5J (sp:=sp.set x.toNat (J6 sp x - many)) (v:=J6 (sp.set x.toNat (J6 sp x - many)) t + many) t0 (by rw [List.length_set]; exact t1)
 rw [J1a t0 (by omega),if_neg ne] at e2
 unfold J1h
 rw [J1a t0 (by omega),if_neg ne]
 omega
theorem Push.spare {n : Nat} {as : List Ar} {fs ps' : List Int} {F : Tab} {t y : Int} {k : Nat} {pt : List Stp1} {many : Int} (h : Push n as fs ps' F t y k pt many) (ha : ∀ a ∈ as,ArOk n a) (y0 : 0 ≤ y) (y1 : y < (n : Int)) (t0 : 0 ≤ t) (t1 : t < (n : Int)) : J1h (spF n (fs.zip as)) y t many = spF n ((JT pt many fs).zip as):=by
 refine J9r (by rw [J6f,J17,J17]) fun z z0=>?_
 rw [J1V z0 ha,h.bal z z0,← J1V (n:=n) z0 ha]
 unfold J1h
 have l1 : y.toNat < (spF n (fs.zip as)).length:=by rw [J17]; omega
 have l2 : t.toNat < ((spF n (fs.zip as)).set y.toNat (J6 (spF n (fs.zip as)) y - many)).length:=by rw [List.length_set,J17]; omega
 rw [J1a z0 l2,J1a z0 l1,J1a t0 l1]
 by_cases q1 : z = t <;> by_cases q2 : z = y
 ·subst q1; subst q2; rw [if_pos rfl,if_pos rfl,if_pos rfl]; omega
 ·subst q1
  rw [if_pos rfl,if_neg (by omega),if_pos rfl,if_neg q2]; omega
 ·subst q2
  rw [if_neg (by omega),if_pos rfl,if_neg q1,if_pos rfl]; omega
 ·rw [if_neg (by omega),if_neg (by omega),if_neg q1,if_neg q2]; omega
theorem J3d (f g : Int) : ∀ X : List Int,X.Nodup → (X.map fun x=>if x = g then f else 0).sum = if g ∈ X then f else 0
 | [],_=>by simp
 | x :: X,h=>by
  obtain ⟨h1,h2⟩:=List.nodup_cons.mp h
  rw [List.map_cons,List.sum_cons,J3d f g X h2]
  by_cases z : x = g
  ·subst z
   rw [if_pos rfl,if_neg h1,if_pos List.mem_cons_self]
   omega
  ·rw [if_neg z]
   by_cases y : g ∈ X
   ·rw [if_pos y,if_pos (List.mem_cons_of_mem _ y)]; omega
   ·rw [if_neg y,if_neg fun q=>(List.mem_cons.mp q).elim (fun e=>z e.symm) y]; omega
theorem J3b (f g : Int → Int) : ∀ X : List Int,(X.map fun x=>f x - g x).sum = (X.map f).sum - (X.map g).sum
 | []=>rfl
 | x :: X=>by
  rw [List.map_cons,List.map_cons,List.map_cons,List.sum_cons,List.sum_cons,List.sum_cons,J3b f g X]
  omega
theorem J53 (f g : Int → Int) : ∀ X : List Int,(X.map fun x=>f x + g x).sum = (X.map f).sum + (X.map g).sum
 | []=>rfl
 | x :: X=>by
  rw [List.map_cons,List.map_cons,List.map_cons,List.sum_cons,List.sum_cons,List.sum_cons,J53 f g X]
  omega
noncomputable def inF (X : List Int) (p : Int × Ar) : Int:=(if p.2.g ∈ X then p.1 else 0) - (if p.2.s ∈ X then p.1 else 0)
theorem J3f {X : List Int} (h : X.Nodup) : ∀ zs : List (Int × Ar),(X.map (balF zs)).sum = (zs.map (inF X)).sum
 | []=>by
  show (X.map fun _=>(0 : Int)).sum = 0
  rw [List.map_const']
  have : ∀ m : Nat,(List.replicate m (0 : Int)).sum = 0:=fun m=>by
   induction m with
   | zero=>rfl
   | succ m ih=>rw [List.replicate_succ,List.sum_cons,ih]; rfl
  exact this _
 | p :: zs=>by
  have e : (X.map (balF (p :: zs))) = X.map fun x=>cF x p + balF zs x:=rfl
  rw [e,J53,J3f h zs,List.map_cons,List.sum_cons]
  have e2 : (X.map fun x=>cF x p) = X.map fun x=>(if x = p.2.g then p.1 else 0) - (if x = p.2.s then p.1 else 0):=rfl
  rw [e2,J3b,J3d p.1 p.2.g X h,J3d p.1 p.2.s X h]
  rfl
noncomputable def Shut (as : List Ar) (fs : List Int) (X : List Int) : Prop:=∀ (e : Nat) a f,as[e]? = some a → fs[e]? = some f → (a.s ∈ X → a.g ∉ X → f = a.m) ∧ (a.g ∈ X → a.s ∉ X → f = a.l)
theorem DJ.shut {n : Nat} {as : List Ar} {fs ps sp : List Int} {F : Tab} {S : Stps} (h : DJ n as fs ps sp F [] S (fun _ _ _ _=>False)) (r : RP as fs ps) : Shut as fs (F.map (·.1)):=by
 intro e a f ha hf
 obtain ⟨r1,r2,_,_⟩:=r e a f ha hf
 have go : ∀ u v sg,u ∈ F.map (·.1) → v ∉ F.map (·.1) → Edge as fs u v e sg → False:=fun u v sg hu hv he=>by
  obtain ⟨p,hp,rfl⟩:=List.mem_map.mp hu
  obtain ⟨d,h1,_⟩:=h.rel p hp v e sg he (fun z=>z)
  rcases h1 with z | z
  ·exact hv (J2o z)
  ·cases z
 constructor
 ·intro hs hg
  by_cases z : f = a.m
  ·exact z
  ·exact (go a.s a.g 1 hs hg ⟨a,f,ha,hf,by unfold rmF; rw [if_pos rfl]; omega,.inl ⟨rfl,rfl,rfl⟩⟩).elim
 ·intro hg hs
  by_cases z : f = a.l
  ·exact z
  ·exact (go a.g a.s (-1) hg hs ⟨a,f,ha,hf,by unfold rmF; rw [if_neg (by decide)]; omega,.inr ⟨rfl,rfl,rfl⟩⟩).elim
noncomputable def outM (as : List Ar) (X : List Int) : Int:=(as.map fun a=>if a.g ∈ X ∧ a.s ∉ X then a.l else 0).sum
noncomputable def comM (as : List Ar) (X : List Int) : Int:=(as.map fun a=>if a.s ∈ X ∧ a.g ∉ X then a.m else 0).sum
theorem J5l {X : List Int} : ∀ (fs : List Int) (as : List Ar),fs.length = as.length → Shut as fs X → ((fs.zip as).map (inF X)).sum = outM as X - comM as X
 | [],[],_,_=>rfl
 | f :: fs,a :: as,hl,h=>by
  have ih:=J5l fs as (Nat.succ.inj hl) fun e a' f' h1 h2=>h (e + 1) a' f' (by simpa using h1) (by simpa using h2)
  obtain ⟨h1,h2⟩:=h 0 a f rfl rfl
  rw [List.zip_cons_cons,List.map_cons,List.sum_cons,ih]
  show inF X (f,a) + (outM as X - comM as X) = ((if a.g ∈ X ∧ a.s ∉ X then a.l else 0) + outM as X) - ((if a.s ∈ X ∧ a.g ∉ X then a.m else 0) + comM as X)
  unfold inF
  show ((if a.g ∈ X then f else 0) - (if a.s ∈ X then f else 0)) + _ = _
  by_cases q1 : a.g ∈ X <;> by_cases q2 : a.s ∈ X
  ·rw [if_pos q1,if_pos q2,if_neg (fun z=>z.2 q2),if_neg (fun z=>z.2 q1)]; omega
  ·rw [if_pos q1,if_neg q2,if_pos ⟨q1,q2⟩,if_neg (fun z=>q2 z.1),h2 q1 q2]; omega
  ·rw [if_neg q1,if_pos q2,if_neg (fun z=>q1 z.1),if_pos ⟨q2,q1⟩,h1 q2 q1]; omega
  ·rw [if_neg q1,if_neg q2,if_neg (fun z=>q1 z.1),if_neg (fun z=>q2 z.1)]; omega
 | [],_ :: _,hl,_=>by cases hl
 | _ :: _,[],hl,_=>by cases hl
theorem J4I {f : Int → Int} : ∀ {X : List Int} {x : Int},(∀ y ∈ X,0 ≤ f y) → x ∈ X → 0 < f x → 0 < (X.map f).sum
 | y :: X,x,h,hx,hp=>by
  rw [List.map_cons,List.sum_cons]
  have h0:=h y List.mem_cons_self
  have hX : 0 ≤ (X.map f).sum:=by
   have : ∀ X : List Int,(∀ y ∈ X,0 ≤ f y) → 0 ≤ (X.map f).sum:=fun X=>by
    induction X with
    | nil=>intro _; exact Int.le_refl _
    | cons y X ih =>
     intro h
     rw [List.map_cons,List.sum_cons]
     have:=h y List.mem_cons_self
     have:=ih fun z hz=>h z (List.mem_cons_of_mem _ hz)
     omega
   exact this X fun z hz=>h z (List.mem_cons_of_mem _ hz)
  rcases List.mem_cons.mp hx with rfl | y'
  ·omega
  ·have:=J4I (fun z hz=>h z (List.mem_cons_of_mem _ hz)) y' hp
   omega
theorem DJ.cut {n : Nat} {as : List Ar} {fs ps : List Int} {F : Tab} {S : Stps} (h : DJ n as fs ps (spF n (fs.zip as)) F [] S (fun _ _ _ _=>False)) (r : RP as fs ps) (hl : fs.length = as.length) (ha : ∀ a ∈ as,ArOk n a) (hn : ∀ p ∈ F,0 ≤ J6 (spF n (fs.zip as)) p.1) {x : Int} (x0 : 0 ≤ x) (x1 : x < (n : Int)) (hx : 0 < J6 (spF n (fs.zip as)) x) : comM as (F.map (·.1)) < outM as (F.map (·.1)):=by
 have hs:=J5l fs as hl (h.shut r)
 rw [← J3f h.nodF] at hs
 have hxF : x ∈ F.map (·.1):=by
  rcases h.src x x0 x1 hx with z | z
  ·exact J2o z
  ·cases z
 have:=J4I (f:=balF (fs.zip as)) (X:=F.map (·.1)) (x:=x) (fun y hy=>by
  obtain ⟨p,hp,rfl⟩:=List.mem_map.mp hy
  rw [← J1V (n:=n) (h.rng p (.inl hp)).1 ha]
  exact hn p hp) hxF (by rw [← J1V (n:=n) x0 ha]; exact hx)
 omega
theorem JbI {X : List Int} (hX : X.Nodup) {as : List Ar} {gs : List Int} (hl : gs.length = as.length) (hb : ∀ (e : Nat) a f,as[e]? = some a → gs[e]? = some f → a.l ≤ f ∧ f ≤ a.m) (h0 : ∀ x ∈ X,balF (gs.zip as) x = 0) : outM as X ≤ comM as X:=by
 have e1:=J3f hX (gs.zip as)
 have e2 : (X.map (balF (gs.zip as))).sum = 0:=by
  have : X.map (balF (gs.zip as)) = List.replicate X.length 0:=List.eq_replicate_iff.mpr ⟨List.length_map _,fun z hz=>by obtain ⟨x,hx,rfl⟩:=List.mem_map.mp hz; exact h0 x hx⟩
  rw [this]
  have : ∀ m : Nat,(List.replicate m (0 : Int)).sum = 0:=fun m=>by
   induction m with
   | zero=>rfl
   | succ m ih=>rw [List.replicate_succ,List.sum_cons,ih]; rfl
  exact this _
 have go : ∀ (gs : List Int) (as : List Ar),gs.length = as.length → (∀ (e : Nat) a f,as[e]? = some a → gs[e]? = some f → a.l ≤ f ∧ f ≤ a.m) → outM as X - comM as X ≤ ((gs.zip as).map (inF X)).sum:=by
  intro gs
  induction gs with
  | nil =>
   intro as hl _
   cases as with
   | nil=>exact Int.le_refl _
   | cons=>cases hl
  | cons f gs ih =>
   intro as hl hb
   cases as with
   | nil=>cases hl
   | cons a as =>
    have i1:=ih as (Nat.succ.inj hl) fun e a' f' h1 h2=>hb (e + 1) a' f' (by simpa using h1) (by simpa using h2)
    obtain ⟨b1,b2⟩:=hb 0 a f rfl rfl
    rw [List.zip_cons_cons,List.map_cons,List.sum_cons]
    generalize ((gs.zip as).map (inF X)).sum = q at i1 ⊢
    show ((if a.g ∈ X ∧ a.s ∉ X then a.l else 0) + outM as X) - ((if a.s ∈ X ∧ a.g ∉ X then a.m else 0) + comM as X) ≤ inF X (f,a) + _
    unfold inF
    show _ ≤ ((if a.g ∈ X then f else 0) - (if a.s ∈ X then f else 0)) + _
    by_cases q1 : a.g ∈ X <;> by_cases q2 : a.s ∈ X
    ·rw [if_pos q1,if_pos q2,if_neg (fun z=>z.2 q2),if_neg (fun z=>z.2 q1)]; omega
    ·rw [if_pos q1,if_neg q2,if_pos ⟨q1,q2⟩,if_neg (fun z=>q2 z.1)]; omega
    ·rw [if_neg q1,if_pos q2,if_neg (fun z=>q1 z.1),if_pos ⟨q2,q1⟩]; omega
    ·rw [if_neg q1,if_neg q2,if_neg (fun z=>q1 z.1),if_neg (fun z=>q2 z.1)]; omega
 have:=go gs as hl hb
 omega
noncomputable def TpV : List V → V → Hp → Prop:=fun xs y H=>∃ t,y = .ref t ∧ H t = some (.tup xs)
theorem TpV.keeps (n : List V) (y : V) (Ha Hb : Hp) (k : J1i Ha Hb) (h : TpV n y Ha) : TpV n y Hb:=let ⟨t,e,h⟩:=h; ⟨t,e,k _ _ h fun zs z=>by cases z⟩
theorem J8P {α : Type} {l : List α} (h : l.Nodup) {i j : Nat} {a : α} (hi : l[i]? = some a) (hj : l[j]? = some a) : i = j:=by
 have h1:=(List.getElem?_eq_some_iff.mp hi).1
 have h2:=(List.getElem?_eq_some_iff.mp hj).1
 have e1:=(List.getElem?_eq_some_iff.mp hi).2
 have e2:=(List.getElem?_eq_some_iff.mp hj).2
 have key:=List.pairwise_iff_getElem.mp h
 rcases Nat.lt_trichotomy i j with z | z | z
 ·exact absurd (e1.trans e2.symm) (key i j h1 h2 z)
 ·exact z
 ·exact absurd (e2.trans e1.symm) (key j i h2 h1 z)
theorem J7B {J : It} {H : Hp} {σ0 : St} {g : TG} {tc : TT} {te : TE} {Q : VK} (vs : List V) (hJ : J79 J H vs) (hx : vs.length ≤ 1000)
  (step : ∀ x σ H' (R : St → V → Hp → Prop) (Rf : St → Hp → Prop),(∀ σ2 p,H' p = none → R σ2 (.ref p) (upd H' p (.lst []))) → g x σ H' fun σ2 H2=>tc σ2 H2 fun b H3=>if b = true then te σ2 H3 (fun y H4=>R σ2 y H4) else Rf σ2 H3)
  (hQ : ∀ (D : Addr) (H' : Hp) (bs : List Addr),H D = none → Same H H' → bs.length = vs.length → bs.Nodup → (∀ b ∈ bs,b ≠ D ∧ H b = none ∧ H' b = some (.lst [])) → H' D = some (.lst (bs.map V.ref)) → Q (.ref D) H') : J5z J H σ0 g tc te Q:=by
 intro D hD
 refine ⟨fun i m σ1 ys H'=>m = vs.length - i ∧ i ≤ vs.length ∧ ∃ bs : List Addr,ys = bs.map V.ref ∧ bs.length = i ∧ bs.Nodup ∧ (∀ b ∈ bs,b ≠ D ∧ H b = none ∧ H' b = some (.lst [])) ∧ H' D = some (.lst ys) ∧ Same H H',
  ⟨vs.length,by simp,Nat.zero_le _,[],rfl,rfl,List.nodup_nil,fun b hb=>absurd hb List.not_mem_nil,Jc,JK hD _⟩,?_⟩
 rintro i m σ1 ys H' ⟨rfl,hi,bs,rfl,hl,hn,hb,hDD,hs⟩
 by_cases hlt : i < vs.length
 ·refine .inr ⟨hJ.go i H' hs hlt,fun x H'' hy=>?_⟩
  obtain ⟨e,_⟩:=hJ.yld i H' x H'' hs hlt hy
  subst e
  refine step x σ1 H'' _ _ fun σ2 p hp=>?_
  have hs2 : Same H'' (upd H'' p (.lst [])):=JK hp _
  have big : (1001 : Nat) ≤ sizeLine:=by decide
  refine ⟨hs2 _ _ hDD,by rw [List.length_map]; omega,vs.length - (i + 1),by omega,rfl,hlt,bs ++ [p],by rw [List.map_append]; rfl,by rw [List.length_append,List.length_singleton,hl],?_,fun b hbm=>?_,Jc,(hs.trans hs2).upd hD⟩
  ·rw [List.nodup_append]
   refine ⟨hn,by simp,fun a ha b hbb z=>?_⟩
   rw [List.mem_singleton.mp hbb] at z
   have:=(hb a ha).2.2
   rw [z,hp] at this
   cases this
  ·have pD : p ≠ D:=fun z=>by rw [z,hDD] at hp; cases hp
   rcases List.mem_append.mp hbm with hbm | hbm
   ·obtain ⟨b1,b2,b3⟩:=hb b hbm
    exact ⟨b1,b2,by rw [J7 b1]; exact hs2 _ _ b3⟩
   ·rw [List.mem_singleton.mp hbm]
    exact ⟨pD,hs.free hp,by rw [J7 pD]; exact Jc⟩
 ·have e : i = vs.length:=by omega
  subst e
  exact .inl ⟨hJ.stop H' hs,hQ D H' bs hD hs hl hn hb hDD⟩
noncomputable def J1K (H : Hp) (D : Addr) (bs : List Addr) (F : Nat → List (List V)) : Prop:=H D = some (.lst (bs.map V.ref)) ∧ bs.Nodup ∧ (∀ b ∈ bs,b ≠ D) ∧ ∀ (i : Nat) (b : Addr),bs[i]? = some b → ∃ xs,H b = some (.lst xs) ∧ All2 TpV H (F i) xs
theorem J1K.same {H H' : Hp} {D : Addr} {bs : List Addr} {F : Nat → List (List V)} (c : J1K H D bs F) (s : Same H H') : J1K H' D bs F :=
 ⟨s _ _ c.1,c.2.1,c.2.2.1,fun i b hb=>let ⟨xs,h1,h2⟩:=c.2.2.2 i b hb; ⟨xs,s _ _ h1,h2.imp fun a y=>TpV.keeps a y _ _ s.keeps⟩⟩
theorem J1K.congr {H : Hp} {D : Addr} {bs : List Addr} {F G : Nat → List (List V)} (c : J1K H D bs F) (e : ∀ i < bs.length,F i = G i) : J1K H D bs G :=
 ⟨c.1,c.2.1,c.2.2.1,fun i b hb=>by rw [← e i (List.getElem?_eq_some_iff.mp hb).1]; exact c.2.2.2 i b hb⟩
theorem J1K.push {H H2 : Hp} {D : Addr} {bs : List Addr} {F : Nat → List (List V)} {d : Nat} {b t : Addr} {xs v : List V} (c : J1K H D bs F) (hd : bs[d]? = some b) (hb : H b = some (.lst xs)) (hF : All2 TpV H (F d) xs) (s : Same H H2) (ht : H2 t = some (.tup v)) :
  J1K (upd H2 b (.lst (xs ++ [.ref t]))) D bs (fun i=>if i = d then F i ++ [v] else F i):=by
 have hbm:=List.mem_of_getElem? hd
 have hb2:=s _ _ hb
 have kk : J1i H2 (upd H2 b (.lst (xs ++ [.ref t]))):=J1N hb2
 refine ⟨?_,c.2.1,c.2.2.1,fun i b' hb'=>?_⟩
 ·rw [J7 (c.2.2.1 b hbm).symm]
  exact s _ _ c.1
 ·by_cases e : i = d
  ·subst e
   rw [hd] at hb'
   cases hb'
   refine ⟨_,Jc,?_⟩
   show All2 TpV _ (if i = i then F i ++ [v] else F i) _
   rw [if_pos rfl]
   exact All2.snoc (hF.imp fun a y=>TpV.keeps a y _ _ (s.keeps.trans kk)) ⟨t,rfl,kk _ _ ht fun zs z=>by cases z⟩
  ·have nb : b' ≠ b:=fun z=>by
    subst z
    exact e (J8P c.2.1 hb' hd)
   obtain ⟨ys,h1,h2⟩:=c.2.2.2 i b' hb'
   refine ⟨ys,by rw [J7 nb]; exact s _ _ h1,?_⟩
   show All2 TpV _ (if i = d then F i ++ [v] else F i) _
   rw [if_neg e]
   exact h2.imp fun a y=>TpV.keeps a y _ _ (s.keeps.trans kk)
noncomputable abbrev fW (n p f s y : V) : List (Str × V):=[("net",n),("prices",p),("flows",f),("spare",s),("ways",y)]
theorem J2T (n p f s y : V) : List.lookup ("net" : Str) (fW n p f s y) = some n:=J34
theorem J1c (n p f s y : V) : List.lookup ("prices" : Str) (fW n p f s y) = some p:=by rw [J1L (by decide +kernel),J34]
theorem J1D (n p f s y : V) : List.lookup ("flows" : Str) (fW n p f s y) = some f:=by rw [J1L (by decide +kernel),J1L (by decide +kernel),J34]
theorem J1I (n p f s y : V) : List.lookup ("spare" : Str) (fW n p f s y) = some s:=by rw [J1L (by decide +kernel),J1L (by decide +kernel),J1L (by decide +kernel),J34]
theorem J2h (n p f s y : V) : List.lookup ("ways" : Str) (fW n p f s y) = some y:=by rw [J1L (by decide +kernel),J1L (by decide +kernel),J1L (by decide +kernel),J1L (by decide +kernel),J34]
theorem J5C (m : Nat) : (List.replicate m [V.int 0]).flatten = (List.replicate m (0 : Int)).map V.int:=by
 induction m with
 | zero=>rfl
 | succ m ih=>rw [List.replicate_succ,List.flatten_cons,ih,List.replicate_succ,List.map_cons]; rfl
theorem J2H {fs : List Int} {i : Nat} {x : V} (h : (fs.map V.int)[i]? = some x) : ∃ f,fs[i]? = some f ∧ x = .int f:=by
 rw [List.getElem?_map] at h
 cases hf : fs[i]? with
 | none=>rw [hf] at h; cases h
 | some f=>rw [hf] at h; exact ⟨f,rfl,(Option.some.inj h).symm⟩
theorem J83 {m : Nat} {as : List Ar} {fs : List Int} (h : J1Z m as fs = true) : fs.length = as.length:=by
 unfold J1Z at h
 exact of_decide_eq_true (Bool.and_eq_true_iff.mp h).1
theorem J8O {m : Nat} {as : List Ar} {fs : List Int} (h : ¬ fs.length = as.length) : J1Z m as fs = false:=by
 unfold J1Z
 rw [decide_eq_false h]
 rfl
section
variable {P : Program} {w : World} {K : PySem.W.Frag} {mg : Str → Option Value} {base : Heap} {Je J8 J4 : Addr}
local macro_rules | `(tactic| walk_at "lk")=>`(tactic| first | exact J0Z _ _ | exact J0Y _ _)
theorem J63 (tx : Tx K mg Je J8 J4) : MtG P w K mg base Je "__init__" 1 ["self","many","arcs"] (J56 Je):=by
 refine tx.J61.g tx.J11.cl J5d (fun _ _ _ _ _ _ us hl=>match us,hl with | [_,_,_],_=>rfl) (fun vs H Q E h=>?_) (fun f cdv A outer s H vs Q E hr h=>?_)
 ·obtain ⟨p,dx,m,b,xs,rfl,_⟩:=h
  rfl
 ·obtain ⟨p,dx,m,b,xs,rfl,hp,hb,q⟩:=h
  refine ⟨_,(J5 (J2s (pv 0) (pv 1) rfl)
   (Jd (J2s (pv 0) (J0q J00 rfl tx.J0Q J03 (J0 (pv 2) J9)) rfl))),?_⟩
  walk_at "st"
  have nb : b ≠ p:=J0b hb hp (by intro z; cases z)
  refine ⟨_,rfl,_,rfl,p,Je,dx,[],rfl,hp,tx.J11.cl,tx.JH,(by show 0 < 1000; decide),?_⟩
  have B0 : But p H (upd H p (.ins Je dx (putF "many" m []))):=(But.refl p H).at
  have e0 : upd H p (.ins Je dx (putF "many" m [])) p = some (.ins Je dx [("many",m)]):=Jc
  generalize upd H p (.ins Je dx (putF "many" m [])) = H0 at B0 e0 ⊢
  refine ⟨_,rfl,b,xs,rfl,.inl (SqL.of (B0 _ _ nb hb)),fun l nl=>?_⟩
  refine ⟨_,rfl,p,Je,dx,[("many",m)],rfl,(J7 (Jb e0 nl)).trans e0,tx.J11.cl,tx.JA,(by show 1 < 1000; decide),?_⟩
  rw [putN (fs:=[("many",m)]) (show ∀ g ∈ [("many" : Str)],g ≠ "arcs" from by decide +kernel)]
  have zl : l ≠ p:=(Jb e0 nl).symm
  have ml : H l = none:=by cases hh : H l with | none=>rfl | some o=>rw [B0 _ _ zl hh] at nl; cases nl
  exact q _ l ((B0.new nl).at) Jc (by rw [J7 zl]; exact Jc) ml
theorem J24 (tx : Tx K mg Je J8 J4) : FnG P w K mg base "weight_of" 1 ["arc","prices"] (J7d K):=by
 refine tx.J57.g J4E (fun _ _ _ _ _ _ us hl=>match us,hl with | [_,_],_=>rfl) (fun vs H Q E h=>?_) (fun f cdv A outer s H vs Q E hr h=>?_)
 ·obtain ⟨t,l,a,ps,rfl,_⟩:=h
  rfl
 ·obtain ⟨t,l,a,ps,rfl,ht,hl,⟨a0,a1,a2,a3,_⟩,q⟩:=h
  refine ⟨_,(Jd (Jv (Jj J1j (Jj J0r (Jg (Ji (K:=K) rfl) (pv 0) J2 (fun _ _=>rfl)) (Jg (Jk (K:=K) rfl) (pv 1) (Jg (Ji (K:=K) rfl) (pv 0) J2 (fun _ _=>rfl)) (fun _ _=>rfl))) (Jg (Jk (K:=K) rfl) (pv 1) (Jg (Ji (K:=K) rfl) (pv 0) J2 (fun _ _=>rfl)) (fun _ _=>rfl))))),?_⟩
  walk_at "st"
  have e1:=Jt a0 a1
  have e2:=Jt a2 a3
  walk_at "rd"
  exact q
theorem J65 (tx : Tx K mg Je J8 J4) : FnG P w K mg base "floor_of" 2 ["net","prices"] (J8n K Je):=by
 have J09:=J24 (P:=P) (w:=w) (base:=base) tx
 refine tx.J5V.g J12 (fun _ _ _ _ _ _ us hl=>match us,hl with | [_,_],_=>rfl) (fun vs H Q E h=>?_) (fun f cdv A outer s H vs Q E hr h=>?_)
 ·obtain ⟨n,l,m,xs,as,ps,rfl,_⟩:=h
  rfl
 ·obtain ⟨n,l,m,xs,as,ps,rfl,hN,hl,hok,q⟩:=h
  refine ⟨_,(J5 (Jo (i:=2) J12.nd rfl (Or.inl rfl) J2)
   (J5 (J0L PassesOwn.never rfl (JS (K:=K) rfl (Jq (K:=K) rfl (pv 0) rfl)) (Jn (i:=3) J12.nd rfl (Or.inl rfl)) (J5 (Jo (i:=4) J12.nd rfl (Or.inl rfl) (JL J09 (hr.mono (by decide)) (J0 (pv 3) (J0 (pv 1) J9))))
   (Jd (Jc2 (i:=2) J12.nd rfl (Or.inl rfl) (Jp (J7J rfl) rfl tx.J45 J6l (J0 (Jj J1y (pv 4) (Jg (Ji (K:=K) rfl) (pv 3) J2 (fun _ _=>rfl))) (J0 (Jj J1y (pv 4) (Jg (Ji (K:=K) rfl) (pv 3) J2 (fun _ _=>rfl))) J9))) J3O))))
   (Jd (Jv (pv 2))))),?_⟩
  walk_at "st"
  clear J09
  obtain ⟨al,⟨dx,h1⟩,h2,h3⟩:=hN
  have cN:=tx.J11.cl
  have nA:=tx.JA
  have hyl:=h3.len
  walk_at "rd"
  refine J2c (K:=K) (xs:=xs) (fun i σ H2=>Here (∃ v1 v2,σ = [some (.ref n),some (.ref l),some (.int (J1U ps (as.take i))),v1,v2] ∧ H2 = H)) (Here.mk ⟨none,none,rfl,rfl⟩) (fun i σ H2 _ hv=>by obtain ⟨_,_,_,e⟩:=hv.out; rw [e]; exact SqL.of h2) ?_ ?_
  ·rintro i x σ H2 hx hv
   obtain ⟨v1,v2,rfl,eH⟩:=hv.out
   rw [eH]
   obtain ⟨a,ha,t,rfl,ht⟩:=h3.back hx
   have ok:=hok a (List.mem_of_getElem? ha)
   have hSl:=SqL.of (K:=K) hl
   have e:=J5G (ps:=ps) ha
   have b1:=ok.2.2.2.2.1
   have b2:=ok.2.2.2.2.2.1
   have b3:=ok.2.2.2.2.2.2.1
   have b4:=ok.2.2.2.2.2.2.2
   walk_at "rd"
   refine Here.mk ⟨some (.ref t),some (.int (wtF ps a)),?_,rfl⟩
   rw [e]
   rfl
  ·rintro σ H2 hv
   obtain ⟨v1,v2,rfl,eH⟩:=hv.out
   rw [eH,List.take_of_length_le (by omega)]
   walk_at "rd"
   exact q
theorem J3A (tx : Tx K mg Je J8 J4) : FnG P w K mg base "spare_of" 1 ["net","flows"] (J8q K Je):=by
 refine tx.J5Y.g J1o (fun _ _ _ _ _ _ us hl=>match us,hl with | [_,_],_=>rfl) (fun vs H Q E h=>?_) (fun f cdv A outer s H vs Q E hr h=>?_)
 ·obtain ⟨n,l,m,xs,as,fs,rfl,_⟩:=h
  rfl
 ·obtain ⟨n,l,m,xs,as,fs,rfl,hN,hl,hlen,hm,hok,q⟩:=h
  refine ⟨_,(J5 (Jo (i:=2) J1o.nd rfl (Or.inl rfl) (Jj J6A (J1l (J0 J2 J9)) (Jq (K:=K) rfl (pv 0) rfl)))
   (J5 (J0L PassesOwn.never rfl (J2d (K:=K) rfl rfl tx.J2V (J0 (pv 1) (J0 (Jq (K:=K) rfl (pv 0) rfl) J9))) (J28 rfl (Jx (Jn (i:=3) J1o.nd rfl (Or.inl rfl)) (Jx (Jn (i:=4) J1o.nd rfl (Or.inl rfl)) J19))) (J5 (J2i (pv 2) (Jg (Ji (K:=K) rfl) (pv 4) J2 (fun _ _=>rfl)) (J1d (K:=K) rfl) (pv 3) J9e J0u)
   (Jd (J2i (pv 2) (Jg (Ji (K:=K) rfl) (pv 4) J2 (fun _ _=>rfl)) (J1d (K:=K) rfl) (pv 3) J3O J0u))))
   (Jd (Jv (pv 2))))),?_⟩
  walk_at "st"
  obtain ⟨al,⟨dx,h1⟩,h2,h3⟩:=hN
  have cN:=tx.J11.cl
  have nM:=tx.JH
  have nA:=tx.JA
  have hyl:=h3.len
  walk_at "rd"
  intro z1 f1
  obtain ⟨H1,e1,k1,s1⟩:=newl (xs:=[V.int 0]) f1
  rw [← e1]
  have h11:=s1 _ _ h1
  have hsz : [V.int 0].length * ((m : Int)).toNat ≤ sizeLine:=by
   rw [Int.toNat_natCast,List.length_singleton]
   exact J6x (by omega)
  walk_at "rd"
  intro D f2
  rw [Int.toNat_natCast,J5C]
  obtain ⟨H2,e2,k2,s2⟩:=newl (xs:=(List.replicate m (0 : Int)).map V.int) f2
  rw [← e2]
  have S2:=s1.trans s2
  have hD : H D = none:=s1.free f2
  have h12:=S2 _ _ h1
  have hl2:=S2 _ _ hl
  have h22:=S2 _ _ h2
  walk_at "rd"
  refine J5R (K:=K) (xs:=fs.map V.int) (ys:=xs) (fun i σ H3=>Here (∃ v1 v2,σ = [some (.ref n),some (.ref l),some (.ref D),v1,v2] ∧ H3 D = some (.lst ((spF m ((fs.zip as).take i)).map V.int)) ∧ Same H H3)) (Here.mk ⟨none,none,rfl,k2,S2⟩) (fun i σ H3 _ _ hv=>by obtain ⟨_,_,_,_,s3⟩:=hv.out; exact ⟨SqL.of (s3 _ _ hl),SqL.of (s3 _ _ h2)⟩) ?_ ?_
  ·rintro i x y p σ H3 hx hy hp hv
   obtain ⟨v1,v2,rfl,k3,s3⟩:=hv.out
   obtain ⟨a,ha,t,rfl,ht⟩:=h3.back hy
   obtain ⟨f,hf,rfl⟩:=J2H hx
   have hz : (fs.zip as)[i]? = some (f,a):=List.getElem?_zip_eq_some.mpr ⟨hf,ha⟩
   obtain ⟨a0,a1,a2,a3,_⟩:=hok a (List.mem_of_getElem? ha)
   have ntD : t ≠ D:=Jb ht hD
   obtain ⟨H4,e4,hp4,s4⟩:=newt (xs:=[V.int f,V.ref t]) hp
   rw [← e4]
   have t4:=s3.trans s4
   have ht4:=t4 _ _ ht
   have k4:=s4 _ _ k3
   have hsp:=J17 m ((fs.zip as).take i)
   have hst:=J5w (m:=m) hz
   generalize spF m ((fs.zip as).take i) = L at k3 k4 hsp hst
   have e1:=Jt (ns:=L) a0 (by omega)
   have i1 : ixN (L.map V.int).length a.s = some a.s.toNat:=J1W a0 (by rw [List.length_map]; omega)
   have e2 : atI ((L.map V.int).set a.s.toNat (.int (J6 L a.s - f))) a.g = some (.int (J6 (L.set a.s.toNat (J6 L a.s - f)) a.g)):=by
    rw [J0j]
    exact Jt a2 (by rw [List.length_set]; omega)
   have i2 : ixN ((L.map V.int).set a.s.toNat (.int (J6 L a.s - f))).length a.g = some a.g.toNat:=J1W a2 (by rw [List.length_set,List.length_map]; omega)
   have ht5 : upd H4 D (.lst ((L.map V.int).set a.s.toNat (.int (J6 L a.s - f)))) t = some (.tup [.int a.s,.int a.g,.int a.l,.int a.m,.int a.c]):=by
    rw [J7 ntD]
    exact ht4
   walk_at "rd"
   refine Here.mk ⟨_,_,rfl,?_,(t4.upd hD).upd hD⟩
   rw [Jc]
   show some (HO.lst (((L.map V.int).set a.s.toNat (.int (J6 L a.s - f))).set a.g.toNat (.int (J6 (L.set a.s.toNat (J6 L a.s - f)) a.g + f)))) = _
   rw [J0j,J0j,hst]
   rfl
  ·rintro i σ H3 hi hv
   obtain ⟨v1,v2,rfl,k3,s3⟩:=hv.out
   rw [List.length_map] at hi
   rw [List.take_of_length_le (by rw [List.length_zip]; omega)] at k3
   walk_at "rd"
   exact q D H3 hD s3 k3
theorem J42 (tx : Tx K mg Je J8 J4) : FnG P w K mg base "is_flow" 2 ["net","flows"] (J9y K Je):=by
 have J1f:=J3A (P:=P) (w:=w) (base:=base) tx
 refine tx.J7g.g J5Z (fun _ _ _ _ _ _ us hl=>match us,hl with | [_,_],_=>rfl) (fun vs H Q E h=>?_) (fun f cdv A outer s H vs Q E hr h=>?_)
 ·obtain ⟨n,l,m,xs,as,fs,rfl,_⟩:=h
  rfl
 ·obtain ⟨n,l,m,xs,as,fs,rfl,hN,hl,hm,hal,hok,q⟩:=h
  refine ⟨_,(J5 (JP (Jm J2J (Jp (Js (K:=K) rfl) rfl tx.J0C PySem.boot_len (J0 (pv 1) J9)) (Jp (Js (K:=K) rfl) rfl tx.J0C PySem.boot_len (J0 (Jq (K:=K) rfl (pv 0) rfl) J9)) (Jr _)) (Jd (Jv J0H)) Ju)
   (J5 (JP (J0U (J0A (Jp (J1T (K:=K) rfl rfl) rfl tx.J3q J4W (J0 (J0y (osc:=J3 J0l) (ON:=["net","flows"]) (N:=["number","arc"]) (js:=[none,none]) ⟨rfl,by decide +kernel,by decide +kernel,by decide +kernel,rfl,by decide +kernel⟩ rfl rfl rfl (J2d (K:=K) rfl rfl tx.J2V (J0 (pv 1) (J0 (Jq (K:=K) rfl (pv 0) rfl) J9))) (fun _ _ _ _ _=>J6y (K:=K) (i:=0) (j:=1) rfl rfl (show List.Nodup (["number","arc"] : List Str) from by decide +kernel) rfl rfl (Or.inl rfl) (Or.inl rfl)) (fun _ _ _ _ _=>J0w) (fun _ _ _ _ _=>(J5j J4p J4p (Jg (Ji (K:=K) rfl) (pv 1) J2 (fun _ _=>rfl)) (pv 0) (Jg (Ji (K:=K) rfl) (pv 1) J2 (fun _ _=>rfl))))) J9)))) (Jd (Jv J0H)) Ju)
   (Jd (Jv (J9v (Jp (J3U (K:=K) rfl rfl) rfl tx.J54 J92 (J0 (JL J1f (hr.mono (by decide)) (J0 (pv 0) (J0 (pv 1) J9))) J9))))))),?_⟩
  walk_at "st"
  clear J1f
  have hN':=hN
  obtain ⟨al,⟨dx,h1⟩,h2,h3⟩:=hN
  have cN:=tx.J11.cl
  have nA:=tx.JA
  have hyl:=h3.len
  walk_at "rd"
  refine ite2 (fun c=>?_) (fun c=>?_)
  ·have c' : ¬ fs.length = as.length:=fun z=>by
    rw [decide_eq_true (by rw [List.length_map,hyl,z])] at c
    cases c
   walk_at "rd"
   have qf:=q H (Same.refl _)
   rw [J8O c'] at qf
   exact qf
  ·have c' : fs.length = as.length:=Decidable.byContradiction fun z=>c (by
    rw [decide_eq_false fun y=>z (by have:=V.int.inj y; rw [List.length_map,hyl] at this; omega)]
    rfl)
   walk_at "rd"
   refine J2t (fs.zip as) (fun _=>true) (fun p y _=>y = V.bl (inB p)) (fun σ=>∃ v1 v2,σ = [v1,v2]) (SqL.of hl) (SqL.of h2) ?_ ?_ ?_ ⟨_,_,rfl⟩ (fun _ _ _ _ _ z=>z) (fun i a u v p σ H' ha hu hv hσ s' hp Rf Rt _ hR=>?_) (fun D H' ys hD s' hys hDD=>?_)
   ·rw [List.length_zip,List.length_map]; omega
   ·rw [List.length_zip]; omega
   ·rw [List.length_zip]; omega
   ·obtain ⟨v1,v2,rfl⟩:=hσ
    obtain ⟨f,a⟩:=a
    obtain ⟨hf,ha'⟩:=List.getElem?_zip_eq_some.mp ha
    rw [List.getElem?_map,hf] at hu
    cases hu
    obtain ⟨y,hy,t,rfl,ht⟩:=h3.get ha'
    rw [hv] at hy
    cases hy
    have s2 : Same H' (upd H' p (.tup [V.int f,V.ref t])):=JK hp _
    have ht2:=s2 _ _ (s' _ _ ht)
    walk_at "rd"
    refine ite2 (fun c1=>?_) (fun c1=>?_)
    ·walk_at "rd"
     refine hR _ _ _ rfl ⟨_,_,rfl⟩ s2 ?_
     show _ = V.bl (decide (a.l ≤ f) && decide (f ≤ a.m))
     rw [c1]
     rfl
    ·walk_at "rd"
     refine hR _ _ _ rfl ⟨_,_,rfl⟩ s2 ?_
     show _ = V.bl (decide (a.l ≤ f) && decide (f ≤ a.m))
     rw [Bool.eq_false_iff.mpr c1]
     rfl
   rw [J6u hys] at hDD
   have hSq:=SqL.of (K:=K) hDD
   have hN2:=hN'.same s'
   have hl2:=s' _ _ hl
   walk_at "rd"
   rw [J6j]
   have e : J1Z m as fs = ((fs.zip as).all inB && !((spF m (fs.zip as)).any nzB)):=by
    unfold J1Z
    rw [decide_eq_true c']
    rfl
   cases hb : (fs.zip as).all inB with
   | false =>
    walk_at "rd"
    have qf:=q H' s'
    rw [e,hb] at qf
    exact qf
   | true =>
    walk_at "rd"
    intro D2 H3 hD2 s3 k3
    have hSq3:=SqL.of (K:=K) k3
    walk_at "rd"
    have qf:=q H3 (s'.trans s3)
    rw [e,hb] at qf
    exact qf
theorem J3X (tx : Tx K mg Je J8 J4) : FnG P w K mg base "keeps_price" 1 ["arc","number","weight"] J8i:=by
 refine tx.J3W.g J3r (fun _ _ _ _ _ _ us hl=>match us,hl with | [_,_,_],_=>rfl) (fun vs H Q E h=>?_) (fun f cdv A outer s H vs Q E hr h=>?_)
 ·obtain ⟨t,a,n,wt,rfl,_⟩:=h
  rfl
 ·obtain ⟨t,a,n,wt,rfl,ht,q⟩:=h
  refine ⟨_,(J5 (JP (Jm J29 (pv 2) J2 (Jr _)) (Jd (Jv (J18 J15 (pv 1) (Jg (Ji (K:=K) rfl) (pv 0) J2 (fun _ _=>rfl)) (Jr _)))) Ju)
   (Jd (Jv (Jcd (J18 J15 (pv 2) J2 (Jr _)) (J4Z (J18 J15 (pv 1) (Jg (Ji (K:=K) rfl) (pv 0) J2 (fun _ _=>rfl)) (Jr _))))))),?_⟩
  walk_at "st"
  unfold kp1 at q
  walk_at "rd"
  refine ite2 (fun c=>?_) (fun c=>?_)
  ·have c' : 0 < wt:=of_decide_eq_true c
   rw [if_pos c'] at q
   walk_at "rd"
   show Q (.bl (decide (V.int n = V.int a.l))) H
   rw [iV]
   exact q
  ·have c' : ¬ 0 < wt:=fun z=>c (decide_eq_true z)
   rw [if_neg c'] at q
   walk_at "rd"
   by_cases z : wt = 0
   ·rw [decide_eq_true z] at q
    refine ite2 (fun c=>?_) (fun c=>?_)
    ·walk_at "rd"
     exact q
    ·exact absurd (decide_eq_true (by rw [z])) c
   ·rw [decide_eq_false z,Bool.false_or] at q
    refine ite2 (fun c=>?_) (fun c=>?_)
    ·exact absurd (V.int.inj (of_decide_eq_true c)) z
    ·walk_at "rd"
     show Q (.bl (decide (V.int n = V.int a.m))) H
     rw [iV]
     exact q
theorem J59 (tx : Tx K mg Je J8 J4) : FnG P w K mg base "is_priced" 3 ["net","flows","prices"] (J7j K Je):=by
 have J1A:=J42 (P:=P) (w:=w) (base:=base) tx
 have J2p:=J3X (P:=P) (w:=w) (base:=base) tx
 have J09:=J24 (P:=P) (w:=w) (base:=base) tx
 refine tx.J5b.g J4v (fun _ _ _ _ _ _ us hl=>match us,hl with | [_,_,_],_=>rfl) (fun vs H Q E h=>?_) (fun f cdv A outer s H vs Q E hr h=>?_)
 ·obtain ⟨n,l,pl,m,xs,as,fs,ps,rfl,_⟩:=h
  rfl
 ·obtain ⟨n,l,pl,m,xs,as,fs,ps,rfl,hN,hl,hpl,hm,hal,hok,q⟩:=h
  refine ⟨_,(J5 (JP (PW.pt (J1E (Jm J2J (Jp (Js (K:=K) rfl) rfl tx.J0C PySem.boot_len (J0 (pv 2) J9)) (Jq (K:=K) rfl (pv 0) rfl) (Jr _)) (J1w (J0U (J0A (JL J1A (hr.mono (by decide)) (J0 (pv 0) (J0 (pv 1) J9)))))))) (Jd (Jv J0H)) Ju)
   (Jd (Jv (Jp (J1T (K:=K) rfl rfl) rfl tx.J3q J4W (J0 (J0y (osc:=J3 JO) (ON:=["net","flows","prices"]) (N:=["number","arc","prices"]) (js:=[none,none,some 2]) ⟨rfl,by decide +kernel,by decide +kernel,by decide +kernel,rfl,by decide +kernel⟩ rfl rfl rfl (J2d (K:=K) rfl rfl tx.J2V (J0 (pv 1) (J0 (Jq (K:=K) rfl (pv 0) rfl) J9))) (fun _ _ _ _ _=>J6y (K:=K) (i:=0) (j:=1) rfl rfl (show List.Nodup (["number","arc","prices"] : List Str) from by decide +kernel) rfl rfl (Or.inl rfl) (Or.inl rfl)) (fun _ _ _ _ _=>J0w) (fun _ _ _ _ _=>(JL J2p (hr.mono (by decide)) (J0 (pv 1) (J0 (pv 0) (J0 (JL J09 (hr.mono (by decide)) (J0 (pv 1) (J0 (pv 2) J9))) J9)))))) J9))))),?_⟩
  walk_at "st"
  clear J1A J2p J09
  have hN':=hN
  obtain ⟨al,⟨dx,h1⟩,h2,h3⟩:=hN
  have cN:=tx.J11.cl
  have nM:=tx.JH
  have nA:=tx.JA
  have hyl:=h3.len
  walk_at "rd"
  refine ite2 (fun c=>?_) (fun c=>?_)
  ·have c' : ¬ ps.length = m:=fun z=>by
    rw [decide_eq_true (by rw [List.length_map,z])] at c
    cases c
   walk_at "rd"
   have qf:=q H (Same.refl _)
   unfold J2k at qf
   rw [decide_eq_false c'] at qf
   exact qf
  ·have c' : ps.length = m:=Decidable.byContradiction fun z=>c (by
    rw [decide_eq_false fun y=>z (by have:=V.int.inj y; rw [List.length_map] at this; omega)]
    rfl)
   walk_at "rd"
   intro H1 s1
   have e : J2k m as fs ps = (J1Z m as fs && (fs.zip as).all (kpB ps)):=by
    unfold J2k
    rw [decide_eq_true c']
    rfl
   have h11:=s1 _ _ h1
   have h21:=s1 _ _ h2
   have hl1:=s1 _ _ hl
   have hpl1:=s1 _ _ hpl
   walk_at "rd"
   cases hb : J1Z m as fs with
   | false =>
    walk_at "rd"
    have qf:=q H1 s1
    rw [e,hb] at qf
    exact qf
   | true =>
    have hlen:=J83 hb
    walk_at "rd"
    refine J2t (fs.zip as) (fun _=>true) (fun p y _=>y = V.bl (kpB ps p)) (fun σ=>∃ v1 v2,σ = [v1,v2,some (.ref pl)]) (SqL.of hl1) (SqL.of h21) ?_ ?_ ?_ ⟨_,_,rfl⟩ (fun _ _ _ _ _ z=>z) (fun i a u v p σ H' ha hu hv hσ s' hp Rf Rt _ hR=>?_) (fun D H' ys hD s' hys hDD=>?_)
    ·rw [List.length_zip,List.length_map]; omega
    ·rw [List.length_zip]; omega
    ·rw [List.length_zip]; omega
    ·obtain ⟨v1,v2,rfl⟩:=hσ
     obtain ⟨f,a⟩:=a
     obtain ⟨hf,ha'⟩:=List.getElem?_zip_eq_some.mp ha
     rw [List.getElem?_map,hf] at hu
     cases hu
     obtain ⟨y,hy,t,rfl,ht⟩:=h3.get ha'
     rw [hv] at hy
     cases hy
     have s2 : Same H' (upd H' p (.tup [V.int f,V.ref t])):=JK hp _
     have ht2:=s2 _ _ (s' _ _ (s1 _ _ ht))
     have hpl2:=SqL.of (K:=K) (s2 _ _ (s' _ _ hpl1))
     have ok : ArOk ps.length a:=by rw [c']; exact hok a (List.mem_of_getElem? ha')
     walk_at "rd"
     exact hR _ _ _ rfl ⟨_,_,rfl⟩ s2 rfl
    rw [J6u hys] at hDD
    have hSq:=SqL.of (K:=K) hDD
    walk_at "rd"
    rw [J6j]
    have qf:=q H' (s1.trans s')
    rw [e,hb,Bool.true_and] at qf
    exact qf
end
section
variable {P : Program} {w : World} {K : PySem.W.Frag} {mg : Str → Option Value} {base : Heap} {Je J8 J4 : Addr}
local macro_rules | `(tactic| walk_at "lk")=>`(tactic| first | exact J0Z _ _ | exact J0Y _ _)
theorem J7m (tx : Tx K mg Je J8 J4) : FnG P w K mg base "cost_of" 1 ["net","flows"] (J9z K Je):=by
 refine tx.J7b.g J5U (fun _ _ _ _ _ _ us hl=>match us,hl with | [_,_],_=>rfl) (fun vs H Q E h=>?_) (fun f cdv A outer s H vs Q E hr h=>?_)
 ·obtain ⟨n,l,m,xs,as,fs,rfl,_⟩:=h
  rfl
 ·obtain ⟨n,l,m,xs,as,fs,rfl,hN,hl,hlen,hal,hbd,q⟩:=h
  refine ⟨_,(Jd (Jv (Jp (J1B (K:=K) rfl rfl) rfl tx.J2Y J3M (J0 (J0y (osc:=J3 J0m) (ON:=["net","flows"]) (N:=["number","arc"]) (js:=[none,none]) ⟨rfl,by decide +kernel,by decide +kernel,by decide +kernel,rfl,by decide +kernel⟩ rfl rfl rfl (J2d (K:=K) rfl rfl tx.J2V (J0 (pv 1) (J0 (Jq (K:=K) rfl (pv 0) rfl) J9))) (fun _ _ _ _ _=>J6y (K:=K) (i:=0) (j:=1) rfl rfl (show List.Nodup (["number","arc"] : List Str) from by decide +kernel) rfl rfl (Or.inl rfl) (Or.inl rfl)) (fun _ _ _ _ _=>J0w) (fun _ _ _ _ _=>(Jj J1y (pv 0) (Jg (Ji (K:=K) rfl) (pv 1) J2 (fun _ _=>rfl))))) J9)))),?_⟩
  walk_at "st"
  obtain ⟨al,⟨dx,h1⟩,h2,h3⟩:=hN
  have cN:=tx.J11.cl
  have nA:=tx.JA
  have hyl:=h3.len
  walk_at "rd"
  refine J2t (fs.zip as) (fun _=>true) (fun p y _=>y = V.int (p.1 * p.2.c)) (fun σ=>∃ v1 v2,σ = [v1,v2]) (SqL.of hl) (SqL.of h2) ?_ ?_ ?_ ⟨_,_,rfl⟩ (fun _ _ _ _ _ z=>z) (fun i a u v p σ H' ha hu hv hσ s' hp Rf Rt _ hR=>?_) (fun D H' ys hD s' hys hDD=>?_)
  ·rw [List.length_zip,List.length_map]; omega
  ·rw [List.length_zip]; omega
  ·rw [List.length_zip]; omega
  ·obtain ⟨v1,v2,rfl⟩:=hσ
   obtain ⟨f,a⟩:=a
   obtain ⟨hf,ha'⟩:=List.getElem?_zip_eq_some.mp ha
   rw [List.getElem?_map,hf] at hu
   cases hu
   obtain ⟨y,hy,t,rfl,ht⟩:=h3.get ha'
   rw [hv] at hy
   cases hy
   have s2 : Same H' (upd H' p (.tup [V.int f,V.ref t])):=JK hp _
   have ht2:=s2 _ _ (s' _ _ ht)
   have bf:=hbd f (List.mem_of_getElem? hf)
   walk_at "rd"
   exact hR _ _ _ rfl ⟨_,_,rfl⟩ s2 rfl
  rw [J4H (f:=fun p : Int × Ar=>p.1 * p.2.c) hys] at hDD
  have hSq:=SqL.of (K:=K) hDD
  walk_at "rd"
  exact q H' s'
end
section
variable {P : Program} {w : World} {K : PySem.W.Frag} {mg : Str → Option Value} {base : Heap} {Je J8 J4 : Addr}
local macro_rules | `(tactic| walk_at "lk")=>`(tactic| first | exact J0Z _ _ | exact J0Y _ _)
theorem J8t (tx : Tx K mg Je J8 J4) : FnG P w K mg base "marked" 1 ["many","nodes"] J7f:=by
 refine tx.J8a.g J2K (fun _ _ _ _ _ _ us hl=>match us,hl with | [_,_],_=>rfl) (fun vs H Q E h=>?_) (fun f cdv A outer s H vs Q E hr h=>?_)
 ·obtain ⟨m,l,ns,rfl,_⟩:=h
  rfl
 ·obtain ⟨m,l,ns,rfl,hl,hm,hok,q⟩:=h
  refine ⟨_,(J5 (Jo (i:=2) J2K.nd rfl (Or.inl rfl) (Jj J6A (J1l (J0 J0H J9)) (pv 0)))
   (J5 (J0L PassesOwn.never rfl (JS (K:=K) rfl (pv 1)) (Jn (i:=3) J2K.nd rfl (Or.inl rfl)) (Jd (J4J J0H (J4O (pv 2) (pv 3) J0u))))
   (Jd (Jv (pv 2))))),?_⟩
  walk_at "st"
  walk_at "rd"
  intro z1 f1
  obtain ⟨H1,e1,k1,s1⟩:=newl (xs:=[V.bl false]) f1
  rw [← e1]
  have hsz : [V.bl false].length * ((m : Int)).toNat ≤ sizeLine:=by
   rw [Int.toNat_natCast,List.length_singleton]
   exact J6x (by omega)
  walk_at "rd"
  intro D f2
  rw [Int.toNat_natCast,Jc4]
  obtain ⟨H2,e2,k2,s2⟩:=newl (xs:=(wiF m []).map V.bl) f2
  rw [← e2]
  have S2:=s1.trans s2
  have hD : H D = none:=s1.free f2
  have hl2:=S2 _ _ hl
  walk_at "rd"
  refine J2c (K:=K) (xs:=ns.map V.int) (fun i σ H3=>Here (∃ v1,σ = [some (.int m),some (.ref l),some (.ref D),v1] ∧ H3 D = some (.lst ((wiF m (ns.take i)).map V.bl)) ∧ Same H H3)) (Here.mk ⟨none,rfl,k2,S2⟩) (fun i σ H3 _ hv=>by obtain ⟨_,_,_,s3⟩:=hv.out; exact SqL.of (s3 _ _ hl)) ?_ ?_
  ·rintro i x σ H3 hx hv
   obtain ⟨v1,rfl,k3,s3⟩:=hv.out
   obtain ⟨n,hn,rfl⟩:=J2H hx
   have hr1:=Bool.and_eq_true_iff.mp (List.all_eq_true.mp hok n (List.mem_of_getElem? hn))
   have n0 : 0 ≤ n:=of_decide_eq_true hr1.1
   have n1 : n < (m : Int):=of_decide_eq_true hr1.2
   have i1 : ixN ((wiF m (ns.take i)).map V.bl).length n = some n.toNat:=J1W n0 (by rw [List.length_map,Jah]; exact n1)
   walk_at "rd"
   refine Here.mk ⟨_,rfl,?_,s3.upd hD⟩
   rw [Jc,List.take_add_one,hn]
   show _ = some (HO.lst ((wiF m (ns.take i ++ [n])).map V.bl))
   rw [← Jc7 n0,List.map_set]
  ·rintro σ H3 hv
   obtain ⟨v1,rfl,k3,s3⟩:=hv.out
   rw [List.length_map,List.take_of_length_le (Nat.le_refl _)] at k3
   walk_at "rd"
   exact q D H3 hD s3 k3
theorem J8j (tx : Tx K mg Je J8 J4) : FnG P w K mg base "is_cut" 2 ["net","nodes"] (Jbp Je):=by
 have J5c:=J8t (P:=P) (w:=w) (base:=base) tx
 refine tx.J8c.g J2e (fun _ _ _ _ _ _ us hl=>match us,hl with | [_,_],_=>rfl) (fun vs H Q E h=>?_) (fun f cdv A outer s H vs Q E hr h=>?_)
 ·obtain ⟨n,l,m,xs,as,ns,rfl,_⟩:=h
  rfl
 ·obtain ⟨n,l,m,xs,as,ns,rfl,hN,hl,hm,hal,hnl,hok,q⟩:=h
  refine ⟨_,(J5 (JP (PW.pt (J1E (Jm J3D (Jp J5y rfl tx.J0C PySem.boot_len (J0 (J0q (J7z (K:=K) rfl rfl) rfl tx.J6F J7S (J0 (pv 1) J9)) J9)) (Jp (Js (K:=K) rfl) rfl tx.J0C PySem.boot_len (J0 (pv 1) J9)) (Jr _)) (J1w (J0U (J0A (Jp (J1T (K:=K) rfl rfl) rfl tx.J3q J4W (J0 (J0y (osc:=J3 J0h) (ON:=["net","nodes","within","must_leave","can_come"]) (N:=["node","net"]) (js:=[none,some 0]) ⟨rfl,by decide +kernel,by decide +kernel,by decide +kernel,rfl,by decide +kernel⟩ rfl rfl rfl (JS (K:=K) rfl (pv 1)) (fun _ _ _ _ _=>Jn (i:=0) (show List.Nodup (["node","net"] : List Str) from by decide +kernel) rfl (Or.inl rfl)) (fun _ _ _ _ _=>J0w) (fun _ _ _ _ _=>(J5j J4p J3D J2 (pv 0) (Jq (K:=K) rfl (pv 1) rfl)))) J9))))))) (Jd (Jv J0H)) Ju)
   (J5 (Jo (i:=2) J2e.nd rfl (Or.inr rfl) (JL J5c (hr.mono (by decide)) (J0 (Jq (K:=K) rfl (pv 0) rfl) (J0 (pv 1) J9))))
   (J5 (Jo (i:=3) J2e.nd rfl (Or.inl rfl) (Jp (J1B (K:=K) rfl rfl) rfl tx.J2Y J3M (J0 (J0y (osc:=J3 J0h) (ON:=["net","nodes","within","must_leave","can_come"]) (N:=["arc","within"]) (js:=[none,some 2]) ⟨rfl,by decide +kernel,by decide +kernel,by decide +kernel,rfl,by decide +kernel⟩ rfl rfl rfl (JS (K:=K) rfl (Jq (K:=K) rfl (pv 0) rfl)) (fun _ _ _ _ _=>Jn (i:=0) (show List.Nodup (["arc","within"] : List Str) from by decide +kernel) rfl (Or.inl rfl)) (fun _ _ _ _ _=>J1J (PW.pt (J1x (J0A (Jg (Jk (K:=K) rfl) (pv 1) (Jg (Ji (K:=K) rfl) (pv 0) J2 (fun _ _=>rfl)) (fun _ _=>rfl))) (J0X (J0U (J0A (Jg (Jk (K:=K) rfl) (pv 1) (Jg (Ji (K:=K) rfl) (pv 0) J2 (fun _ _=>rfl)) (fun _ _=>rfl)))))))) (fun _ _ _ _ _=>(Jg (Ji (K:=K) rfl) (pv 0) J2 (fun _ _=>rfl)))) J9)))
   (J5 (Jo (i:=4) J2e.nd rfl (Or.inl rfl) (Jp (J1B (K:=K) rfl rfl) rfl tx.J2Y J3M (J0 (J0y (osc:=J3 J0h) (ON:=["net","nodes","within","must_leave","can_come"]) (N:=["arc","within"]) (js:=[none,some 2]) ⟨rfl,by decide +kernel,by decide +kernel,by decide +kernel,rfl,by decide +kernel⟩ rfl rfl rfl (JS (K:=K) rfl (Jq (K:=K) rfl (pv 0) rfl)) (fun _ _ _ _ _=>Jn (i:=0) (show List.Nodup (["arc","within"] : List Str) from by decide +kernel) rfl (Or.inl rfl)) (fun _ _ _ _ _=>J1J (PW.pt (J1x (J0A (Jg (Jk (K:=K) rfl) (pv 1) (Jg (Ji (K:=K) rfl) (pv 0) J2 (fun _ _=>rfl)) (fun _ _=>rfl))) (J0X (J0U (J0A (Jg (Jk (K:=K) rfl) (pv 1) (Jg (Ji (K:=K) rfl) (pv 0) J2 (fun _ _=>rfl)) (fun _ _=>rfl)))))))) (fun _ _ _ _ _=>(Jg (Ji (K:=K) rfl) (pv 0) J2 (fun _ _=>rfl)))) J9)))
   (Jd (Jv (J18 J29 (pv 3) (pv 4) (Jr _)))))))),?_⟩
  walk_at "st"
  clear J5c
  obtain ⟨al,⟨dx,h1⟩,h2,h3⟩:=hN
  have cN:=tx.J11.cl
  have nM:=tx.JH
  have nA:=tx.JA
  have hyl:=h3.len
  have hL : (ns.map V.int).length = ns.length:=List.length_map _
  have hml:=J9J ns
  walk_at "rd"
  intro p S np
  obtain ⟨H1,e1,k1,s1⟩:=newo (o:=.set S (J0G ns)) np
  rw [← e1]
  have h11:=s1 _ _ h1
  have hl1:=s1 _ _ hl
  have h21:=s1 _ _ h2
  walk_at "rd"
  refine ite2 (fun c=>?_) (fun c=>?_)
  ·have c' : ¬ J0G ns = ns.length:=by
    have:=of_decide_eq_true c
    omega
   walk_at "rd"
   have qf:=q H1 s1
   unfold cutB at qf
   rw [decide_eq_false c'] at qf
   exact qf
  have c' : J0G ns = ns.length:=by
   have : ¬ ((J0G ns : Int) < ((ns.map V.int).length : Int)):=fun z=>c (decide_eq_true z)
   omega
  have e : cutB m as ns = (okN m ns && decide (J5q as ns < J3L as ns)):=by
   unfold cutB
   rw [decide_eq_true c']
   rfl
  walk_at "rd"
  refine JI ns (fun _=>true) (fun a y _=>y = V.bl (rgB m a)) (fun σ=>∃ v,σ = [v,some (.ref n)]) (J04 (SqL.of hl1)) (by rw [List.length_map]) (by omega) ⟨_,rfl⟩ (fun _ _ _ _ _ z=>z) (fun i a v σ H' ha hv hσ s' Rf Rt _ hR=>?_) (fun D H2 ys hD s2 hys hDD=>?_)
  ·obtain ⟨w1,rfl⟩:=hσ
   rw [List.getElem?_map,ha] at hv
   cases hv
   have h1':=s' _ _ h11
   walk_at "rd"
   refine ite2 (fun c1=>?_) (fun c1=>?_)
   ·walk_at "rd"
    refine hR _ _ _ rfl ⟨_,rfl⟩ (Same.refl _) ?_
    show _ = V.bl (decide (0 ≤ a) && decide (a < (m : Int)))
    rw [c1]
    rfl
   ·walk_at "rd"
    refine hR _ _ _ rfl ⟨_,rfl⟩ (Same.refl _) ?_
    show _ = V.bl (decide (0 ≤ a) && decide (a < (m : Int)))
    rw [Bool.eq_false_iff.mpr c1]
    rfl
  rw [J6u hys] at hDD
  have hSq:=SqL.of (K:=K) hDD
  have h12:=s2 _ _ h11
  have hl2:=s2 _ _ hl1
  have S2:=s1.trans s2
  walk_at "rd"
  rw [J6j]
  cases hb : ns.all (rgB m) with
  | false =>
   walk_at "rd"
   have qf:=q H2 S2
   unfold okN at e
   rw [e,hb] at qf
   exact qf
  | true =>
   have hokn : okN m ns = true:=hb
   rw [hokn,Bool.true_and] at e
   walk_at "rd"
   intro W H3 hW s3 k3
   have h13:=s3 _ _ h12
   have S3:=S2.trans s3
   have h23:=S3 _ _ h2
   have A3:=h3.imp (H':=H3) (P':=ArT) fun a y=>ArT.keeps a y _ _ S3.keeps
   walk_at "rd"
   refine JI as (lvB ns) (fun a y _=>y = V.int a.l) (fun σ=>∃ v,σ = [v,some (.ref W)]) (J04 (SqL.of h23)) hyl (by omega) ⟨_,rfl⟩ (fun _ _ _ _ _ z=>z) (fun i a v σ H' ha hv hσ s' Rf Rt hF hR=>?_) (fun D2 H4 ys2 hD2 s4 hys2 hDD2=>?_)
   ·obtain ⟨w1,rfl⟩:=hσ
    obtain ⟨y,hy,t,rfl,ht⟩:=A3.get ha
    rw [hv] at hy
    cases hy
    obtain ⟨a0,a1,a2,a3,_⟩:=hok a (List.mem_of_getElem? ha)
    have ht':=s' _ _ ht
    have k':=s' _ _ k3
    have e1:=J6T (m:=m) (ns:=ns) a0 a1
    have e2:=J6T (m:=m) (ns:=ns) a2 a3
    have ef : lvB ns a = (inI a.s ns && !inI a.g ns):=rfl
    walk_at "rd"
    cases c1 : inI a.s ns with
    | false =>
     walk_at "rd"
     refine hF _ _ ?_ ⟨_,rfl⟩ (Same.refl _)
     rw [ef,c1]
     rfl
    | true =>
     walk_at "rd"
     cases c2 : inI a.g ns with
     | true =>
      walk_at "rd"
      refine hF _ _ ?_ ⟨_,rfl⟩ (Same.refl _)
      rw [ef,c1,c2]
      rfl
     | false =>
      walk_at "rd"
      refine hR _ _ _ ?_ ⟨_,rfl⟩ (Same.refl _) rfl
      rw [ef,c1,c2]
      rfl
   rw [J3V (f:=fun a : Ar=>a.l) hys2] at hDD2
   have hSq2:=SqL.of (K:=K) hDD2
   have h14:=s4 _ _ h13
   have h24:=s4 _ _ h23
   have k4:=s4 _ _ k3
   have S4:=S3.trans s4
   have A4:=h3.imp (H':=H4) (P':=ArT) fun a y=>ArT.keeps a y _ _ S4.keeps
   walk_at "rd"
   refine JI as (cmB ns) (fun a y _=>y = V.int a.m) (fun σ=>∃ v,σ = [v,some (.ref W)]) (J04 (SqL.of h24)) hyl (by omega) ⟨_,rfl⟩ (fun _ _ _ _ _ z=>z) (fun i a v σ H' ha hv hσ s' Rf Rt hF hR=>?_) (fun D3 H5 ys3 hD3 s5 hys3 hDD3=>?_)
   ·obtain ⟨w1,rfl⟩:=hσ
    obtain ⟨y,hy,t,rfl,ht⟩:=A4.get ha
    rw [hv] at hy
    cases hy
    obtain ⟨a0,a1,a2,a3,_⟩:=hok a (List.mem_of_getElem? ha)
    have ht':=s' _ _ ht
    have k':=s' _ _ k4
    have e1:=J6T (m:=m) (ns:=ns) a0 a1
    have e2:=J6T (m:=m) (ns:=ns) a2 a3
    have ef : cmB ns a = (inI a.g ns && !inI a.s ns):=rfl
    walk_at "rd"
    cases c1 : inI a.g ns with
    | false =>
     walk_at "rd"
     refine hF _ _ ?_ ⟨_,rfl⟩ (Same.refl _)
     rw [ef,c1]
     rfl
    | true =>
     walk_at "rd"
     cases c2 : inI a.s ns with
     | true =>
      walk_at "rd"
      refine hF _ _ ?_ ⟨_,rfl⟩ (Same.refl _)
      rw [ef,c1,c2]
      rfl
     | false =>
      walk_at "rd"
      refine hR _ _ _ ?_ ⟨_,rfl⟩ (Same.refl _) rfl
      rw [ef,c1,c2]
      rfl
   rw [J3V (f:=fun a : Ar=>a.m) hys3] at hDD3
   have hSq3:=SqL.of (K:=K) hDD3
   walk_at "rd"
   have qf:=q H5 (S4.trans s5)
   rw [e] at qf
   exact qf
end
noncomputable def wy1 (e : Nat) (a : Ar) (v : Int) : List (Nat × Int × Int):=(if a.s = v then [(e,a.g,1)] else []) ++ (if a.g = v then [(e,a.s,-1)] else [])
noncomputable def wayT (as : List Ar) (i : Nat) (v : Int) : List (Nat × Int × Int):=((List.range i).map fun e=>wy1 e (as.getD e arD) v).flatten
noncomputable def wyV (q : Nat × Int × Int) : List V:=[.int (q.1 : Int),.int q.2.1,.int q.2.2]
theorem J7u {as : List Ar} {i : Nat} {a : Ar} (h : as[i]? = some a) (v : Int) : wayT as (i + 1) v = wayT as i v ++ wy1 i a v:=by
 unfold wayT
 rw [List.range_succ,List.map_append,List.flatten_append,List.map_cons,List.map_nil,J0x h]
 simp
theorem Ja9 (e : Nat) (a : Ar) (v : Int) : (wy1 e a v).length ≤ 2:=by
 unfold wy1
 split <;> split <;> simp
theorem J3R (as : List Ar) (v : Int) : ∀ i,(wayT as i v).length ≤ 2 * i
 | 0=>by simp [wayT]
 | i + 1=>by
  have ih:=J3R as v i
  have h:=Ja9 i (as.getD i arD) v
  have e : wayT as (i + 1) v = wayT as i v ++ wy1 i (as.getD i arD) v:=by
   unfold wayT
   rw [List.range_succ,List.map_append,List.flatten_append,List.map_cons,List.map_nil]
   simp
  rw [e,List.length_append]
  omega
theorem Jad {as : List Ar} {v : Int} {q : Nat × Int × Int} : ∀ {i : Nat},q ∈ wayT as i v → q.1 < i ∧ q ∈ wy1 q.1 (as.getD q.1 arD) v:=by
 intro i h
 unfold wayT at h
 obtain ⟨l,hl,hq⟩:=List.mem_flatten.mp h
 obtain ⟨e,he,rfl⟩:=List.mem_map.mp hl
 have e1 : q.1 = e:=by
  unfold wy1 at hq
  rcases List.mem_append.mp hq with z | z
  ·split at z
   ·rw [List.mem_singleton.mp z]
   ·cases z
  ·split at z
   ·rw [List.mem_singleton.mp z]
   ·cases z
 rw [e1]
 exact ⟨List.mem_range.mp he,hq⟩
theorem JbK {as : List Ar} {v : Int} {q : Nat × Int × Int} (h : q ∈ wayT as as.length v) : ∃ a,as[q.1]? = some a ∧ ((q.2.2 = 1 ∧ a.s = v ∧ a.g = q.2.1) ∨ (q.2.2 = -1 ∧ a.g = v ∧ a.s = q.2.1)):=by
 obtain ⟨h1,h2⟩:=Jad h
 obtain ⟨a,ha⟩ : ∃ a,as[q.1]? = some a:=⟨_,List.getElem?_eq_getElem h1⟩
 refine ⟨a,ha,?_⟩
 rw [J0x ha] at h2
 clear ha h1 h
 obtain ⟨e,u,sg⟩:=q
 unfold wy1 at h2
 rcases List.mem_append.mp h2 with z | z
 ·split at z
  ·rename_i e'
   cases List.mem_singleton.mp z
   exact .inl ⟨rfl,e',rfl⟩
  ·cases z
 ·split at z
  ·rename_i e'
   cases List.mem_singleton.mp z
   exact .inr ⟨rfl,e',rfl⟩
  ·cases z
theorem J9K {as : List Ar} {v u : Int} {e : Nat} {a : Ar} {sg : Int} (h : as[e]? = some a) (hs : (sg = 1 ∧ a.s = v ∧ a.g = u) ∨ (sg = -1 ∧ a.g = v ∧ a.s = u)) : (e,u,sg) ∈ wayT as as.length v:=by
 unfold wayT
 refine List.mem_flatten.mpr ⟨wy1 e a v,List.mem_map.mpr ⟨e,List.mem_range.mpr (List.getElem?_eq_some_iff.mp h).1,by rw [J0x h]⟩,?_⟩
 unfold wy1
 rcases hs with ⟨rfl,h1,h2⟩ | ⟨rfl,h1,h2⟩
 ·rw [if_pos h1,h2]; simp
 ·refine List.mem_append_right _ ?_
  rw [if_pos h1,h2]; simp
theorem J9d {as : List Ar} {i : Nat} {a : Ar} (h : as[i]? = some a) (a0 : 0 ≤ a.s) (a2 : 0 ≤ a.g) (v : Nat) : (if v = a.g.toNat then (if v = a.s.toNat then (wayT as i (v : Int)).map wyV ++ [[V.int (i : Int),V.int a.g,V.int 1]] else (wayT as i (v : Int)).map wyV) ++ [[V.int (i : Int),V.int a.s,V.int (-1)]]
  else if v = a.s.toNat then (wayT as i (v : Int)).map wyV ++ [[V.int (i : Int),V.int a.g,V.int 1]] else (wayT as i (v : Int)).map wyV) = (wayT as (i + 1) (v : Int)).map wyV:=by
 rw [J7u h,List.map_append]
 unfold wy1
 by_cases h1 : v = a.s.toNat <;> by_cases h2 : v = a.g.toNat
 ·rw [if_pos h1,if_pos h2,if_pos (show a.s = (v : Int) by omega),if_pos (show a.g = (v : Int) by omega),List.append_assoc]
  rfl
 ·rw [if_pos h1,if_neg h2,if_pos (show a.s = (v : Int) by omega),if_neg (show ¬ a.g = (v : Int) by omega)]
  rfl
 ·rw [if_neg h1,if_pos h2,if_neg (show ¬ a.s = (v : Int) by omega),if_pos (show a.g = (v : Int) by omega)]
  rfl
 ·rw [if_neg h1,if_neg h2,if_neg (show ¬ a.s = (v : Int) by omega),if_neg (show ¬ a.g = (v : Int) by omega)]
  exact (List.append_nil _).symm
noncomputable def J9E (C : Addr) : Sp:=fun vs H Q _=>∃ (n : Addr) (m : Nat) (xs : List V) (as : List Ar),vs = [.ref n] ∧ NetA C H n m xs as ∧ m ≤ 100 ∧ as.length ≤ 500 ∧ (∀ a ∈ as,ArOk m a) ∧
 ∀ (D : Addr) (H' : Hp) (bs : List Addr),H D = none → (∀ b ∈ bs,H b = none) → Same H H' → bs.length = m → J1K H' D bs (fun v=>(wayT as as.length (v : Int)).map wyV) → Q (.ref D) H'
noncomputable def J9B (C CW : Addr) : Sp:=fun vs H Q _=>∃ (p n pr fl sr wy : Addr) (dx : Addr) (m : Int) (xs : List V) (as : List Ar) (fs : List Int) (e : Nat) (sg : Int) (a : Ar) (f : Int),vs = [.ref p,.int (e : Int),.int sg] ∧ H p = some (.ins CW dx (fW (.ref n) (.ref pr) (.ref fl) (.ref sr) (.ref wy))) ∧ NetA C H n m xs as ∧ H fl = some (.lst (fs.map V.int)) ∧
 as[e]? = some a ∧ fs[e]? = some f ∧ Q (.int (rmF a f sg)) H
section
variable {P : Program} {w : World} {K : PySem.W.Frag} {mg : Str → Option Value} {base : Heap} {Je J8 J4 : Addr}
local macro_rules | `(tactic| walk_at "lk")=>`(tactic| first | exact J0Z _ _ | exact J0Y _ _ | exact J2T _ _ _ _ _ | exact J1c _ _ _ _ _ | exact J1D _ _ _ _ _ | exact J1I _ _ _ _ _ | exact J2h _ _ _ _ _)
theorem J7h (tx : Tx K mg Je J8 J4) : FnG P w K mg base "ways_of" 1 ["net"] (J9E Je):=by
 refine tx.J7c.g J1Q (fun _ _ _ _ _ _ us hl=>match us,hl with | [_],_=>rfl) (fun vs H Q E h=>?_) (fun f cdv A outer s H vs Q E hr h=>?_)
 ·obtain ⟨n,m,xs,as,rfl,_⟩:=h
  rfl
 ·obtain ⟨n,m,xs,as,rfl,⟨al,⟨dx,h1⟩,h2,h3⟩,hm,hal,hok,q⟩:=h
  refine ⟨_,(J5 (J3e (k:=1) (osc:=J3 J0k) (ON:=["net","ways","number","arc"]) (N:=["node"]) (js:=[none]) J1Q.nd rfl (Or.inl rfl) ⟨rfl,by decide +kernel,by decide +kernel,by decide +kernel,rfl,by decide +kernel⟩ rfl rfl rfl (J0F rfl tx.J0I (J0 (Jq (K:=K) rfl (pv 0) rfl) J9)) (fun _ _ _ _ _=>Jn (i:=0) (show List.Nodup (["node"] : List Str) from by decide +kernel) rfl (Or.inl rfl)) (fun _ _ _ _ _=>J0w) (fun _ _ _ _ _=>(J1l J9)))
   (J5 (J0L PassesOwn.never rfl (J7Q (K:=K) rfl rfl tx.J1n (J0 (Jq (K:=K) rfl (pv 0) rfl) J9)) (J28 rfl (Jx (Jn (i:=2) J1Q.nd rfl (Or.inl rfl)) (Jx (Jn (i:=3) J1Q.nd rfl (Or.inl rfl)) J19))) (J5 (J0K (J33 PySem.F.plainAttrs_list PySem.F.slot_list_append PySem.F.type_list_append J0p (Jg (Jk (K:=K) rfl) (pv 1) (Jg (Ji (K:=K) rfl) (pv 3) J2 (fun _ _=>rfl)) (fun _ _=>rfl)) (J0 (J1u (J0 (pv 2) (J0 (Jg (Ji (K:=K) rfl) (pv 3) J2 (fun _ _=>rfl)) (J0 J2 J9)))) J9)))
   (Jd (J0K (J33 PySem.F.plainAttrs_list PySem.F.slot_list_append PySem.F.type_list_append J0p (Jg (Jk (K:=K) rfl) (pv 1) (Jg (Ji (K:=K) rfl) (pv 3) J2 (fun _ _=>rfl)) (fun _ _=>rfl)) (J0 (J1u (J0 (pv 2) (J0 (Jg (Ji (K:=K) rfl) (pv 3) J2 (fun _ _=>rfl)) (J0 (J4n J2S J2) J9)))) J9))))))
   (Jd (Jv (pv 1))))),?_⟩
  walk_at "st"
  have cN:=tx.J11.cl
  have nM:=tx.JH
  have nA:=tx.JA
  have hyl:=h3.len
  walk_at "rd"
  refine J7B ((List.range m).map fun (i : Nat)=>V.int (0 + (i : Int))) (by have:=J2b (H:=H) 0 ((m : Int)).toNat; rw [Int.toNat_natCast] at this; exact this) (by rw [List.length_map,List.length_range]; omega) (fun x σ H' R Rf hR=>?_) (fun D H3 bs nD s3 hbl hbn hb hD=>?_)
  ·walk_at "rd"
   exact hR _
  rw [List.length_map,List.length_range] at hbl
  have C0 : J1K H3 D bs (fun v=>(wayT as 0 (v : Int)).map wyV):=⟨hD,hbn,fun b hb'=>(hb b hb').1,fun i b hb'=>⟨[],(hb b (List.mem_of_getElem? hb')).2.2,trivial⟩⟩
  have nb : ∀ b ∈ bs,H b = none:=fun b hb'=>(hb b hb').2.1
  clear hb hD
  have h23:=s3 _ _ h2
  have h13:=s3 _ _ h1
  walk_at "rd"
  refine J7M (K:=K) (xs:=xs) (fun i σ H4=>Here (∃ v1 v2,σ = [some (.ref n),some (.ref D),v1,v2] ∧ J1K H4 D bs (fun v=>(wayT as i (v : Int)).map wyV) ∧ Same H H4)) (Here.mk ⟨none,none,rfl,C0,s3⟩) (fun i σ H4 _ hv=>by obtain ⟨_,_,_,_,s4⟩:=hv.out; exact SqL.of (s4 _ _ h2)) ?_ ?_
  ·rintro i x p σ H4 hx hp hv
   obtain ⟨v1,v2,rfl,C4,s4⟩:=hv.out
   obtain ⟨a,ha,t,rfl,ht⟩:=h3.back hx
   obtain ⟨a0,a1,a2,a3,_⟩:=hok a (List.mem_of_getElem? ha)
   have hil : i < as.length:=(List.getElem?_eq_some_iff.mp ha).1
   obtain ⟨H5,e5,hp5,s5⟩:=newt (xs:=[V.int i,V.ref t]) hp
   rw [← e5]
   have C5:=C4.same s5
   have t5:=s4.trans s5
   have ht5:=t5 _ _ ht
   obtain ⟨b1,hb1⟩ : ∃ b,bs[a.s.toNat]? = some b:=⟨_,List.getElem?_eq_getElem (by omega)⟩
   obtain ⟨b2,hb2⟩ : ∃ b,bs[a.g.toNat]? = some b:=⟨_,List.getElem?_eq_getElem (by omega)⟩
   obtain ⟨ys,hy,hY⟩:=C5.2.2.2 _ b1 hb1
   have hD5:=C5.1
   have i1 : atI (bs.map V.ref) a.s = some (.ref b1):=by
    have:=J0z (xs:=bs.map V.ref) (j:=a.s.toNat) (v:=.ref b1) (by rw [List.getElem?_map,hb1]; rfl)
    rwa [Int.toNat_of_nonneg a0] at this
   have i2 : atI (bs.map V.ref) a.g = some (.ref b2):=by
    have:=J0z (xs:=bs.map V.ref) (j:=a.g.toNat) (v:=.ref b2) (by rw [List.getElem?_map,hb2]; rfl)
    rwa [Int.toNat_of_nonneg a2] at this
   have ly : ys.length ≤ 1000:=by
    have e1:=hY.len
    have e2:=J3R as ((a.s.toNat : Nat) : Int) i
    rw [List.length_map] at e1
    omega
   walk_at "rd"
   intro t1 nt1
   obtain ⟨H6,e6,h16,s6⟩:=newt (xs:=[V.int (i : Int),V.int a.g,V.int 1]) nt1
   rw [← e6]
   have hy6:=s6 _ _ hy
   have C7:=C5.push hb1 hy hY s6 h16
   have t7:=(t5.trans s6).upd (o:=.lst (ys ++ [.ref t1])) (nb b1 (List.mem_of_getElem? hb1))
   have ht7:=t7 _ _ ht
   have hD7:=C7.1
   obtain ⟨zs,hz,hZ⟩:=C7.2.2.2 _ b2 hb2
   have lz : zs.length ≤ 1001:=by
    have e1:=hZ.len
    have e2:=J3R as ((a.g.toNat : Nat) : Int) i
    dsimp only at e1
    split at e1
    ·rw [List.length_append,List.length_map,List.length_singleton] at e1
     omega
    ·rw [List.length_map] at e1
     omega
   walk_at "rd"
   generalize upd H6 b1 (HO.lst (ys ++ [V.ref t1])) = H7 at C7 t7 ht7 hD7 hz hZ ⊢
   intro t2 nt2
   obtain ⟨H8,e8,h28,s8⟩:=newt (xs:=[V.int (i : Int),V.int a.s,V.int (-1)]) nt2
   have e8' : H8 = upd H7 t2 (.tup [V.int (i : Int),V.int a.s,V.int (-1)]):=e8
   show _
   rw [← e8']
   have hz8:=s8 _ _ hz
   have C9:=C7.push hb2 hz hZ s8 h28
   have t9:=(t7.trans s8).upd (o:=.lst (zs ++ [.ref t2])) (nb b2 (List.mem_of_getElem? hb2))
   walk_at "rd"
   exact Here.mk ⟨_,_,rfl,C9.congr fun v hv=>J9d ha a0 a2 v,t9⟩
  ·rintro σ H4 hv
   obtain ⟨v1,v2,rfl,C4,s4⟩:=hv.out
   rw [hyl] at C4
   walk_at "rd"
   exact q D H4 bs nD nb s4 hbl C4
theorem J8g (tx : Tx K mg Je J8 J4) : FnG P w K mg base "room" 1 ["work","number","sign"] (J9B Je J8):=by
 refine tx.JaN.g J6J (fun _ _ _ _ _ _ us hl=>match us,hl with | [_,_,_],_=>rfl) (fun vs H Q E h=>?_) (fun f cdv A outer s H vs Q E hr h=>?_)
 ·obtain ⟨p,n,pr,fl,sr,wy,dx,m,xs,as,fs,e,sg,a,f,rfl,_⟩:=h
  rfl
 ·obtain ⟨p,n,pr,fl,sr,wy,dx,m,xs,as,fs,e,sg,a,f',rfl,hp,⟨al,⟨dn,h1⟩,h2,h3⟩,hfl,ha,hf,q⟩:=h
  refine ⟨_,(J5 (Jo (i:=3) J6J.nd rfl (Or.inl rfl) (Jg (Jk (K:=K) rfl) (Jq (K:=K) rfl (Jq (K:=K) rfl (pv 0) rfl) rfl) (pv 1) (fun _ _=>rfl)))
   (Jd (Jv (J5x (Jm J15 (pv 2) J2 (Jr _)) (Jj J1j (Jg (Ji (K:=K) rfl) (pv 3) J2 (fun _ _=>rfl)) (Jg (Jk (K:=K) rfl) (Jq (K:=K) rfl (pv 0) rfl) (pv 1) (fun _ _=>rfl))) (Jj J1j (Jg (Jk (K:=K) rfl) (Jq (K:=K) rfl (pv 0) rfl) (pv 1) (fun _ _=>rfl)) (Jg (Ji (K:=K) rfl) (pv 3) J2 (fun _ _=>rfl))))))),?_⟩
  walk_at "st"
  have cN:=tx.J11.cl
  have nM:=tx.JH
  have nA:=tx.JA
  have cW:=tx.J0S.cl
  have w1:=tx.J0R
  have w2:=tx.JX
  obtain ⟨y,hy,t,rfl,ht⟩:=h3.get ha
  have i1:=J0z hy
  have i2 : atI (fs.map V.int) (e : Int) = some (.int f'):=J0z (by rw [List.getElem?_map,hf]; rfl)
  walk_at "rd"
  rw [iV]
  unfold rmF at q
  refine ite2 (fun c=>?_) (fun c=>?_)
  ·rw [if_pos (of_decide_eq_true c)] at q
   walk_at "rd"
   exact q
  ·rw [if_neg (fun z=>c (decide_eq_true z))] at q
   walk_at "rd"
   exact q
end
noncomputable abbrev fW1 (n : V) : List (Str × V):=[("net",n)]
noncomputable abbrev fW2 (n p : V) : List (Str × V):=[("net",n),("prices",p)]
noncomputable abbrev fW3 (n p f : V) : List (Str × V):=[("net",n),("prices",p),("flows",f)]
noncomputable abbrev fW4 (n p f s : V) : List (Str × V):=[("net",n),("prices",p),("flows",f),("spare",s)]
theorem pW1 (n : V) : putF "net" n [] = fW1 n:=rfl
theorem pW2 (n p : V) : putF "prices" p (fW1 n) = fW2 n p:=putN (fs:=fW1 n) (show ∀ g ∈ [("net" : Str)],g ≠ "prices" from by decide +kernel)
theorem pW3 (n p f : V) : putF "flows" f (fW2 n p) = fW3 n p f:=putN (fs:=fW2 n p) (show ∀ g ∈ [("net" : Str),"prices"],g ≠ "flows" from by decide +kernel)
theorem pW4 (n p f s : V) : putF "spare" s (fW3 n p f) = fW4 n p f s:=putN (fs:=fW3 n p f) (show ∀ g ∈ [("net" : Str),"prices","flows"],g ≠ "spare" from by decide +kernel)
theorem pW5 (n p f s y : V) : putF "ways" y (fW4 n p f s) = fW n p f s y:=putN (fs:=fW4 n p f s) (show ∀ g ∈ [("net" : Str),"prices","flows","spare"],g ≠ "ways" from by decide +kernel)
theorem But.same {p : Addr} {H H1 H2 : Hp} (b : But p H H1) (s : Same H1 H2) : But p H H2:=fun a o n e=>s _ _ (b a o n e)
theorem But.free {p a : Addr} {H H1 : Hp} (b : But p H H1) (n : a ≠ p) (h : H1 a = none) : H a = none:=by
 cases e : H a with
 | none=>rfl
 | some o=>rw [b a o n e] at h; cases h
noncomputable def f0 (a : Ar) : Int:=if a.c < 0 then a.m else a.l
structure Wk (C CW : Addr) (H : Hp) (p n al pr fl sr wy : Addr) (bs : List Addr) (m : Nat) (xs : List V) (as : List Ar) (ps fs sp : List Int) : Prop where
 hp : ∃ dx,H p = some (.ins CW dx (fW (.ref n) (.ref pr) (.ref fl) (.ref sr) (.ref wy)))
 hn : J3N C H n m al
 ha : H al = some (.lst xs)
 hA : All2 ArT H as xs
 hpr : H pr = some (.lst (ps.map V.int))
 hfl : H fl = some (.lst (fs.map V.int))
 hsr : H sr = some (.lst (sp.map V.int))
 hwy : J1K H wy bs (fun v=>(wayT as as.length (v : Int)).map wyV)
 hbl : bs.length = m
 d1 : pr ≠ fl ∧ pr ≠ sr ∧ fl ≠ sr
 d2 : pr ≠ al ∧ fl ≠ al ∧ sr ≠ al
 d3 : pr ≠ wy ∧ fl ≠ wy ∧ sr ≠ wy
 d4 : ∀ b ∈ bs,b ≠ pr ∧ b ≠ fl ∧ b ≠ sr
noncomputable def J5h (C CW : Addr) : Sp:=fun vs H Q _=>∃ (p n : Addr) (dx : Addr) (m : Nat) (al : Addr) (xs : List V) (as : List Ar),vs = [.ref p,.ref n] ∧ H p = some (.ins CW dx []) ∧ J3N C H n m al ∧ H al = some (.lst xs) ∧ All2 ArT H as xs ∧ m ≤ 100 ∧ as.length ≤ 500 ∧ (∀ a ∈ as,ArOk m a) ∧
 ∀ (H' : Hp) (pr fl sr wy : Addr) (bs : List Addr),But p H H' → Wk C CW H' p n al pr fl sr wy bs m xs as (List.replicate m 0) (as.map f0) (spF m ((as.map f0).zip as)) → H pr = none → H fl = none → H sr = none → Q .non H'
theorem J7W (n p f : V) : List.lookup ("flows" : Str) (fW3 n p f) = some f:=by rw [J1L (by decide +kernel),J1L (by decide +kernel),J34]
section
variable {P : Program} {w : World} {K : PySem.W.Frag} {mg : Str → Option Value} {base : Heap} {Je J8 J4 : Addr}
local macro_rules | `(tactic| walk_at "lk")=>`(tactic| first | exact J7W _ _ _ | exact J0Z _ _ | exact J0Y _ _ | exact J2T _ _ _ _ _ | exact J1c _ _ _ _ _ | exact J1D _ _ _ _ _ | exact J1I _ _ _ _ _ | exact J2h _ _ _ _ _)
theorem J55 (tx : Tx K mg Je J8 J4) : MtG P w K mg base J8 "__init__" 2 ["self","net"] (J5h Je J8):=by
 have J1f:=J3A (P:=P) (w:=w) (base:=base) tx
 have J44:=J7h (P:=P) (w:=w) (base:=base) tx
 refine tx.J5g.g tx.J0S.cl J4u (fun _ _ _ _ _ _ us hl=>match us,hl with | [_,_],_=>rfl) (fun vs H Q E h=>?_) (fun f cdv A outer s H vs Q E hr h=>?_)
 ·obtain ⟨p,n,dx,m,al,xs,as,rfl,_⟩:=h
  rfl
 ·obtain ⟨p,n,dx,m,al,xs,as,rfl,hp,⟨dn,h1⟩,h2,h3,hm,hal,hok,q⟩:=h
  refine ⟨_,(J5 (J2s (pv 0) (pv 1) rfl)
   (J5 (J2s (pv 0) (Jj J6A (J1l (J0 J2 J9)) (Jq (K:=K) rfl (pv 1) rfl)) rfl)
   (J5 (J2s (pv 0) (J0y (osc:=J3 JN) (ON:=["self","net"]) (N:=["start","goal","least","most","cost"]) (js:=[none,none,none,none,none]) ⟨rfl,by decide +kernel,by decide +kernel,by decide +kernel,rfl,by decide +kernel⟩ rfl rfl rfl (JS (K:=K) rfl (Jq (K:=K) rfl (pv 1) rfl)) (fun _ _ _ _ _=>J78 (K:=K) (n:=5) rfl rfl (Jx (Jn (i:=0) (show List.Nodup (["start","goal","least","most","cost"] : List Str) from by decide +kernel) rfl (Or.inl rfl)) (Jx (Jn (i:=1) (show List.Nodup (["start","goal","least","most","cost"] : List Str) from by decide +kernel) rfl (Or.inl rfl)) (Jx (Jn (i:=2) (show List.Nodup (["start","goal","least","most","cost"] : List Str) from by decide +kernel) rfl (Or.inl rfl)) (Jx (Jn (i:=3) (show List.Nodup (["start","goal","least","most","cost"] : List Str) from by decide +kernel) rfl (Or.inl rfl)) (Jx (Jn (i:=4) (show List.Nodup (["start","goal","least","most","cost"] : List Str) from by decide +kernel) rfl (Or.inl rfl)) J19)))))) (fun _ _ _ _ _=>J0w) (fun _ _ _ _ _=>(J5x (Jm J3D (pv 4) J2 (Jr _)) (pv 3) (pv 2)))) rfl)
   (J5 (J2s (pv 0) (JL J1f (hr.mono (by decide)) (J0 (pv 1) (J0 (Jq (K:=K) rfl (pv 0) rfl) J9))) rfl)
   (Jd (J2s (pv 0) (JL J44 (hr.mono (by decide)) (J0 (pv 1) J9)) rfl)))))),?_⟩
  walk_at "st"
  clear J1f J44
  have cN:=tx.J11.cl
  have nM:=tx.JH
  have nA:=tx.JA
  have nn : n ≠ p:=J0b h1 hp (by intro z; cases z)
  have nal : al ≠ p:=J0b h2 hp (by intro z; cases z)
  refine ⟨_,rfl,_,rfl,p,J8,dx,[],rfl,hp,tx.J0S.cl,tx.J0R,(by show 0 < 1000; decide),?_⟩
  rw [pW1]
  have B0 : But p H (upd H p (.ins J8 dx (fW1 (.ref n)))):=(But.refl p H).at
  have e0 : upd H p (.ins J8 dx (fW1 (.ref n))) p = some (.ins J8 dx (fW1 (.ref n))):=Jc
  generalize upd H p (.ins J8 dx (fW1 (.ref n))) = H0 at B0 e0 ⊢
  have h10:=B0 _ _ nn h1
  have h20:=B0 _ _ nal h2
  walk_at "rd"
  intro z1 f1
  obtain ⟨H1,e1,k1,s1⟩:=newl (xs:=[V.int 0]) f1
  rw [← e1]
  have h11:=s1 _ _ h10
  have hsz : [V.int 0].length * ((m : Int)).toNat ≤ sizeLine:=by
   rw [Int.toNat_natCast,List.length_singleton]
   exact J6x (by omega)
  walk_at "rd"
  intro pr f2
  rw [Int.toNat_natCast,J5C]
  obtain ⟨H2,e2,k2,s2⟩:=newl (xs:=(List.replicate m (0 : Int)).map V.int) f2
  rw [← e2]
  have S2:=s1.trans s2
  refine ⟨_,rfl,p,J8,dx,fW1 (.ref n),rfl,S2 _ _ e0,tx.J0S.cl,tx.J01,(by show 1 < 1000; decide),?_⟩
  rw [pW2]
  have npr : pr ≠ p:=(Jb (s1 _ _ e0) f2).symm
  have fpr : H pr = none:=(B0.same s1).free npr f2
  have B3 : But p H (upd H2 p (.ins J8 dx (fW2 (.ref n) (.ref pr)))):=(B0.same S2).at
  have e3 : upd H2 p (.ins J8 dx (fW2 (.ref n) (.ref pr))) p = some (.ins J8 dx (fW2 (.ref n) (.ref pr))):=Jc
  have k3 : upd H2 p (.ins J8 dx (fW2 (.ref n) (.ref pr))) pr = some (.lst ((List.replicate m (0 : Int)).map V.int)):=(J7 npr).trans k2
  generalize upd H2 p (.ins J8 dx (fW2 (.ref n) (.ref pr))) = H3 at B3 e3 k3 ⊢
  clear e0 e1 e2 k1 k2 s1 s2 S2 f1 f2 hsz h11 h10 h20 B0
  have h13:=B3 _ _ nn h1
  have h23:=B3 _ _ nal h2
  walk_at "rd"
  refine JI as (fun _=>true) (fun a y _=>y = V.int (f0 a)) (fun σ=>∃ v1 v2 v3 v4 v5,σ = [v1,v2,v3,v4,v5]) (J04 (SqL.of h23)) h3.len (by omega) ⟨_,_,_,_,_,rfl⟩ (fun _ _ _ _ _ z=>z) (fun i a v σ H' ha hv hσ s' Rf Rt _ hR=>?_) (fun fl H4 ys nfl s4 hys hfl=>?_)
  ·obtain ⟨v1,v2,v3,v4,v5,rfl⟩:=hσ
   obtain ⟨y,hy,t,rfl,ht⟩:=h3.get ha
   rw [hv] at hy
   cases hy
   have ht':=s' _ _ (B3 _ _ (J0b ht hp (by intro z; cases z)) ht)
   walk_at "rd"
   refine ite2 (fun c=>?_) (fun c=>?_)
   ·walk_at "rd"
    refine hR _ _ _ rfl ⟨_,_,_,_,_,rfl⟩ (Same.refl _) ?_
    unfold f0
    rw [if_pos (of_decide_eq_true c)]
   ·walk_at "rd"
    refine hR _ _ _ rfl ⟨_,_,_,_,_,rfl⟩ (Same.refl _) ?_
    unfold f0
    rw [if_neg (fun z=>c (decide_eq_true z))]
  ·rw [J4H hys] at hfl
   have nfp : fl ≠ p:=(Jb e3 nfl).symm
   have ffl : H fl = none:=B3.free nfp nfl
   have dpf : pr ≠ fl:=Jb k3 nfl
   refine ⟨_,rfl,p,J8,dx,fW2 (.ref n) (.ref pr),rfl,s4 _ _ e3,tx.J0S.cl,tx.JX,(by show 2 < 1000; decide),?_⟩
   rw [pW3]
   have B5 : But p H (upd H4 p (.ins J8 dx (fW3 (.ref n) (.ref pr) (.ref fl)))):=(B3.same s4).at
   have e5 : upd H4 p (.ins J8 dx (fW3 (.ref n) (.ref pr) (.ref fl))) p = some (.ins J8 dx (fW3 (.ref n) (.ref pr) (.ref fl))):=Jc
   have k5 : upd H4 p (.ins J8 dx (fW3 (.ref n) (.ref pr) (.ref fl))) pr = some (.lst ((List.replicate m (0 : Int)).map V.int)):=(J7 npr).trans (s4 _ _ k3)
   have j5 : upd H4 p (.ins J8 dx (fW3 (.ref n) (.ref pr) (.ref fl))) fl = some (.lst ((as.map f0).map V.int)):=(J7 nfp).trans hfl
   generalize upd H4 p (.ins J8 dx (fW3 (.ref n) (.ref pr) (.ref fl))) = H5 at B5 e5 k5 j5 ⊢
   clear hfl hys s4 e3 k3 h13 h23 B3
   have h15:=B5 _ _ nn h1
   have h25:=B5 _ _ nal h2
   have h35 : All2 ArT H5 as xs:=h3.imp fun a y hy=>by
    obtain ⟨t,rfl,ht⟩:=hy
    exact ⟨t,rfl,B5 _ _ (J0b ht hp (by intro z; cases z)) ht⟩
   have w1:=tx.JX
   have cW:=tx.J0S.cl
   have hN5 : NetA Je H5 n m xs as:=⟨al,⟨dn,h15⟩,h25,h35⟩
   have hl5 : (as.map f0).length = as.length:=List.length_map ..
   walk_at "rd"
   intro sr H6 nsr s6 hsr
   have nsp : sr ≠ p:=(Jb e5 nsr).symm
   have fsr : H sr = none:=B5.free nsp nsr
   have dps : pr ≠ sr:=Jb k5 nsr
   have dfs : fl ≠ sr:=Jb j5 nsr
   refine ⟨_,rfl,p,J8,dx,fW3 (.ref n) (.ref pr) (.ref fl),rfl,s6 _ _ e5,tx.J0S.cl,tx.J0e,(by show 3 < 1000; decide),?_⟩
   rw [pW4]
   have B7 : But p H (upd H6 p (.ins J8 dx (fW4 (.ref n) (.ref pr) (.ref fl) (.ref sr)))):=(B5.same s6).at
   have e7 : upd H6 p (.ins J8 dx (fW4 (.ref n) (.ref pr) (.ref fl) (.ref sr))) p = some (.ins J8 dx (fW4 (.ref n) (.ref pr) (.ref fl) (.ref sr))):=Jc
   have k7 : upd H6 p (.ins J8 dx (fW4 (.ref n) (.ref pr) (.ref fl) (.ref sr))) pr = some (.lst ((List.replicate m (0 : Int)).map V.int)):=(J7 npr).trans (s6 _ _ k5)
   have j7 : upd H6 p (.ins J8 dx (fW4 (.ref n) (.ref pr) (.ref fl) (.ref sr))) fl = some (.lst ((as.map f0).map V.int)):=(J7 nfp).trans (s6 _ _ j5)
   have i7 : upd H6 p (.ins J8 dx (fW4 (.ref n) (.ref pr) (.ref fl) (.ref sr))) sr = some (.lst ((spF m ((as.map f0).zip as)).map V.int)):=(J7 nsp).trans hsr
   generalize upd H6 p (.ins J8 dx (fW4 (.ref n) (.ref pr) (.ref fl) (.ref sr))) = H7 at B7 e7 k7 j7 i7 ⊢
   clear hsr s6 e5 k5 j5 h15 h25 h35 hN5 B5
   have h17:=B7 _ _ nn h1
   have h27:=B7 _ _ nal h2
   have h37 : All2 ArT H7 as xs:=h3.imp fun a y hy=>by
    obtain ⟨t,rfl,ht⟩:=hy
    exact ⟨t,rfl,B7 _ _ (J0b ht hp (by intro z; cases z)) ht⟩
   have hN7 : NetA Je H7 n m xs as:=⟨al,⟨dn,h17⟩,h27,h37⟩
   walk_at "rd"
   intro wy H8 bs nwy nbs s8 hbl hC
   have nwp : wy ≠ p:=(Jb e7 nwy).symm
   have nbp : ∀ b ∈ bs,b ≠ p:=fun b hb=>(Jb e7 (nbs b hb)).symm
   refine ⟨_,rfl,p,J8,dx,fW4 (.ref n) (.ref pr) (.ref fl) (.ref sr),rfl,s8 _ _ e7,tx.J0S.cl,tx.J10,(by show 4 < 1000; decide),?_⟩
   rw [pW5]
   have B9 : But p H8 (upd H8 p (.ins J8 dx (fW (.ref n) (.ref pr) (.ref fl) (.ref sr) (.ref wy)))):=(But.refl p H8).at
   have hp8:=s8 _ _ e7
   have tup8 : ∀ {t : Addr} {vs : List V},H8 t = some (.tup vs) → t ≠ p:=fun ht=>J0b ht hp8 (by intro z; cases z)
   refine q _ pr fl sr wy bs ((B7.same s8).at) ⟨⟨dx,Jc⟩,⟨dn,B9 _ _ nn (s8 _ _ h17)⟩,B9 _ _ nal (s8 _ _ h27),h37.imp fun a y hy=>?_,B9 _ _ npr (s8 _ _ k7),B9 _ _ nfp (s8 _ _ j7),B9 _ _ nsp (s8 _ _ i7),⟨B9 _ _ nwp hC.1,hC.2.1,hC.2.2.1,fun i b hb=>?_⟩,hbl,⟨dpf,dps,dfs⟩,⟨?_,?_,?_⟩,⟨?_,?_,?_⟩,fun b hb=>⟨?_,?_,?_⟩⟩ fpr ffl fsr
   ·obtain ⟨t,rfl,ht⟩:=hy
    exact ⟨t,rfl,B9 _ _ (tup8 (s8 _ _ ht)) (s8 _ _ ht)⟩
   ·obtain ⟨ys,y1,y2⟩:=hC.2.2.2 i b hb
    refine ⟨ys,B9 _ _ (nbp b (List.mem_of_getElem? hb)) y1,y2.imp fun v y hy=>?_⟩
    obtain ⟨t,rfl,ht⟩:=hy
    exact ⟨t,rfl,B9 _ _ (tup8 ht) ht⟩
   ·exact (Jb h2 fpr).symm
   ·exact (Jb h2 ffl).symm
   ·exact (Jb h2 fsr).symm
   ·exact Jb k7 nwy
   ·exact Jb j7 nwy
   ·exact Jb i7 nwy
   ·exact (Jb k7 (nbs b hb)).symm
   ·exact (Jb j7 (nbs b hb)).symm
   ·exact (Jb i7 (nbs b hb)).symm
noncomputable def rWrk (C CW : Addr) : List V → Hp → VK → Prop:=fun vs H Q=>∃ (n : Addr) (m : Nat) (al : Addr) (xs : List V) (as : List Ar),vs = [.ref n] ∧ J3N C H n m al ∧ H al = some (.lst xs) ∧ All2 ArT H as xs ∧ m ≤ 100 ∧ as.length ≤ 500 ∧ (∀ a ∈ as,ArOk m a) ∧
 ∀ (p : Addr) (H' : Hp) (pr fl sr wy : Addr) (bs : List Addr),Same H H' → Wk C CW H' p n al pr fl sr wy bs m xs as (List.replicate m 0) (as.map f0) (spF m ((as.map f0).zip as)) → H pr = none → H fl = none → H sr = none → Q (.ref p) H'
theorem JbO {C CW : Addr} : ∀ vs H Q,rWrk C CW vs H Q → ∀ x dx,H x = none → H dx = none → dx ≠ x → J5h C CW (.ref x :: (vs ++ [])) (upd (upd H dx (.own x)) x (.ins CW dx [])) (fun v H2=>v = .non ∧ Q (.ref x) H2) E0:=by
 rintro _ H Q ⟨n,m,al,xs,as,rfl,⟨dn,h1⟩,h2,h3,hm,hl,hok,q⟩ x dx nx nd _
 refine ⟨x,n,dx,m,al,xs,as,rfl,Jc,⟨dn,J3h nx nd h1⟩,J3h nx nd h2,h3.imp fun a y hy=>?_,hm,hl,hok,fun H' pr fl sr wy bs b e n1 n2 n3=>⟨rfl,q x H' pr fl sr wy bs (J4j nx nd b) e (J2j n1) (J2j n2) (J2j n3)⟩⟩
 obtain ⟨t,rfl,ht⟩:=hy
 exact ⟨t,rfl,J3h nx nd ht⟩
end
noncomputable def tabV (F : Tab) : List (Key × V):=F.map fun p=>(.inl p.1,.int p.2)
noncomputable def Bt2 (x y : Addr) (H H' : Hp) : Prop:=∀ a o,a ≠ x → a ≠ y → H a = some o → H' a = some o
section
variable {C CW : Addr} {H H' : Hp} {p n al pr fl sr wy : Addr} {bs : List Addr} {m : Nat} {xs : List V} {as : List Ar} {ps fs sp : List Int}
theorem Wk.stay (k : Wk C CW H p n al pr fl sr wy bs m xs as ps fs sp) {qs gs tp : List Int} (s : ∀ a o,a ≠ pr → a ≠ fl → a ≠ sr → (∀ t,o ≠ .tbl t) → H a = some o → H' a = some o) (h1 : H' pr = some (.lst (qs.map V.int))) (h2 : H' fl = some (.lst (gs.map V.int))) (h3 : H' sr = some (.lst (tp.map V.int))) :
  Wk C CW H' p n al pr fl sr wy bs m xs as qs gs tp:=by
 have tup : ∀ {t : Addr} {vs : List V},H t = some (.tup vs) → H' t = some (.tup vs):=fun {t vs} ht=>s _ _ (J0b ht k.hpr (by intro z; cases z)) (J0b ht k.hfl (by intro z; cases z)) (J0b ht k.hsr (by intro z; cases z)) (by intro q z; cases z) ht
 have ins : ∀ {t c d : Addr} {vs : List (Str × V)},H t = some (.ins c d vs) → H' t = some (.ins c d vs):=fun {t c d vs} ht=>s _ _ (J0b ht k.hpr (by intro z; cases z)) (J0b ht k.hfl (by intro z; cases z)) (J0b ht k.hsr (by intro z; cases z)) (by intro q z; cases z) ht
 obtain ⟨dx,e1⟩:=k.hp
 obtain ⟨dn,e2⟩:=k.hn
 refine ⟨⟨dx,ins e1⟩,⟨dn,ins e2⟩,s _ _ k.d2.1.symm k.d2.2.1.symm k.d2.2.2.symm (by intro q z; cases z) k.ha,k.hA.imp fun a y hy=>?_,h1,h2,h3,⟨s _ _ k.d3.1.symm k.d3.2.1.symm k.d3.2.2.symm (by intro q z; cases z) k.hwy.1,k.hwy.2.1,k.hwy.2.2.1,fun i b hb=>?_⟩,k.hbl,k.d1,k.d2,k.d3,k.d4⟩
 ·obtain ⟨t,rfl,ht⟩:=hy
  exact ⟨t,rfl,tup ht⟩
 ·obtain ⟨ys,y1,y2⟩:=k.hwy.2.2.2 i b hb
  obtain ⟨b1,b2,b3⟩:=k.d4 b (List.mem_of_getElem? hb)
  refine ⟨ys,s _ _ b1 b2 b3 (by intro q z; cases z) y1,y2.imp fun v y hy=>?_⟩
  obtain ⟨t,rfl,ht⟩:=hy
  exact ⟨t,rfl,tup ht⟩
theorem Wk.same (k : Wk C CW H p n al pr fl sr wy bs m xs as ps fs sp) (s : Same H H') : Wk C CW H' p n al pr fl sr wy bs m xs as ps fs sp:=k.stay (fun a o _ _ _ _ e=>s a o e) (s _ _ k.hpr) (s _ _ k.hfl) (s _ _ k.hsr)
theorem Wk.setp (k : Wk C CW H p n al pr fl sr wy bs m xs as ps fs sp) (qs : List Int) : Wk C CW (upd H pr (.lst (qs.map V.int))) p n al pr fl sr wy bs m xs as qs fs sp :=
 k.stay (fun a o n1 _ _ _ e=>by rw [J7 n1]; exact e) Jc (by rw [J7 k.d1.1.symm]; exact k.hfl) (by rw [J7 k.d1.2.1.symm]; exact k.hsr)
theorem Wk.setf (k : Wk C CW H p n al pr fl sr wy bs m xs as ps fs sp) (qs : List Int) : Wk C CW (upd H fl (.lst (qs.map V.int))) p n al pr fl sr wy bs m xs as ps qs sp :=
 k.stay (fun a o _ n1 _ _ e=>by rw [J7 n1]; exact e) (by rw [J7 k.d1.1]; exact k.hpr) Jc (by rw [J7 k.d1.2.2.symm]; exact k.hsr)
theorem Wk.sets (k : Wk C CW H p n al pr fl sr wy bs m xs as ps fs sp) (qs : List Int) : Wk C CW (upd H sr (.lst (qs.map V.int))) p n al pr fl sr wy bs m xs as ps fs qs :=
 k.stay (fun a o _ _ n1 _ e=>by rw [J7 n1]; exact e) (by rw [J7 k.d1.2.1]; exact k.hpr) (by rw [J7 k.d1.2.2]; exact k.hfl) Jc
theorem Wk.grow {T : Addr} {pos : Pos} {qual : Str} (k : Wk C CW H p n al pr fl sr wy bs m xs as ps fs sp) (t : JU H T pos qual) (g : Grw T H H') : Wk C CW H' p n al pr fl sr wy bs m xs as ps fs sp:=by
 obtain ⟨tp,e,_⟩:=t
 have nT : ∀ {a : Addr} {o : HO},H a = some o → (∀ t,o ≠ .tbl t) → H' a = some o:=fun {a o} h n=>g a o (fun z=>by
  rw [z,e] at h
  exact n tp (Option.some.inj h).symm) h
 exact k.stay (fun a o _ _ _ n1 h=>nT h n1) (nT k.hpr (by intro q z; cases z)) (nT k.hfl (by intro q z; cases z)) (nT k.hsr (by intro q z; cases z))
theorem Wk.other (k : Wk C CW H p n al pr fl sr wy bs m xs as ps fs sp) {x : Addr} {o : HO} (h : H x = none ∨ ∃ u,H x = some u ∧ (∀ l,u ≠ .lst l) ∧ (∀ l,u ≠ .tup l) ∧ ∀ c d f,u ≠ .ins c d f) : Wk C CW (upd H x o) p n al pr fl sr wy bs m xs as ps fs sp:=by
 have ne : ∀ {a : Addr} {u : HO},H a = some u → ((∃ l,u = .lst l) ∨ (∃ l,u = .tup l) ∨ ∃ c d f,u = .ins c d f) → upd H x o a = some u:=fun {a u} e c=>by
  rw [J7]
  ·exact e
  ·rintro rfl
   rcases h with h | ⟨v,h,n1,n2,n3⟩
   ·rw [h] at e; cases e
   ·rw [h] at e
    obtain rfl:=Option.some.inj e
    rcases c with ⟨l,z⟩ | ⟨l,z⟩ | ⟨c,d,f,z⟩
    ·exact n1 l z
    ·exact n2 l z
    ·exact n3 c d f z
 obtain ⟨dx,e1⟩:=k.hp
 obtain ⟨dn,e2⟩:=k.hn
 refine ⟨⟨dx,ne e1 (.inr (.inr ⟨_,_,_,rfl⟩))⟩,⟨dn,ne e2 (.inr (.inr ⟨_,_,_,rfl⟩))⟩,ne k.ha (.inl ⟨_,rfl⟩),k.hA.imp fun a y hy=>?_,ne k.hpr (.inl ⟨_,rfl⟩),ne k.hfl (.inl ⟨_,rfl⟩),ne k.hsr (.inl ⟨_,rfl⟩),⟨ne k.hwy.1 (.inl ⟨_,rfl⟩),k.hwy.2.1,k.hwy.2.2.1,fun i b hb=>?_⟩,k.hbl,k.d1,k.d2,k.d3,k.d4⟩
 ·obtain ⟨t,rfl,ht⟩:=hy
  exact ⟨t,rfl,ne ht (.inr (.inl ⟨_,rfl⟩))⟩
 ·obtain ⟨ys,y1,y2⟩:=k.hwy.2.2.2 i b hb
  refine ⟨ys,ne y1 (.inl ⟨_,rfl⟩),y2.imp fun v y hy=>?_⟩
  obtain ⟨t,rfl,ht⟩:=hy
  exact ⟨t,rfl,ne ht (.inr (.inl ⟨_,rfl⟩))⟩
end
theorem J2O {H : Hp} {x : Addr} {kvs : List (Key × V)} (h : H x = some (.dK kvs)) : H x = none ∨ ∃ u,H x = some u ∧ (∀ l,u ≠ .lst l) ∧ (∀ l,u ≠ .tup l) ∧ ∀ c d f,u ≠ .ins c d f:=by
 refine .inr ⟨_,h,?_,?_,?_⟩
 ·intro l z
  cases z
 ·intro l z
  cases z
 ·intro c d f z
  cases z
theorem J9b {F : Tab} {i : Nat} {x d D : Int} {ps : List Int} (h : F[i]? = some (x,d)) : shF (F.take (i + 1)) D ps = (shF (F.take i) D ps).set x.toNat (J6 (shF (F.take i) D ps) x + (d - D)):=by
 unfold shF
 rw [List.take_add_one,h,Option.toList_some,List.foldl_append]
 rfl
noncomputable def J8l (C CW : Addr) : Sp:=fun vs H Q _=>∃ (p n al pr fl sr wy fa : Addr) (bs : List Addr) (m : Nat) (xs : List V) (as : List Ar) (ps fs sp : List Int) (F : Tab) (D : Int),vs = [.ref p,.ref fa,.int D] ∧ Wk C CW H p n al pr fl sr wy bs m xs as ps fs sp ∧ H fa = some (.dK (tabV F)) ∧ ps.length = m ∧ (∀ q ∈ F,0 ≤ q.1 ∧ q.1 < (m : Int)) ∧
 ∀ H',Bt2 pr fa H H' → Wk C CW H' p n al pr fl sr wy bs m xs as (shF F D ps) fs sp → Q .non H'
section
variable {P : Program} {w : World} {K : PySem.W.Frag} {mg : Str → Option Value} {base : Heap} {Je J8 J4 : Addr}
local macro_rules | `(tactic| walk_at "lk")=>`(tactic| first | exact J0Z _ _ | exact J0Y _ _ | exact J2T _ _ _ _ _ | exact J1c _ _ _ _ _ | exact J1D _ _ _ _ _ | exact J1I _ _ _ _ _ | exact J2h _ _ _ _ _)
theorem J3w (tx : Tx K mg Je J8 J4) : FnG P w K mg base "shift_prices" 1 ["work","far","reach"] (J8l Je J8):=by
 refine tx.J3B.g J14 (fun _ _ _ _ _ _ us hl=>match us,hl with | [_,_,_],_=>rfl) (fun vs H Q E h=>?_) (fun f cdv A outer s H vs Q E hr h=>?_)
 ·obtain ⟨p,n,al,pr,fl,sr,wy,fa,bs,m,xs,as,ps,fs,sp,F,D,rfl,_⟩:=h
  rfl
 ·obtain ⟨p,n,al,pr,fl,sr,wy,fa,bs,m,xs,as,ps,fs,sp,F,D,rfl,hW,hfa,hps,hF,q⟩:=h
  refine ⟨_,(Jd (J0L PassesOwn.never rfl (J7V (P:=P) (w:=w) rfl rfl (pv 1) rfl rfl) (J28 rfl (Jx (Jn (i:=3) J14.nd rfl (Or.inl rfl)) (Jx (Jn (i:=4) J14.nd rfl (Or.inl rfl)) J19))) (Jd (J2i (Jq (K:=K) rfl (pv 0) rfl) (pv 3) (J1d (K:=K) rfl) (Jj J1j (pv 4) (pv 2)) J3O J0u)))),?_⟩
  walk_at "st"
  have cW:=tx.J0S.cl
  have w1:=tx.J01
  walk_at "rd"
  intro ep
  have W1 : Wk Je J8 (upd H fa (DkE P w fa ep (tabV F))) p n al pr fl sr wy bs m xs as ps fs sp:=hW.other (J2O hfa)
  have b1 : Bt2 pr fa H (upd H fa (DkE P w fa ep (tabV F))):=fun a o _ n2 e=>by rw [J7 n2]; exact e
  have g1 : upd H fa (DkE P w fa ep (tabV F)) fa = some (DkE P w fa ep (tabV F)):=Jc
  have npf : pr ≠ fa:=J0b hW.hpr hfa (by intro z; cases z)
  generalize upd H fa (DkE P w fa ep (tabV F)) = H1 at W1 b1 g1 ⊢
  refine J6B (P:=P) (w:=w) (ep:=ep) (xs:=tabV F) (fun i σ H2=>Here (∃ v1 v2,σ = [some (.ref p),some (.ref fa),some (.int D),v1,v2] ∧ H2 fa = some (DkE P w fa ep (tabV F)) ∧ Bt2 pr fa H H2 ∧ Wk Je J8 H2 p n al pr fl sr wy bs m xs as (shF (F.take i) D ps) fs sp)) (Here.mk ⟨none,none,rfl,g1,b1,W1⟩) (fun i σ H2 _ hv=>by obtain ⟨_,_,_,g,_⟩:=hv.out; exact g) ?_ ?_
  ·rintro i e t σ H2 he ht hv
   obtain ⟨v1,v2,rfl,g2,b2,W2⟩:=hv.out
   obtain ⟨x,d,hxd,rfl⟩ : ∃ x d,F[i]? = some (x,d) ∧ e = (.inl x,.int d):=by
    unfold tabV at he
    rw [List.getElem?_map] at he
    cases h : F[i]? with
    | none=>rw [h] at he; cases he
    | some q=>rw [h] at he; exact ⟨q.1,q.2,rfl,(Option.some.inj he).symm⟩
   obtain ⟨x0,x1⟩:=hF _ (List.mem_of_getElem? hxd)
   obtain ⟨H3,e3,g3,s3⟩:=newt (xs:=[V.int x,V.int d]) ht
   have e3' : H3 = upd H2 t (.tup [kV (.inl x),V.int d]):=e3
   rw [← e3']
   have W3:=W2.same s3
   have hst:=J9b (D:=D) (ps:=ps) hxd
   have hln:=J4L D (F.take i) ps
   generalize shF (F.take i) D ps = L at W3 W2 hst hln
   obtain ⟨dx,hp3⟩:=W3.hp
   have hpr3:=W3.hpr
   have i1:=Jt (ns:=L) x0 (by omega)
   have i2 : ixN (L.map V.int).length x = some x.toNat:=J1W x0 (by rw [List.length_map]; omega)
   walk_at "rd"
   have e4 : (L.map V.int).set x.toNat (V.int (J6 L x + (d - D))) = (shF (F.take (i + 1)) D ps).map V.int:=by rw [J0j,hst]
   show Here _
   refine Here.mk ⟨_,_,rfl,?_,fun a o n1 n2 e=>?_,?_⟩
   ·rw [J7 npf.symm]
    exact s3 _ _ g2
   ·rw [J7 n1]
    exact s3 _ _ (b2 a o n1 n2 e)
   ·show Wk Je J8 (upd H3 pr (.lst ((L.map V.int).set x.toNat (V.int (J6 L x + (d - D)))))) p n al pr fl sr wy bs m xs as (shF (F.take (i + 1)) D ps) fs sp
    rw [e4]
    exact W3.setp _
  ·rintro σ H2 hv
   obtain ⟨v1,v2,rfl,g2,b2,W2⟩:=hv.out
   rw [List.take_of_length_le (by unfold tabV; rw [List.length_map]; exact Nat.le_refl _)] at W2
   walk_at "rd"
   exact q H2 b2 W2
end
noncomputable def StpT (H : Hp) (kvs : List (Key × V)) (S : Stps) : Prop:=∀ x : Int,(S x = none ∧ valV kvs (.inl x) = none) ∨ ∃ e u sg t,S x = some (e,u,sg) ∧ valV kvs (.inl x) = some (.ref t) ∧ H t = some (.tup [.int (e : Int),.int u,.int sg])
theorem StpT.keeps {H H' : Hp} {kvs : List (Key × V)} {S : Stps} (h : StpT H kvs S) (k : ∀ t vs,H t = some (.tup vs) → H' t = some (.tup vs)) : StpT H' kvs S:=fun x=>by
 rcases h x with z | ⟨e,u,sg,t,a,b,c⟩
 ·exact .inl z
 ·exact .inr ⟨e,u,sg,t,a,b,k _ _ c⟩
noncomputable def srcT (sp : List Int) (i : Nat) : Tab:=((List.range i).filter fun (x : Nat)=>decide (0 < J6 sp (x : Int))).map fun (x : Nat)=>((x : Int),(0 : Int))
theorem J47 (sp : List Int) (i : Nat) : srcT sp (i + 1) = srcT sp i ++ (if 0 < J6 sp (i : Int) then [((i : Int),0)] else []):=by
 unfold srcT
 rw [List.range_succ,List.filter_append,List.map_append,List.filter_cons]
 by_cases h : 0 < J6 sp (i : Int)
 ·rw [if_pos (decide_eq_true h),if_pos h]
  rfl
 ·rw [if_neg (fun z=>h (of_decide_eq_true z)),if_neg h]
  rfl
theorem J3I {sp : List Int} {i : Nat} {q : Int × Int} : q ∈ srcT sp i ↔ 0 ≤ q.1 ∧ q.1 < (i : Int) ∧ 0 < J6 sp q.1 ∧ q.2 = 0:=by
 unfold srcT
 constructor
 ·intro h
  obtain ⟨x,hx,rfl⟩:=List.mem_map.mp h
  obtain ⟨h1,h2⟩:=List.mem_filter.mp hx
  have:=List.mem_range.mp h1
  exact ⟨by omega,by omega,of_decide_eq_true h2,rfl⟩
 ·rintro ⟨h0,h1,h2,h3⟩
  have e : ((q.1.toNat : Nat) : Int) = q.1:=by omega
  refine List.mem_map.mpr ⟨q.1.toNat,List.mem_filter.mpr ⟨List.mem_range.mpr (by omega),?_⟩,?_⟩
  ·rw [e]
   exact decide_eq_true h2
  ·rw [e,← h3]
theorem J99 (sp : List Int) (i : Nat) : ((srcT sp i).map (·.1)).Nodup:=by
 unfold srcT
 rw [List.map_map]
 have h : (List.range i).Nodup:=List.nodup_range
 have h2 : ((List.range i).filter fun (x : Nat)=>decide (0 < J6 sp (x : Int))).Nodup:=List.Pairwise.filter _ h
 refine List.Pairwise.map (R:=fun a b=>a ≠ b) _ (fun a b n z=>?_) h2
 have z' : (a : Int) = (b : Int):=z
 exact n (by omega)
theorem J9c (sp : List Int) (i : Nat) : (srcT sp i).length ≤ i:=by
 unfold srcT
 rw [List.length_map]
 exact Nat.le_trans (List.length_filter_le _ _) (by rw [List.length_range]; exact Nat.le_refl _)
theorem J1C (F : Tab) : (tabV F).length = F.length:=List.length_map ..
theorem J1G {F : Tab} {x : Int} (h : ∀ q ∈ F,q.1 ≠ x) : valV (tabV F) (.inl x) = none:=by
 induction F with
 | nil=>rfl
 | cons p r ih =>
  show valV ((Sum.inl p.1,V.int p.2) :: tabV r) (.inl x) = none
  rw [J06 (p:=((Sum.inl p.1 : Key),V.int p.2)) (fun z=>h p (List.mem_cons_self ..) (Sum.inl.inj z))]
  exact ih fun q hq=>h q (List.mem_cons_of_mem _ hq)
theorem J1b {F : Tab} {x d : Int} (hn : (F.map (·.1)).Nodup) (h : (x,d) ∈ F) : valV (tabV F) (.inl x) = some (.int d):=by
 induction F with
 | nil=>cases h
 | cons p r ih =>
  show valV ((Sum.inl p.1,V.int p.2) :: tabV r) (.inl x) = some (.int d)
  rw [List.map_cons,List.nodup_cons] at hn
  rcases List.mem_cons.mp h with z | z
  ·rw [← z]
   exact J0i rfl
  ·rw [J06 (p:=((Sum.inl p.1 : Key),V.int p.2)) (fun y=>hn.1 ((Sum.inl.inj y : p.1 = x) ▸ J2o z))]
   exact ih hn.2 z
theorem J2Q (F : Tab) (x d : Int) : tabV F ++ [(.inl x,.int d)] = tabV (F ++ [(x,d)]):=by
 unfold tabV
 rw [List.map_append]
 rfl
theorem J7H (F : Tab) (x : Int) : J0O (tabV F) (.inl x) = tabV (F.filter fun q=>decide (q.1 ≠ x)):=by
 induction F with
 | nil=>rfl
 | cons p r ih =>
  show J0O ((Sum.inl p.1,V.int p.2) :: tabV r) (.inl x) = _
  by_cases h : p.1 = x
  ·rw [J7L (p:=((Sum.inl p.1 : Key),V.int p.2)) (show (Sum.inl p.1 : Key) = .inl x by rw [h]),ih,List.filter_cons,if_neg (by simp [h])]
  ·rw [J7E (p:=((Sum.inl p.1 : Key),V.int p.2)) (fun z=>h (Sum.inl.inj z)),ih,List.filter_cons,if_pos (by simp [h])]
   rfl
theorem J4X {l : List Int} {m : Nat} (h : l.Nodup) (hr : ∀ x ∈ l,0 ≤ x ∧ x < (m : Int)) : l.length ≤ m:=by
 have:=List.Nodup.length_le_of_subset (l₂:=(List.range m).map fun (i : Nat)=>(i : Int)) h fun x hx=>by
  obtain ⟨a,b⟩:=hr x hx
  exact List.mem_map.mpr ⟨x.toNat,List.mem_range.mpr (by omega),by omega⟩
 rwa [List.length_map,List.length_range] at this
theorem J5F {H : Hp} {x : Addr} {kvs : List (Key × V)} (h : H x = some (.dK kvs)) : H x = none ∨ ∃ u,H x = some u ∧ (∀ ps,u ≠ .tbl ps) ∧ ∀ φ,u ≠ .ext φ:=by
 refine .inr ⟨_,h,?_,?_⟩
 ·intro l z
  cases z
 ·intro l z
  cases z
noncomputable def lenD (H : Hp) (a : Addr) : Nat:=match H a with
 | some (.dK kvs)=>kvs.length
 | _=>0
theorem J76 {H : Hp} {a : Addr} {kvs : List (Key × V)} (h : H a = some (.dK kvs)) : lenD H a = kvs.length:=by unfold lenD; rw [h]
theorem J7y (kvs : List (Key × V)) (ks : List Int) (x : Int) (v : V) (h : kvs.map (·.1) = ks.map Sum.inl) : (putK kvs (.inl x) v).map (·.1) = (if x ∈ ks then ks else ks ++ [x]).map Sum.inl:=by
 by_cases hx : x ∈ ks
 ·rw [if_pos hx,← h]
  unfold putK
  rw [if_pos]
  ·rw [List.map_map]
   refine List.map_congr_left fun p _=>?_
   show (if p.1 = Sum.inl x then (p.1,v) else p).1 = p.1
   split <;> rfl
  ·have : (Sum.inl x : Key) ∈ kvs.map (·.1):=by rw [h]; exact List.mem_map.mpr ⟨x,hx,rfl⟩
   obtain ⟨p,hp,e⟩:=List.mem_map.mp this
   exact List.any_eq_true.mpr ⟨p,hp,decide_eq_true e⟩
 ·rw [if_neg hx,J3S v,List.map_append,h,List.map_append]
  ·rfl
  ·cases hv : valV kvs (.inl x) with
   | none=>rfl
   | some y =>
    have:=J9Z hv
    rw [h] at this
    obtain ⟨z,hz,e⟩:=List.mem_map.mp this
    cases e
    exact absurd hz hx
structure NL (C CW T : Addr) (H H2 : Hp) (p n al pr fl sr wy fa st wt : Addr) (bs : List Addr) (m : Nat) (xs : List V) (as : List Ar) (ps fs sp : List Int) (F W : Tab) (S : Stps) (kvs : List (Key × V)) (ks : List Int) (td : Int → Int → Nat → Int → Prop) : Prop where
 gf : H2 fa = some (.dK (tabV F))
 gw : H2 wt = some (.dK (tabV W))
 gs : H2 st = some (.dK kvs)
 stp : StpT H2 kvs S
 keys : kvs.map (·.1) = ks.map Sum.inl
 nod : ks.Nodup
 rng : ∀ x ∈ ks,0 ≤ x ∧ x < (m : Int)
 dj : DJ m as fs ps sp F W S td
 wk : Wk C CW H2 p n al pr fl sr wy bs m xs as ps fs sp
 tb : JU H2 T lpos J0P
 fr : ∀ a o,a ≠ fa → a ≠ st → a ≠ wt → a ≠ T → H a = some o → H2 a = some o
section
variable {C CW T : Addr} {H H3 H4 : Hp} {p n al pr fl sr wy fa st wt : Addr} {bs : List Addr} {m : Nat} {xs : List V} {as : List Ar} {ps fs sp : List Int} {F W : Tab} {S : Stps} {kvs : List (Key × V)} {ks : List Int} {td : Int → Int → Nat → Int → Prop}
theorem NL.ntab (N : NL C CW T H H3 p n al pr fl sr wy fa st wt bs m xs as ps fs sp F W S kvs ks td) (g : Grw T H3 H4) {a : Addr} {o : HO} (h : H3 a = some o) (no : ∀ t,o ≠ .tbl t) : H4 a = some o:=by
 obtain ⟨tp,e,_⟩:=N.tb
 exact g a o (fun z=>by
  rw [z,e] at h
  exact no tp (Option.some.inj h).symm) h
theorem NL.grow (N : NL C CW T H H3 p n al pr fl sr wy fa st wt bs m xs as ps fs sp F W S kvs ks td) (g : Grw T H3 H4) (t4 : JU H4 T lpos J0P) : NL C CW T H H4 p n al pr fl sr wy fa st wt bs m xs as ps fs sp F W S kvs ks td :=
 ⟨N.ntab g N.gf (by intro q z; cases z),N.ntab g N.gw (by intro q z; cases z),N.ntab g N.gs (by intro q z; cases z),N.stp.keeps (fun t vs h=>N.ntab g h (by intro q z; cases z)),N.keys,N.nod,N.rng,N.dj,N.wk.grow N.tb g,t4,fun a o n1 n2 n3 n4 e=>g a o n4 (N.fr a o n1 n2 n3 n4 e)⟩
theorem J2l {x : Addr} {o : HO} {kv : List (Key × V)} (h : StpT H3 kvs S) (hx : H3 x = some (.dK kv)) : StpT (upd H3 x o) kvs S:=h.keeps fun t vs ht=>by
 rw [J7 (J0b ht hx (by intro z; cases z))]
 exact ht
theorem NL.took (N : NL C CW T H H3 p n al pr fl sr wy fa st wt bs m xs as ps fs sp F W S kvs ks (fun _ _ _ _=>False)) (nwf : wt ≠ fa) (nws : wt ≠ st) (nfs : fa ≠ st) {x z : Int} (hx : (x,z) ∈ W) (hm : ∀ q ∈ W,z ≤ q.2) :
  NL C CW T H (upd (upd H3 wt (.dK (J0O (tabV W) (.inl x)))) fa (.dK (putK (tabV F) (.inl x) (.int z)))) p n al pr fl sr wy fa st wt bs m xs as ps fs sp (F ++ [(x,z)]) (W.filter fun q=>decide (q.1 ≠ x)) S kvs ks (fun u _ _ _=>u = x):=by
 have g1 : upd H3 wt (.dK (J0O (tabV W) (.inl x))) fa = some (.dK (tabV F)):=by rw [J7 nwf.symm]; exact N.gf
 have t1:=N.tb.upd (o:=.dK (J0O (tabV W) (.inl x))) (J5F N.gw)
 have w1:=N.wk.other (o:=.dK (J0O (tabV W) (.inl x))) (J2O N.gw)
 have s1:=J2l (o:=.dK (J0O (tabV W) (.inl x))) N.stp N.gw
 refine ⟨?_,?_,?_,J2l s1 g1,N.keys,N.nod,N.rng,N.dj.take hx hm (fun q=>?_) ?_,w1.other (J2O g1),t1.upd (J5F g1),fun a o n1 n2 n3 n4 e=>?_⟩
 ·rw [Jc,J3S _ (J1G fun q hq=>N.dj.dis q hq (x,z) hx),J2Q]
 ·rw [J7 nwf,Jc,J7H]
 ·rw [J7 nfs.symm,J7 nws.symm]
  exact N.gs
 ·rw [List.mem_filter]
  simp
 ·exact List.Nodup.sublist ((List.filter_sublist (p:=fun q : Int × Int=>decide (q.1 ≠ x))).map _) N.dj.nodW
 ·rw [J7 n1,J7 n3]
  exact N.fr a o n1 n2 n3 n4 e
theorem NL.len (N : NL C CW T H H3 p n al pr fl sr wy fa st wt bs m xs as ps fs sp F W S kvs ks td) : F.length ≤ m ∧ W.length ≤ m ∧ kvs.length ≤ m:=by
 refine ⟨?_,?_,?_⟩
 ·have:=J4X N.dj.nodF fun x hx=>by
   obtain ⟨q,hq,rfl⟩:=List.mem_map.mp hx
   exact N.dj.rng q (.inl hq)
  rwa [List.length_map] at this
 ·have:=J4X N.dj.nodW fun x hx=>by
   obtain ⟨q,hq,rfl⟩:=List.mem_map.mp hx
   exact N.dj.rng q (.inr hq)
  rwa [List.length_map] at this
 ·have h1:=J4X N.nod N.rng
  have h2:=congrArg List.length N.keys
  rw [List.length_map,List.length_map] at h2
  omega
end
noncomputable def putT (W : Tab) (v L : Int) : Tab:=if v ∈ W.map (·.1) then W.map (fun q=>if q.1 = v then (q.1,L) else q) else W ++ [(v,L)]
theorem J9k (W : Tab) (v L : Int) : (putT W v L).map (·.1) = if v ∈ W.map (·.1) then W.map (·.1) else W.map (·.1) ++ [v]:=by
 unfold putT
 split
 ·rw [List.map_map]
  refine List.map_congr_left fun q _=>?_
  show (if q.1 = v then (q.1,L) else q).1 = q.1
  split <;> rfl
 ·rw [List.map_append]
  rfl
theorem J9s {W : Tab} (h : (W.map (·.1)).Nodup) (v L : Int) : ((putT W v L).map (·.1)).Nodup:=by
 rw [J9k]
 split
 ·exact h
 ·rename_i hv
  rw [List.nodup_append]
  exact ⟨h,by simp,fun a ha b hb z=>hv (by rw [← List.mem_singleton.mp hb,← z]; exact ha)⟩
theorem J96 {W : Tab} {v L : Int} (q : Int × Int) : q ∈ putT W v L ↔ q = (v,L) ∨ (q ∈ W ∧ q.1 ≠ v):=by
 unfold putT
 split
 ·rename_i hv
  rw [List.mem_map]
  constructor
  ·rintro ⟨r,hr,rfl⟩
   by_cases e : r.1 = v
   ·rw [if_pos e,e]
    exact .inl rfl
   ·rw [if_neg e]
    exact .inr ⟨hr,e⟩
  ·rintro (rfl | ⟨h1,h2⟩)
   ·obtain ⟨r,hr,e⟩:=List.mem_map.mp hv
    have e' : r.1 = v:=e
    exact ⟨r,hr,by rw [if_pos e',e']⟩
   ·exact ⟨q,h1,if_neg h2⟩
 ·rename_i hv
  rw [List.mem_append,List.mem_singleton]
  constructor
  ·rintro (h | h)
   ·exact .inr ⟨h,fun z=>hv (z ▸ List.mem_map.mpr ⟨q,h,rfl⟩)⟩
   ·exact .inl h
  ·rintro (h | h)
   ·exact .inr h
   ·exact .inl h.1
theorem J9f (W : Tab) (v L : Int) : putK (tabV W) (.inl v) (.int L) = tabV (putT W v L):=by
 have hk : v ∈ W.map (·.1) ↔ ((tabV W).any fun kv=>decide (kv.1 = (.inl v : Key))) = true:=by
  rw [List.any_eq_true]
  constructor
  ·intro h
   obtain ⟨r,hr,e⟩:=List.mem_map.mp h
   have e' : r.1 = v:=e
   exact ⟨(.inl r.1,.int r.2),List.mem_map.mpr ⟨r,hr,rfl⟩,decide_eq_true (by rw [e'])⟩
  ·rintro ⟨kv,hkv,e⟩
   obtain ⟨r,hr,rfl⟩:=List.mem_map.mp hkv
   exact List.mem_map.mpr ⟨r,hr,Sum.inl.inj (of_decide_eq_true e)⟩
 unfold putK putT
 by_cases h : v ∈ W.map (·.1)
 ·rw [if_pos (hk.mp h),if_pos h]
  unfold tabV
  rw [List.map_map,List.map_map]
  refine List.map_congr_left fun r _=>?_
  show (if (Sum.inl r.1 : Key) = .inl v then ((Sum.inl r.1 : Key),V.int L) else (.inl r.1,.int r.2)) = _
  by_cases e : r.1 = v
  ·rw [if_pos (by rw [e])]
   show _ = (Sum.inl (if r.1 = v then (r.1,L) else r).1,V.int (if r.1 = v then (r.1,L) else r).2)
   rw [if_pos e]
  ·rw [if_neg (fun z=>e (Sum.inl.inj z))]
   show _ = (Sum.inl (if r.1 = v then (r.1,L) else r).1,V.int (if r.1 = v then (r.1,L) else r).2)
   rw [if_neg e]
 ·rw [if_neg (fun z=>h (hk.mpr z)),if_neg h,J2Q]
section
variable {C CW T : Addr} {H H7 : Hp} {p n al pr fl sr wy fa st wt : Addr} {bs : List Addr} {m : Nat} {xs : List V} {as : List Ar} {ps fs sp : List Int} {F W : Tab} {S : Stps} {kvs : List (Key × V)} {ks : List Int} {td td' : Int → Int → Nat → Int → Prop}
theorem NL.redo (N : NL C CW T H H7 p n al pr fl sr wy fa st wt bs m xs as ps fs sp F W S kvs ks td) (dj : DJ m as fs ps sp F W S td') : NL C CW T H H7 p n al pr fl sr wy fa st wt bs m xs as ps fs sp F W S kvs ks td':={ N with dj:=dj }
theorem NL.put (N : NL C CW T H H7 p n al pr fl sr wy fa st wt bs m xs as ps fs sp F W S kvs ks td) (nwf : wt ≠ fa) (nws : wt ≠ st) (nfs : fa ≠ st) {x v z : Int} {e : Nat} {sg : Int} {t2 : Addr}
  (n2 : upd H7 wt (.dK (putK (tabV W) (.inl v) (.int (z + lenF as ps e sg)))) t2 = none) (v0 : 0 ≤ v ∧ v < (m : Int))
  (dj : DJ m as fs ps sp F (putT W v (z + lenF as ps e sg)) (fun y=>if y = v then some (e,x,sg) else S y) td') :
  NL C CW T H (upd (upd (upd H7 wt (.dK (putK (tabV W) (.inl v) (.int (z + lenF as ps e sg))))) t2 (.tup [.int (e : Int),.int x,.int sg])) st (.dK (putK kvs (.inl v) (.ref t2)))) p n al pr fl sr wy fa st wt bs m xs as ps fs sp F (putT W v (z + lenF as ps e sg)) (fun y=>if y = v then some (e,x,sg) else S y) (putK kvs (.inl v) (.ref t2)) (if v ∈ ks then ks else ks ++ [v]) td':=by
 have t1:=N.tb.upd (o:=.dK (putK (tabV W) (.inl v) (.int (z + lenF as ps e sg)))) (J5F N.gw)
 have w1:=N.wk.other (o:=.dK (putK (tabV W) (.inl v) (.int (z + lenF as ps e sg)))) (J2O N.gw)
 have s1:=J2l (o:=.dK (putK (tabV W) (.inl v) (.int (z + lenF as ps e sg)))) N.stp N.gw
 have g1 : upd H7 wt (.dK (putK (tabV W) (.inl v) (.int (z + lenF as ps e sg)))) fa = some (.dK (tabV F)):=by rw [J7 nwf.symm]; exact N.gf
 have gs1 : upd H7 wt (.dK (putK (tabV W) (.inl v) (.int (z + lenF as ps e sg)))) st = some (.dK kvs):=by rw [J7 nws.symm]; exact N.gs
 have gw1 : upd H7 wt (.dK (putK (tabV W) (.inl v) (.int (z + lenF as ps e sg)))) wt = some (.dK (tabV (putT W v (z + lenF as ps e sg)))):=by rw [Jc,J9f]
 have f1 : ∀ a o,a ≠ fa → a ≠ st → a ≠ wt → a ≠ T → H a = some o → upd H7 wt (.dK (putK (tabV W) (.inl v) (.int (z + lenF as ps e sg)))) a = some o:=fun a o n1 n2 n3 n4 h=>by
  rw [J7 n3]
  exact N.fr a o n1 n2 n3 n4 h
 generalize upd H7 wt (.dK (putK (tabV W) (.inl v) (.int (z + lenF as ps e sg)))) = H8 at t1 w1 s1 g1 gs1 gw1 f1 n2 ⊢
 have sm : Same H8 (upd H8 t2 (.tup [.int (e : Int),.int x,.int sg])):=JK n2 _
 have ht2 : upd H8 t2 (.tup [.int (e : Int),.int x,.int sg]) t2 = some (.tup [.int (e : Int),.int x,.int sg]):=Jc
 have t3:=t1.same sm
 have w3:=w1.same sm
 have s3:=s1.keeps (H':=upd H8 t2 (.tup [.int (e : Int),.int x,.int sg])) fun t vs h=>sm _ _ h
 have g3:=sm _ _ g1
 have gs3:=sm _ _ gs1
 have gw3:=sm _ _ gw1
 have f3 : ∀ a o,a ≠ fa → a ≠ st → a ≠ wt → a ≠ T → H a = some o → upd H8 t2 (.tup [.int (e : Int),.int x,.int sg]) a = some o:=fun a o n1 n2 n3 n4 h=>sm _ _ (f1 a o n1 n2 n3 n4 h)
 generalize upd H8 t2 (.tup [.int (e : Int),.int x,.int sg]) = H9 at ht2 t3 w3 s3 g3 gs3 gw3 f3 ⊢
 have s4:=J2l (o:=.dK (putK kvs (.inl v) (.ref t2))) s3 gs3
 have nt : t2 ≠ st:=J0b ht2 gs3 (by intro z; cases z)
 refine ⟨by rw [J7 nfs]; exact g3,by rw [J7 nws]; exact gw3,Jc,fun y=>?_,J7y kvs ks v _ N.keys,?_,?_,dj,w3.other (J2O gs3),t3.upd (J5F gs3),fun a o n1 n2 n3 n4 h=>by rw [J7 n2]; exact f3 a o n1 n2 n3 n4 h⟩
 ·by_cases hy : y = v
  ·refine .inr ⟨e,x,sg,t2,if_pos hy,?_,by rw [J7 nt]; exact ht2⟩
   rw [J5t,if_pos (by rw [hy])]
  ·have e1 : (if y = v then some (e,x,sg) else S y) = S y:=if_neg hy
   have e2 : valV (putK kvs (.inl v) (.ref t2)) (.inl y) = valV kvs (.inl y):=by rw [J5t,if_neg (fun z=>hy (Sum.inl.inj z))]
   rw [e1,e2]
   exact s4 y
 ·split
  ·exact N.nod
  ·rename_i hv
   rw [List.nodup_append]
   exact ⟨N.nod,by simp,fun a ha b hb z=>hv (by rw [← List.mem_singleton.mp hb,← z]; exact ha)⟩
 ·intro y hy
  split at hy
  ·exact N.rng y hy
  ·rcases List.mem_append.mp hy with h | h
   ·exact N.rng y h
   ·rw [List.mem_singleton.mp h]
    exact v0
end
theorem J2q {a b : TS} {D : Ends} {σ : St} {H : Hp} (h : a { D with nx:=b D } σ H) : tSeq a b D σ H:=h
noncomputable def J9D (C CW T : Addr) : Sp:=fun vs H Q _=>∃ (p n al pr fl sr wy fa st : Addr) (bs : List Addr) (m : Nat) (xs : List V) (as : List Ar) (ps fs sp : List Int),vs = [.ref p,.ref fa,.ref st] ∧ Wk C CW H p n al pr fl sr wy bs m xs as ps fs sp ∧ H fa = some (.dK []) ∧ H st = some (.dK []) ∧ fa ≠ st ∧ JU H T lpos J0P ∧
 ps.length = m ∧ fs.length = as.length ∧ sp.length = m ∧ m ≤ 100 ∧ as.length ≤ 500 ∧ (∀ a ∈ as,ArOk m a) ∧ RP as fs ps ∧
 ∀ (H' : Hp) (F : Tab) (S : Stps) (kvs : List (Key × V)) (r : Int),(∀ a o,a ≠ fa → a ≠ st → a ≠ T → H a = some o → H' a = some o) → JU H' T lpos J0P → H' fa = some (.dK (tabV F)) → H' st = some (.dK kvs) → StpT H' kvs S →
  ((r = -1 ∧ DJ m as fs ps sp F [] S (fun _ _ _ _=>False) ∧ ∀ q ∈ F,0 ≤ J6 sp q.1) ∨
   (∃ D W,(r,D) ∈ F ∧ (∀ q ∈ F,q.2 ≤ D) ∧ J6 sp r < 0 ∧ DJ m as fs ps sp F W S (fun u _ _ _=>u = r))) → Q (.int r) H'
section
variable {P : Program} {w : World} {K : PySem.W.Frag} {mg : Str → Option Value} {base : Heap} {Je J8 J4 : Addr}
local macro_rules | `(tactic| walk_at "lk")=>`(tactic| first | exact J0Z _ _ | exact J0Y _ _ | exact J2T _ _ _ _ _ | exact J1c _ _ _ _ _ | exact J1D _ _ _ _ _ | exact J1I _ _ _ _ _ | exact J2h _ _ _ _ _)
theorem J3z (tx : Tx K mg Je J8 J4) : FnG P w K mg base "nearest_lack" 2 ["work","far","steps"] (J9D Je J8 J4):=by
 have J3t:=J8g (P:=P) (w:=w) (base:=base) tx
 have J09:=J24 (P:=P) (w:=w) (base:=base) tx
 refine tx.J3l.g JE (fun _ _ _ _ _ _ us hl=>match us,hl with | [_,_,_],_=>rfl) (fun vs H Q E h=>?_) (fun f c A outer s H vs Q E hC hB hr h=>?_)
 ·obtain ⟨p,n,al,pr,fl,sr,wy,fa,st,bs,m,xs,as,ps,fs,sp,rfl,_⟩:=h
  rfl
 ·obtain ⟨p,n,al,pr,fl,sr,wy,fa,st,bs,m,xs,as,ps,fs,sp,rfl,hW,hfa,hst,nfs,hT,hps,hfs,hsp,hm,hal,hok,hRP,q⟩:=h
  refine ⟨_,(J5 (Jo (i:=3) JE.nd rfl (Or.inr rfl) J3P)
   (J5 (J0L PassesOwn.never rfl (J0F rfl tx.J0I (J0 (Jq (K:=K) rfl (Jq (K:=K) rfl (pv 0) rfl) rfl) J9)) (Jn (i:=4) JE.nd rfl (Or.inl rfl)) (Jd (JP (Jm J29 (Jg (Jk (K:=K) rfl) (Jq (K:=K) rfl (pv 0) rfl) (pv 4) (fun _ _=>rfl)) J2 (Jr _)) (Jd (J3c (J1p hr) (pv 3) (pv 4) J2 rfl)) Ju)))
   (J5 (J3J PassesOwn.never (J8x (pv 3) (fun _=>rfl)) (J5 (Jo (i:=4) JE.nd rfl (Or.inl rfl) (J7I (i:=3) (qual:=J0P) hr rfl rfl hC hB tx.J45 rfl rfl rfl (fun _ _ _ _ _=>rfl) rfl rfl rfl (by decide) rfl rfl rfl rfl rfl))
   (J5 (J3c (J1p hr) (pv 1) (pv 4) (J9i (pv 3) (pv 4) ⟨rfl,rfl,rfl,rfl⟩) rfl)
   (J5 (JP (Jm J3D (Jg (Jk (K:=K) rfl) (Jq (K:=K) rfl (pv 0) rfl) (pv 4) (fun _ _=>rfl)) J2 (Jr _)) (Jd (Jv (pv 4))) Ju)
   (Jd (J0L PassesOwn.never rfl (JS (K:=K) rfl (Jg (Jk (K:=K) rfl) (Jq (K:=K) rfl (pv 0) rfl) (pv 4) (fun _ _=>rfl))) (J28 rfl (Jx (Jn (i:=5) JE.nd rfl (Or.inl rfl)) (Jx (Jn (i:=6) JE.nd rfl (Or.inl rfl)) (Jx (Jn (i:=7) JE.nd rfl (Or.inl rfl)) J19)))) (Jd (JP (PW.pt (J1x (J4S (J2L (J1p hr) (pv 6) (pv 1)) rfl) (J0X (Jm J29 (JL J3t (hr.mono (by decide)) (J0 (pv 0) (J0 (pv 5) (J0 (pv 7) J9)))) J2 (Jr _))))) (J5 (Jo (i:=8) JE.nd rfl (Or.inl rfl) (Jj J0r (J2G (J1p hr) (pv 1) (pv 4) (fun _ _=>rfl)) (Jj J1y (pv 7) (JL J09 (hr.mono (by decide)) (J0 (Jg (Jk (K:=K) rfl) (Jq (K:=K) rfl (Jq (K:=K) rfl (pv 0) rfl) rfl) (pv 5) (fun _ _=>rfl)) (J0 (Jq (K:=K) rfl (pv 0) rfl) J9))))))
   (Jd (JP (PW.pt (J1E (J4S (J2L (J1p hr) (pv 6) (pv 3)) rfl) (J1w (Jm J3D (pv 8) (J2G (J1p hr) (pv 3) (pv 6) (fun _ _=>rfl)) (Jr _))))) (J5 (J3c (J1p hr) (pv 3) (pv 6) (pv 8) rfl)
   (Jd (J3c (J1p hr) (pv 2) (pv 6) (J1u (J0 (pv 5) (J0 (pv 4) (J0 (pv 7) J9)))) rfl))) Ju))) Ju))))))))
   (Jd (Jv (J4n J2S J2)))))),?_⟩
  walk_at "st"
  clear J3t J09
  have cW:=tx.J0S.cl
  have cN:=tx.J11.cl
  have w1:=tx.J0R
  have w2:=tx.J0e
  have w3:=tx.J10
  have w4:=tx.J01
  have nM:=tx.JH
  have nA:=tx.JA
  walk_at "rd"
  intro wt nwt
  obtain ⟨H1,e1,g1,s1⟩:=newo (o:=.dK []) nwt
  rw [← e1]
  have W1:=hW.same s1
  have hT1:=hT.same s1
  obtain ⟨dx1,hp1⟩:=W1.hp
  obtain ⟨dn1,hn1⟩:=W1.hn
  have nwf : wt ≠ fa:=(Jb hfa nwt).symm
  have nws : wt ≠ st:=(Jb hst nwt).symm
  walk_at "rd"
  refine J1F (n:=((m : Int)).toNat) (fun i σ H2=>Here (∃ v4,σ = [some (.ref p),some (.ref fa),some (.ref st),some (.ref wt),v4,none,none,none,none] ∧ H2 wt = some (.dK (tabV (srcT sp i))) ∧ But wt H1 H2 ∧ Wk Je J8 H2 p n al pr fl sr wy bs m xs as ps fs sp ∧ JU H2 J4 lpos J0P)) (Here.mk ⟨none,rfl,g1,But.refl _ _,W1,hT1⟩) ?_ ?_
  ·rintro i σ H2 hi hv
   obtain ⟨v4,rfl,g2,b2,W2,hT2⟩:=hv.out
   rw [Int.toNat_natCast] at hi
   obtain ⟨dx2,hp2⟩:=W2.hp
   have hsr2:=W2.hsr
   have i1:=Jt (ns:=sp) (k:=0 + (i : Int)) (by omega) (by omega)
   walk_at "rd"
   have hl2:=J9c sp i
   have e0 : (0 : Int) + (i : Int) = (i : Int):=by omega
   refine ite2 (fun c=>?_) (fun c=>?_)
   ·have c' : 0 < J6 sp (i : Int):=by
     rw [← e0]
     exact of_decide_eq_true c
    have e2 : putK (tabV (srcT sp i)) (.inl (0 + (i : Int))) (.int 0) = tabV (srcT sp (i + 1)):=by
     rw [e0,J3S _ (J1G fun q hq z=>by have:=(J3I.mp hq).2.1; omega),J2Q,J47,if_pos c']
    refine ⟨_,rfl,_,rfl,wt,_,rfl,DPut.k (k:=.inl (0 + (i : Int))) g2 (J2R (by rw [J1C]; omega)),Here.mk ⟨_,rfl,?_,b2.at,W2.other (J2O g2),hT2.upd (J5F g2)⟩⟩
    rw [Jc,e2]
   ·have c' : ¬ 0 < J6 sp (i : Int):=fun z=>c (decide_eq_true (by rw [e0]; exact z))
    have e2 : srcT sp (i + 1) = srcT sp i:=by rw [J47,if_neg c',List.append_nil]
    exact Here.mk ⟨_,rfl,by rw [e2]; exact g2,b2,W2,hT2⟩
  ·rintro σ H2 hv
   obtain ⟨v4,rfl,g2,b2,W2,hT2⟩:=hv.out
   rw [Int.toNat_natCast] at g2
   have N0 : NL Je J8 J4 H H2 p n al pr fl sr wy fa st wt bs m xs as ps fs sp [] (srcT sp m) (fun _=>none) [] [] (fun _ _ _ _=>False) :=
    ⟨b2 _ _ nwf.symm (s1 _ _ hfa),g2,b2 _ _ nws.symm (s1 _ _ hst),fun x=>.inl ⟨rfl,rfl⟩,rfl,List.nodup_nil,(fun x h=>nomatch h),DJ.start (J99 sp m) (fun q hq=>let ⟨a,b,c,d⟩:=J3I.mp hq; ⟨d,a,b,c⟩) (fun x a b c=>J3I.mpr ⟨a,b,c,rfl⟩),W2,hT2,fun a o _ _ n3 _ e=>b2 _ _ n3 (s1 _ _ e)⟩
   dsimp only
   refine J2q ?_
   refine J8R (fun σ H3=>Here (∃ v4 v5 v6 v7 v8 F W S kvs ks,σ = [some (.ref p),some (.ref fa),some (.ref st),some (.ref wt),v4,v5,v6,v7,v8] ∧ NL Je J8 J4 H H3 p n al pr fl sr wy fa st wt bs m xs as ps fs sp F W S kvs ks (fun _ _ _ _=>False) ∧ ∀ q ∈ F,0 ≤ J6 sp q.1)) (fun _ H3=>m - lenD H3 fa) (Here.mk ⟨_,_,_,_,_,_,_,_,_,_,rfl,N0,(fun q h=>nomatch h)⟩) ?_ (fun σ H Q Q' k h=>?_)
   ·rintro σ H3 hv
    obtain ⟨v4,v5,v6,v7,v8,F,W,S,kvs,ks,rfl,N,hF⟩:=hv.out
    refine ⟨_,rfl,_,.inr (.inr ⟨_,N.gw,rfl⟩),?_⟩
    by_cases hW0 : W = []
    ·subst hW0
     refine iteF ?_
     walk_at "rd"
     exact q H3 F S kvs (-1) (fun a o n1 n2 n3 e=>N.fr a o n1 n2 (Jb e nwt) n3 e) N.tb N.gf N.gs N.stp (.inl ⟨rfl,N.dj,hF⟩)
    ·have hl : 0 < (tabV W).length:=by
      rw [J1C]
      exact List.length_pos_iff.mpr hW0
     have he : (!(tabV W).isEmpty) = true:=by
      cases h : tabV W with
      | nil=>rw [h] at hl; cases hl
      | cons _ _=>rfl
     rw [he]
     refine iteT ?_
     refine ⟨N.tb,wt,tabV W,rfl,N.gw,hl,fun q hq=>?_,fun H4 k z0 grw tb4 m1 m2=>?_⟩
     ·obtain ⟨r,_,rfl⟩:=List.mem_map.mp hq
      exact ⟨_,rfl⟩
     ·obtain ⟨⟨x,z⟩,hxW,exz⟩:=List.mem_map.mp m1
      obtain ⟨e1,e2⟩:=Prod.mk.inj exz
      cases e1
      cases e2
      have hmin : ∀ r ∈ W,z ≤ r.2:=fun r hr=>m2 (.inl r.1,.int r.2) (List.mem_map.mpr ⟨r,hr,rfl⟩) r.2 rfl
      have N4:=N.grow grw tb4
      have N6:=N4.took nwf nws nfs hxW hmin
      have ln4:=N4.len
      have lF6 : lenD H3 fa = F.length:=by rw [J76 N.gf,J1C]
      obtain ⟨x0,x1⟩:=N.dj.rng _ (.inr hxW)
      have ord : ∀ r ∈ F ++ [(x,z)],r.2 ≤ z:=fun r hr=>by
       rcases List.mem_append.mp hr with y | y
       ·exact N.dj.ord r y (x,z) hxW
       ·rw [List.mem_singleton.mp y]
        exact Int.le_refl _
      refine J07 rfl ?_
      refine J2q ?_
      refine ⟨_,rfl,wt,rfl,.inl ⟨_,.inl N4.gw⟩,_,rfl,_,_,_,N4.gw,rfl,J1b N.dj.nodW hxW,_,rfl,_,rfl,fa,_,rfl,DPut.k (k:=.inl x) (kvs:=tabV F) (by rw [J7 nwf.symm]; exact N4.gf) (J2R (by rw [J1C]; omega)),?_⟩
      generalize upd (upd H4 wt (.dK (J0O (tabV W) (.inl x)))) fa (.dK (putK (tabV F) (.inl x) (.int z))) = H6 at N6 ⊢
      clear N4 tb4 grw N0
      obtain ⟨dx6,hp6⟩:=N6.wk.hp
      have hsr6:=N6.wk.hsr
      have i1:=Jt (ns:=sp) x0 (by omega)
      walk_at "rd"
      refine ite2 (fun c=>?_) (fun c=>?_)
      ·walk_at "rd"
       exact q H6 (F ++ [(x,z)]) S kvs x (fun a o n1 n2 n3 e=>N6.fr a o n1 n2 (Jb e nwt) n3 e) N6.tb N6.gf N6.gs N6.stp (.inr ⟨z,_,List.mem_append_right _ (List.mem_singleton.mpr rfl),ord,of_decide_eq_true c,N6.dj⟩)
      have hx6 : 0 ≤ J6 sp x:=Int.not_lt.mp fun y=>c (decide_eq_true y)
      have hF6 : ∀ r ∈ F ++ [(x,z)],0 ≤ J6 sp r.1:=fun r hr=>by
       rcases List.mem_append.mp hr with y | y
       ·exact hF r y
       ·rw [List.mem_singleton.mp y]
        exact hx6
      have hzF : (x,z) ∈ F ++ [(x,z)]:=List.mem_append_right _ (List.mem_singleton.mpr rfl)
      have hlF : (F ++ [(x,z)]).length = F.length + 1:=by rw [List.length_append]; rfl
      clear c m1 m2 hmin he hl hF hxW exz
      generalize F ++ [(x,z)] = F1 at N6 ord hF6 hzF hlF
      obtain ⟨b,hb⟩ : ∃ b,bs[x.toNat]? = some b:=⟨_,List.getElem?_eq_getElem (by have:=N6.wk.hbl; omega)⟩
      obtain ⟨ys,hy,hY⟩:=N6.wk.hwy.2.2.2 _ b hb
      have hwy6:=N6.wk.hwy.1
      have ex : ((x.toNat : Nat) : Int) = x:=Int.toNat_of_nonneg x0
      dsimp only at hY
      rw [ex] at hY
      have i2 : atI (bs.map V.ref) x = some (.ref b):=by
       have:=J0z (xs:=bs.map V.ref) (j:=x.toNat) (v:=.ref b) (by rw [List.getElem?_map,hb]; rfl)
       rwa [ex] at this
      walk_at "rd"
      refine J2c (K:=K) (xs:=ys) (fun i σ H7=>Here (∃ v5 v6 v7 v8 W S kvs ks,σ = [some (.ref p),some (.ref fa),some (.ref st),some (.ref wt),some (.int x),v5,v6,v7,v8] ∧ H7 b = some (.lst ys) ∧ All2 TpV H7 ((wayT as as.length x).map wyV) ys ∧
       NL Je J8 J4 H H7 p n al pr fl sr wy fa st wt bs m xs as ps fs sp F1 W S kvs ks (fun u v e sg=>u = x ∧ (e,v,sg) ∈ (wayT as as.length x).drop i)))
       (Here.mk ⟨_,_,_,_,_,S,kvs,ks,rfl,hy,hY,{ N6 with dj:=N6.dj.skip fun r hr v e sg he hn ht=>?_ }⟩) (fun i σ H7 _ hv=>by obtain ⟨_,_,_,_,_,_,_,_,_,h,_⟩:=hv.out; exact SqL.of h) ?_ ?_
      ·have ht' : r.1 = x:=ht
       refine absurd ⟨ht',?_⟩ hn
       obtain ⟨a,f',ha,_,_,hs⟩:=he
       rw [ht'] at hs
       rw [List.drop_zero]
       exact J9K ha hs
      ·rintro i y σ H7 hyi hv
       obtain ⟨v5,v6,v7,v8,W7,S7,kvs7,ks7,rfl,hb7,hY7,N7⟩:=hv.out
       obtain ⟨wv,hwv,t,rfl,ht⟩:=hY7.back hyi
       obtain ⟨⟨e,v,sg⟩,hev,rfl⟩ : ∃ r,(wayT as as.length x)[i]? = some r ∧ wv = wyV r:=by
        rw [List.getElem?_map] at hwv
        cases h : (wayT as as.length x)[i]? with
        | none=>rw [h] at hwv; cases hwv
        | some r=>rw [h] at hwv; exact ⟨r,rfl,(Option.some.inj hwv).symm⟩
       have ht' : H7 t = some (.tup [.int (e : Int),.int v,.int sg]):=ht
       have hdr : (wayT as as.length x).drop i = (e,v,sg) :: (wayT as as.length x).drop (i + 1):=by
        obtain ⟨h1,h2⟩:=List.getElem?_eq_some_iff.mp hev
        rw [List.drop_eq_getElem_cons h1,h2]
       obtain ⟨a,ha,hsg⟩:=JbK (List.mem_of_getElem? hev)
       have ha' : as[e]? = some a:=ha
       have hel : e < as.length:=(List.getElem?_eq_some_iff.mp ha').1
       obtain ⟨f',hf'⟩ : ∃ f',fs[e]? = some f':=⟨_,List.getElem?_eq_getElem (by omega)⟩
       have hok7:=hok a (List.mem_of_getElem? ha')
       obtain ⟨a0,a1,a2,a3,_⟩:=hok7
       have hv01 : 0 ≤ v ∧ v < (m : Int):=by
        rcases hsg with ⟨_,_,h⟩ | ⟨_,_,h⟩
        ·have h' : a.g = v:=h
         omega
        ·have h' : a.s = v:=h
         omega
       have sk : (Edge as fs x v e sg → ∃ d,((v,d) ∈ F1 ∨ (v,d) ∈ W7) ∧ d ≤ z + lenF as ps e sg) → NL Je J8 J4 H H7 p n al pr fl sr wy fa st wt bs m xs as ps fs sp F1 W7 S7 kvs7 ks7 (fun u v e sg=>u = x ∧ (e,v,sg) ∈ (wayT as as.length x).drop (i + 1)):=by
        intro hsk
        refine N7.redo (N7.dj.skip fun r hr' v' e' sg' he hn ht=>?_)
        obtain ⟨ht1,ht2⟩:=ht
        have hr2 : r.2 = z:=J1H N7.dj.nodF (show (x,r.2) ∈ F1 by rw [← ht1]; exact hr') hzF
        rw [hdr] at ht2
        rcases List.mem_cons.mp ht2 with h | h
        ·cases h
         rw [hr2]
         rw [ht1] at he
         exact hsk he
        ·exact absurd ⟨ht1,h⟩ hn
       have dgx : DGet H7 fa (.int x) (some (.int z)):=by
        rw [← J1b N7.dj.nodF hzF]
        exact DGet.k (k:=.inl x) N7.gf
       have dgF : DGet H7 fa (.int v) (valV (tabV F1) (.inl v)):=DGet.k (k:=.inl v) N7.gf
       have dgW : DGet H7 wt (.int v) (valV (tabV W7) (.inl v)):=DGet.k (k:=.inl v) N7.gw
       by_cases hvF : ∃ d,(v,d) ∈ F1
       ·obtain ⟨d,hd⟩:=hvF
        rw [J1b N7.dj.nodF hd] at dgF
        walk_at "rd"
        exact Here.mk ⟨_,_,_,_,_,_,_,_,rfl,hb7,hY7,sk fun he=>⟨d,.inl hd,by have h1:=he.len hRP; have h2:=ord _ hd; dsimp only at h2; omega⟩⟩
       ·rw [J1G fun r hr e'=>hvF ⟨r.2,by rw [← e']; exact hr⟩] at dgF
        obtain ⟨dx7,hp7⟩:=N7.wk.hp
        obtain ⟨dn7,hn7⟩:=N7.wk.hn
        have hal7:=N7.wk.ha
        have hN7 : NetA Je H7 n m xs as:=⟨al,⟨dn7,hn7⟩,hal7,N7.wk.hA⟩
        have hfl7:=N7.wk.hfl
        have hpr7:=N7.wk.hpr
        walk_at "rd"
        refine ite2 (fun c=>?_) (fun c=>?_)
        ·have hrm : 0 < rmF a f' sg:=of_decide_eq_true c
         have hE : Edge as fs x v e sg:=⟨a,f',ha',hf',hrm,hsg⟩
         obtain ⟨yv,hyv,ta,rfl,hta⟩:=N7.wk.hA.get ha'
         have i3:=J0z hyv
         have hokp : ArOk ps.length a:=by
          rw [hps]
          exact hok a (List.mem_of_getElem? ha')
         have hsg1 : -1 ≤ sg ∧ sg ≤ 1:=by
          rcases hsg with ⟨h,_⟩ | ⟨h,_⟩
          ·have h' : sg = 1:=h
           omega
          ·have h' : sg = -1:=h
           omega
         obtain ⟨sg0,sg1⟩:=hsg1
         have el : sg * wtF ps a = lenF as ps e sg:=by
          unfold lenF
          rw [J0x ha']
         have l7:=N7.len
         have dp1 : DPut H7 wt (.int v) (.int (z + sg * wtF ps a)) (upd H7 wt (.dK (putK (tabV W7) (.inl v) (.int (z + sg * wtF ps a))))):=DPut.k (k:=.inl v) N7.gw (J2R (by rw [J1C]; omega))
         have fin : (∀ r ∈ W7,r.1 = v → z + lenF as ps e sg < r.2) → ∀ t2,upd H7 wt (.dK (putK (tabV W7) (.inl v) (.int (z + sg * wtF ps a)))) t2 = none → ∀ v5 v6 v7 v8,Here (∃ v5' v6' v7' v8' W S kvs ks,[some (V.ref p),some (.ref fa),some (.ref st),some (.ref wt),some (.int x),v5,v6,v7,v8] = [some (V.ref p),some (.ref fa),some (.ref st),some (.ref wt),some (.int x),v5',v6',v7',v8'] ∧
           upd (upd (upd H7 wt (.dK (putK (tabV W7) (.inl v) (.int (z + sg * wtF ps a))))) t2 (.tup [.int (e : Int),.int x,.int sg])) st (.dK (putK kvs7 (.inl v) (.ref t2))) b = some (.lst ys) ∧
           All2 TpV (upd (upd (upd H7 wt (.dK (putK (tabV W7) (.inl v) (.int (z + sg * wtF ps a))))) t2 (.tup [.int (e : Int),.int x,.int sg])) st (.dK (putK kvs7 (.inl v) (.ref t2)))) ((wayT as as.length x).map wyV) ys ∧
           NL Je J8 J4 H (upd (upd (upd H7 wt (.dK (putK (tabV W7) (.inl v) (.int (z + sg * wtF ps a))))) t2 (.tup [.int (e : Int),.int x,.int sg])) st (.dK (putK kvs7 (.inl v) (.ref t2)))) p n al pr fl sr wy fa st wt bs m xs as ps fs sp F1 W S kvs ks (fun u v e sg=>u = x ∧ (e,v,sg) ∈ (wayT as as.length x).drop (i + 1))):=by
          intro hlt t2 nt2 v5 v6 v7 v8
          rw [el] at nt2 ⊢
          have N8:=N7.put nwf nws nfs (x:=x) (sg:=sg) nt2 hv01 (N7.dj.put hRP hzF ord hE hv01.1 hv01.2 (fun r hr e'=>hvF ⟨r.2,by rw [← e']; exact hr⟩) hlt (fun r=>J96 r) (J9s N7.dj.nodW v _) (td':=fun u v e sg=>u = x ∧ (e,v,sg) ∈ (wayT as as.length x).drop (i + 1)) (fun r hr v' e' sg' h1 h2=>by
           obtain ⟨h3,h4⟩:=h1
           rw [hdr] at h4
           rcases List.mem_cons.mp h4 with h | h
           ·cases h
            exact ⟨h3,rfl,rfl,rfl⟩
           ·exact absurd ⟨h3,h⟩ h2))
          have nb1 : b ≠ wt:=J0b hb7 N7.gw (by intro z; cases z)
          have nb2 : b ≠ st:=J0b hb7 N7.gs (by intro z; cases z)
          have nb3 : b ≠ t2:=fun z'=>by
           rw [← z',J7 nb1,hb7] at nt2
           cases nt2
          refine Here.mk ⟨_,_,_,_,_,_,_,_,rfl,?_,hY7.imp fun u y hy=>?_,N8⟩
          ·rw [J7 nb2,J7 nb3,J7 nb1]
           exact hb7
          ·obtain ⟨t',rfl,ht3⟩:=hy
           refine ⟨t',rfl,?_⟩
           have n1 : t' ≠ wt:=J0b ht3 N7.gw (by intro z; cases z)
           have n2 : t' ≠ st:=J0b ht3 N7.gs (by intro z; cases z)
           have n3 : t' ≠ t2:=fun z'=>by
            rw [← z',J7 n1,ht3] at nt2
            cases nt2
           rw [J7 n2,J7 n3,J7 n1]
           exact ht3
         have dp2 : ∀ t2,upd H7 wt (.dK (putK (tabV W7) (.inl v) (.int (z + sg * wtF ps a)))) t2 = none → DPut (upd (upd H7 wt (.dK (putK (tabV W7) (.inl v) (.int (z + sg * wtF ps a))))) t2 (.tup [.int (e : Int),.int x,.int sg])) st (.int v) (.ref t2) (upd (upd (upd H7 wt (.dK (putK (tabV W7) (.inl v) (.int (z + sg * wtF ps a))))) t2 (.tup [.int (e : Int),.int x,.int sg])) st (.dK (putK kvs7 (.inl v) (.ref t2)))):=fun t2 nt2=>by
          have h1 : upd H7 wt (.dK (putK (tabV W7) (.inl v) (.int (z + sg * wtF ps a)))) st = some (.dK kvs7):=by rw [J7 nws.symm]; exact N7.gs
          exact DPut.k (k:=.inl v) (JK nt2 _ _ _ h1) (J2R (by omega))
         by_cases hvW : ∃ d,(v,d) ∈ W7
         ·obtain ⟨dw,hdw⟩:=hvW
          rw [J1b N7.dj.nodW hdw] at dgW
          walk_at "rd"
          refine ite2 (fun c2=>?_) (fun c2=>?_)
          ·have c3 : z + lenF as ps e sg < dw:=by
            rw [← el]
            exact of_decide_eq_true c2
           walk_at "rd"
           intro t2 nt2
           exact ⟨_,rfl,_,rfl,st,_,rfl,dp2 t2 nt2,fin (fun r hr' e'=>by
            have : r.2 = dw:=J1H N7.dj.nodW (show (v,r.2) ∈ W7 by rw [← e']; exact hr') hdw
            rw [this]
            exact c3) t2 nt2 _ _ _ _⟩
          ·have c3 : ¬ z + lenF as ps e sg < dw:=by
            rw [← el]
            exact fun y=>c2 (decide_eq_true y)
           walk_at "rd"
           exact Here.mk ⟨_,_,_,_,_,_,_,_,rfl,hb7,hY7,sk fun _=>⟨dw,.inr hdw,Int.not_lt.mp c3⟩⟩
         ·rw [J1G fun r hr e'=>hvW ⟨r.2,by rw [← e']; exact hr⟩] at dgW
          walk_at "rd"
          intro t2 nt2
          exact ⟨_,rfl,_,rfl,st,_,rfl,dp2 t2 nt2,fin (fun r hr' e'=>absurd ⟨r.2,by rw [← e']; exact hr'⟩ hvW) t2 nt2 _ _ _ _⟩
        ·walk_at "rd"
         refine Here.mk ⟨_,_,_,_,_,_,_,_,rfl,hb7,hY7,sk fun he=>?_⟩
         obtain ⟨a',f2,h1,h2,h3,_⟩:=he
         rw [ha'] at h1
         cases h1
         rw [hf'] at h2
         cases h2
         exact absurd (decide_eq_true h3) c
      ·rintro σ H7 hv
       obtain ⟨v5,v6,v7,v8,W7,S7,kvs7,ks7,rfl,hb7,hY7,N7⟩:=hv.out
       have hyl : ys.length = (wayT as as.length x).length:=by rw [hY7.len,List.length_map]
       have etd : (fun (u v : Int) (e : Nat) (sg : Int)=>u = x ∧ (e,v,sg) ∈ (wayT as as.length x).drop ys.length) = fun _ _ _ _=>False:=by
        funext u v e sg
        rw [hyl,List.drop_length]
        exact propext ⟨fun h=>(nomatch h.2),fun h=>h.elim⟩
       rw [etd] at N7
       have l7:=N7.len
       show Here _ ∧ m - lenD H7 fa < m - lenD H3 fa
       refine ⟨Here.mk ⟨_,_,_,_,_,F1,W7,S7,kvs7,ks7,rfl,N7,hF6⟩,?_⟩
       rw [lF6,J76 N7.gf,J1C]
       omega
   ·obtain ⟨v,e,k',t1,t2⟩:=h
    exact ⟨v,e,k',t1,k _ _ t2⟩
end
noncomputable def rmP (as : List Ar) (fs : List Int) (r : Stp1) : Int:=rmF (as.getD r.1 arD) (fs.getD r.1 0) r.2.2
theorem J93 {as : List Ar} {fs ps : List Int} {F : Tab} {S : Stps} {i : Nat} {pt : List Stp1} {k : Nat} (w : Way as fs ps F S i pt k) : ∀ r ∈ pt,∃ a f,as[r.1]? = some a ∧ fs[r.1]? = some f ∧ -1 ≤ r.2.2 ∧ r.2.2 ≤ 1:=by
 induction w with
 | nil=>exact fun r h=>nomatch h
 | snoc w hj hs hk hkj he hd ih =>
  intro r hr
  rcases List.mem_append.mp hr with h | h
  ·exact ih r h
  ·rw [List.mem_singleton.mp h]
   obtain ⟨a,f,ha,hf,_,hs⟩:=he
   refine ⟨a,f,ha,hf,?_⟩
   rcases hs with ⟨h,_⟩ | ⟨h,_⟩
   ·dsimp only
    omega
   ·dsimp only
    omega
noncomputable def J9w (C CW : Addr) : Sp:=fun vs H Q _=>∃ (p n al pr fl sr wy st : Addr) (bs : List Addr) (m : Nat) (xs : List V) (as : List Ar) (ps' ps fs sp : List Int) (F W : Tab) (S : Stps) (kvs : List (Key × V)) (td : Int → Int → Nat → Int → Prop) (i : Nat) (t dt : Int),vs = [.ref p,.ref st,.int t] ∧ Wk C CW H p n al pr fl sr wy bs m xs as ps' fs sp ∧ H st = some (.dK kvs) ∧ StpT H kvs S ∧ DJ m as fs ps sp F W S td ∧ F[i]? = some (t,dt) ∧
 fs.length = as.length ∧ sp.length = m ∧ m ≤ 100 ∧ as.length ≤ 500 ∧ (∀ a ∈ as,ArOk m a) ∧ True ∧
 ∀ (H' : Hp) (pt : List Stp1) (k : Nat) (y dy many : Int),(∀ a o,a ≠ fl → a ≠ sr → H a = some o → H' a = some o) → Way as fs ps F S i pt k → F[k]? = some (y,dy) → S y = none → 0 < J6 sp y → (many = J6 sp y ∨ many = - J6 sp t ∨ ∃ st ∈ pt,∃ a f,as[st.1]? = some a ∧ fs[st.1]? = some f ∧ many = rmF a f st.2.2) →
  many ≤ J6 sp y → many ≤ - J6 sp t → (∀ st ∈ pt,∀ a f,as[st.1]? = some a → fs[st.1]? = some f → many ≤ rmF a f st.2.2) → Wk C CW H' p n al pr fl sr wy bs m xs as ps' (JT pt many fs) (J1h sp y t many) → Q .non H'
section
variable {P : Program} {w : World} {K : PySem.W.Frag} {mg : Str → Option Value} {base : Heap} {Je J8 J4 : Addr}
local macro_rules | `(tactic| walk_at "lk")=>`(tactic| first | exact J0Z _ _ | exact J0Y _ _ | exact J2T _ _ _ _ _ | exact J1c _ _ _ _ _ | exact J1D _ _ _ _ _ | exact J1I _ _ _ _ _ | exact J2h _ _ _ _ _)
theorem Jb8 (tx : Tx K mg Je J8 J4) : FnG P w K mg base "push" 2 ["work","steps","node"] (J9w Je J8):=by
 have J3t:=J8g (P:=P) (w:=w) (base:=base) tx
 refine tx.JaS.g J16 (fun _ _ _ _ _ _ us hl=>match us,hl with | [_,_,_],_=>rfl) (fun vs H Q E h=>?_) (fun f cdv A outer s H vs Q E hr h=>?_)
 ·obtain ⟨p,n,al,pr,fl,sr,wy,st,bs,m,xs,as,ps',ps,fs,sp,F,W,S,kvs,td,i,t,dt,rfl,_⟩:=h
  rfl
 ·obtain ⟨p,n,al,pr,fl,sr,wy,st,bs,m,xs,as,ps',ps,fs,sp,F,W,S,kvs,td,i,t,dt,rfl,hW,hst,hS,hDJ,hi,hfs,hsp,hm,hal,hok,_,q⟩:=h
  refine ⟨_,(J5 (Jo (i:=3) J16.nd rfl (Or.inl rfl) (J1l J9))
   (J5 (Jo (i:=4) J16.nd rfl (Or.inl rfl) (pv 2))
   (J5 (J3J PassesOwn.never (J4S (JbZ (J1p hr) (pv 4) (pv 1)) rfl) (J5 (J0K (J33 PySem.F.plainAttrs_list PySem.F.slot_list_append PySem.F.type_list_append J0p (pv 3) (J0 (J2G (J1p hr) (pv 1) (pv 4) (fun _ _=>rfl)) J9)))
   (Jd (Jo (i:=4) J16.nd rfl (Or.inl rfl) (Jg (Ji (K:=K) rfl) (J2G (J1p hr) (pv 1) (pv 4) (fun _ _=>rfl)) J2 (fun _ _=>rfl))))))
   (J5 (J3e (k:=5) (osc:=J3 J1t) (ON:=["work","steps","node","path","start","rooms","many","number","before","sign"]) (N:=["number","before","sign","work"]) (js:=[none,none,none,some 0]) J16.nd rfl (Or.inl rfl) ⟨rfl,by decide +kernel,by decide +kernel,by decide +kernel,rfl,by decide +kernel⟩ rfl rfl rfl (JS (K:=K) rfl (pv 3)) (fun _ _ _ _ _=>J78 (K:=K) (n:=3) rfl rfl (Jx (Jn (i:=0) (show List.Nodup (["number","before","sign","work"] : List Str) from by decide +kernel) rfl (Or.inl rfl)) (Jx (Jn (i:=1) (show List.Nodup (["number","before","sign","work"] : List Str) from by decide +kernel) rfl (Or.inl rfl)) (Jx (Jn (i:=2) (show List.Nodup (["number","before","sign","work"] : List Str) from by decide +kernel) rfl (Or.inl rfl)) J19)))) (fun _ _ _ _ _=>J0w) (fun _ _ _ _ _=>(JL J3t (hr.mono (by decide)) (J0 (pv 3) (J0 (pv 0) (J0 (pv 2) J9))))))
   (J5 (Jo (i:=6) J16.nd rfl (Or.inl rfl) (Jp (J87 (K:=K) rfl rfl) rfl tx.J45 J6l (J0 (Jj Jc1 (J1l (J0 (Jg (Jk (K:=K) rfl) (Jq (K:=K) rfl (pv 0) rfl) (pv 4) (fun _ _=>rfl)) (J0 (J4n J2S (Jg (Jk (K:=K) rfl) (Jq (K:=K) rfl (pv 0) rfl) (pv 2) (fun _ _=>rfl))) J9))) (pv 5)) J9)))
   (J5 (J0L PassesOwn.never rfl (JS (K:=K) rfl (pv 3)) (J28 rfl (Jx (Jn (i:=7) J16.nd rfl (Or.inl rfl)) (Jx (Jn (i:=8) J16.nd rfl (Or.inl rfl)) (Jx (Jn (i:=9) J16.nd rfl (Or.inl rfl)) J19)))) (Jd (J2i (Jq (K:=K) rfl (pv 0) rfl) (pv 7) (J1d (K:=K) rfl) (Jj J1y (pv 9) (pv 6)) J3O J0u)))
   (J5 (J2i (Jq (K:=K) rfl (pv 0) rfl) (pv 4) (J1d (K:=K) rfl) (pv 6) J9e J0u)
   (Jd (J2i (Jq (K:=K) rfl (pv 0) rfl) (pv 2) (J1d (K:=K) rfl) (pv 6) J3O J0u))))))))),?_⟩
  walk_at "st"
  clear J3t
  have cW:=tx.J0S.cl
  have cN:=tx.J11.cl
  have w1:=tx.J0e
  have w2:=tx.JX
  walk_at "rd"
  intro pa npa
  obtain ⟨H1,e1,g1,s1⟩:=newl (xs:=[]) npa
  rw [← e1]
  walk_at "rd"
  dsimp only
  refine J2q ?_
  have hFl : F.length ≤ m:=by
   have:=J4X hDJ.nodF fun x hx=>by
    obtain ⟨r,hr,rfl⟩:=List.mem_map.mp hx
    exact hDJ.rng r (.inl hr)
   rwa [List.length_map] at this
  have hil : i < F.length:=(List.getElem?_eq_some_iff.mp hi).1
  refine ⟨fun k σ H2=>Here (∃ (pt : List Stp1) (zs : List V) (y dy : Int),σ = [some (.ref p),some (.ref st),some (.int t),some (.ref pa),some (.int y),none,none,none,none,none] ∧ H2 pa = some (.lst zs) ∧ All2 TpV H2 (pt.map wyV) zs ∧ pt.length + k ≤ i ∧ Way as fs ps F S i pt k ∧ F[k]? = some (y,dy) ∧ Same H H2),⟨i,Here.mk ⟨[],[],t,dt,rfl,g1,trivial,by simp,.nil,hi,s1⟩⟩,?_⟩
  rintro k σ H2 hv
  obtain ⟨pt,zs,y,dy,rfl,hpa,hZ,hpl,hway,hk,s2⟩:=hv.out
  have hst2:=s2 _ _ hst
  have dg : DGet H2 st (.int y) (valV kvs (.inl y)):=DGet.k (k:=.inl y) hst2
  have hzl : zs.length = pt.length:=by rw [hZ.len,List.length_map]
  rcases hS y with ⟨h1,h2⟩ | ⟨e,u,sg,tt,h1,h2,h3⟩
  ·rw [h2] at dg
   refine ⟨_,rfl,_,rfl,_,_,rfl,dg,_,rfl,?_⟩
   refine iteF ?_
   have hpos : 0 < J6 sp y:=by
    rcases hDJ.back hk with ⟨_,h⟩ | ⟨_,_,_,_,_,b1,_⟩
    ·exact h
    ·rw [h1] at b1
     cases b1
   obtain ⟨y0,y1⟩:=hDJ.rng _ (.inl (List.mem_of_getElem? hk))
   obtain ⟨t0,t1⟩:=hDJ.rng _ (.inl (List.mem_of_getElem? hi))
   dsimp only at y0 y1 t0 t1
   have hed:=J93 hway
   have W2:=hW.same s2
   obtain ⟨dx2,hp2⟩:=W2.hp
   obtain ⟨dn2,hn2⟩:=W2.hn
   have hN2 : NetA Je H2 n m xs as:=⟨al,⟨dn2,hn2⟩,W2.ha,W2.hA⟩
   have hfl2:=W2.hfl
   have hsr2:=W2.hsr
   walk_at "rd"
   refine JI pt (fun _=>true) (fun r y _=>y = V.int (rmP as fs r)) (fun σ=>∃ v1 v2 v3,σ = [v1,v2,v3,some (.ref p)]) (J04 (SqL.of hpa)) hzl (by omega) ⟨_,_,_,rfl⟩ (fun _ _ _ _ _ z=>z) (fun j r v σ H' hj hv' hσ s' Rf Rt _ hR=>?_) (fun ro H3 ys nro s3 hys hro=>?_)
   ·obtain ⟨v1,v2,v3,rfl⟩:=hσ
    obtain ⟨yv,hyv,tt,rfl,htt⟩:=hZ.get (show (pt.map wyV)[j]? = some (wyV r) by rw [List.getElem?_map,hj]; rfl)
    rw [hv'] at hyv
    cases hyv
    obtain ⟨a,f',ha,hf,_⟩:=hed r (List.mem_of_getElem? hj)
    have htt' : H' tt = some (.tup [.int (r.1 : Int),.int r.2.1,.int r.2.2]):=s' _ _ htt
    have hp3:=s' _ _ hp2
    have hN3:=hN2.same s'
    have hfl3:=s' _ _ hfl2
    walk_at "rd"
    refine hR _ _ _ rfl ⟨_,_,_,rfl⟩ (Same.refl _) ?_
    unfold rmP
    rw [J0x ha,List.getD_eq_getElem?_getD,hf]
    rfl
   ·rw [J4H hys] at hro
    have s23:=s2.trans s3
    have W3:=hW.same s23
    obtain ⟨dx3,hp3⟩:=W3.hp
    have hsr3:=W3.hsr
    have i1:=Jt (ns:=sp) y0 (by omega)
    have i2:=Jt (ns:=sp) t0 (by omega)
    have hpa3:=s3 _ _ hpa
    walk_at "rd"
    intro l1 nl1
    obtain ⟨H4,e4,g4,s4⟩:=newl (xs:=[V.int (J6 sp y),V.int (-J6 sp t)]) nl1
    have e4' : H4 = upd H3 l1 (.lst [V.int (J6 sp y),(fun i=>V.int (-i)) (J6 sp t)]):=e4
    rw [← e4']
    have hro4:=s4 _ _ hro
    have hl9 : [V.int (J6 sp y),V.int (-J6 sp t)].length + (List.map V.int (pt.map (rmP as fs))).length ≤ sizeLine:=J6q (by simp only [List.length_cons,List.length_nil,List.length_map]; omega)
    walk_at "rd"
    intro l2 nl2
    obtain ⟨H5,e5,g5,s5⟩:=newl (xs:=[V.int (J6 sp y),V.int (-J6 sp t)] ++ List.map V.int (pt.map (rmP as fs))) nl2
    rw [← e5]
    refine ⟨l2,J6 sp y :: -J6 sp t :: pt.map (rmP as fs),rfl,SqL.of g5,by simp,fun M hM hmin=>?_⟩
    have s45:=s4.trans s5
    have S5:=s23.trans s45
    have W5:=hW.same S5
    have hpa5:=s45 _ _ hpa3
    have hZ5 : All2 TpV H5 (pt.map wyV) zs:=hZ.imp fun a y=>TpV.keeps a y _ _ (s3.trans s45).keeps
    walk_at "rd"
    refine J2c (K:=K) (xs:=zs) (fun j σ H6=>Here (∃ v7 v8 v9,σ = [some (.ref p),some (.ref st),some (.int t),some (.ref pa),some (.int y),some (.ref ro),some (.int M),v7,v8,v9] ∧ (∀ a o,a ≠ fl → H5 a = some o → H6 a = some o) ∧ Wk Je J8 H6 p n al pr fl sr wy bs m xs as ps' (JT (pt.take j) M fs) sp)) (Here.mk ⟨_,_,_,rfl,fun a o _ h=>h,W5⟩) (fun j σ H6 _ hv=>?_) ?_ ?_
    ·obtain ⟨_,_,_,_,h,_⟩:=hv.out
     exact SqL.of (h _ _ (fun z=>by rw [z] at npa; rw [hW.hfl] at npa; cases npa) hpa5)
    ·rintro j yv σ H6 hyj hv
     obtain ⟨v7,v8,v9,rfl,fr6,W6⟩:=hv.out
     obtain ⟨wv,hwv,tt,rfl,htt⟩:=hZ5.back hyj
     obtain ⟨r,hrj,rfl⟩ : ∃ r,pt[j]? = some r ∧ wv = wyV r:=by
      rw [List.getElem?_map] at hwv
      cases h : pt[j]? with
      | none=>rw [h] at hwv; cases hwv
      | some r=>rw [h] at hwv; exact ⟨r,rfl,(Option.some.inj hwv).symm⟩
     obtain ⟨a,f',ha,hf,sg0,sg1⟩:=hed r (List.mem_of_getElem? hrj)
     have htt' : H6 tt = some (.tup [.int (r.1 : Int),.int r.2.1,.int r.2.2]):=fr6 _ _ (J0b htt W5.hfl (by intro z; cases z)) htt
     have hlp:=J2m M (pt.take j) fs
     have hel : r.1 < fs.length:=(List.getElem?_eq_some_iff.mp hf).1
     have est : JT (pt.take (j + 1)) M fs = (JT (pt.take j) M fs).set r.1 ((JT (pt.take j) M fs).getD r.1 0 + r.2.2 * M):=by
      rw [List.take_add_one,hrj,Option.toList_some,J2w]
     generalize JT (pt.take j) M fs = L at W6 hlp est
     obtain ⟨dx6,hp6⟩:=W6.hp
     have hfl6:=W6.hfl
     have i3 : atI (L.map V.int) (r.1 : Int) = some (.int (L.getD r.1 0)):=J0z (by rw [List.getElem?_map,List.getD_eq_getElem?_getD,List.getElem?_eq_getElem (by omega)]; rfl)
     have i4 : ixN (L.map V.int).length (r.1 : Int) = some r.1:=by
      have:=J1W (n:=(L.map V.int).length) (k:=(r.1 : Int)) (by omega) (by rw [List.length_map]; omega)
      rwa [Int.toNat_natCast] at this
     walk_at "rd"
     have e7 : (L.map V.int).set r.1 (V.int (L.getD r.1 0 + r.2.2 * M)) = (JT (pt.take (j + 1)) M fs).map V.int:=by rw [J0j,est]
     show Here _
     refine Here.mk ⟨_,_,_,rfl,fun a o n1 h=>?_,?_⟩
     ·rw [J7 n1]
      exact fr6 a o n1 h
     ·show Wk Je J8 (upd H6 fl (.lst ((L.map V.int).set r.1 (V.int (L.getD r.1 0 + r.2.2 * M))))) p n al pr fl sr wy bs m xs as ps' (JT (pt.take (j + 1)) M fs) sp
      rw [e7]
      exact W6.setf _
    ·rintro σ H6 hv
     obtain ⟨v7,v8,v9,rfl,fr6,W6⟩:=hv.out
     rw [List.take_of_length_le (by omega)] at W6
     obtain ⟨dx6,hp6⟩:=W6.hp
     have hsr6:=W6.hsr
     have j1 : ixN (sp.map V.int).length y = some y.toNat:=J1W y0 (by rw [List.length_map]; omega)
     have i6 : atI ((sp.map V.int).set y.toNat (.int (J6 sp y - M))) t = some (.int (J6 (sp.set y.toNat (J6 sp y - M)) t)):=by
      rw [J0j]
      exact Jt t0 (by rw [List.length_set]; omega)
     have j2 : ixN ((sp.map V.int).set y.toNat (.int (J6 sp y - M))).length t = some t.toNat:=J1W t0 (by rw [List.length_set,List.length_map]; omega)
     have nps : p ≠ sr:=J0b hp6 hsr6 (by intro z; cases z)
     have hp7 : upd H6 sr (.lst ((sp.map V.int).set y.toNat (.int (J6 sp y - M)))) p = some (.ins J8 dx6 (fW (.ref n) (.ref pr) (.ref fl) (.ref sr) (.ref wy))):=(J7 nps).trans hp6
     walk_at "rd"
     have e8 : ((sp.map V.int).set y.toNat (V.int (J6 sp y - M))).set t.toNat (V.int (J6 (sp.set y.toNat (J6 sp y - M)) t + M)) = (J1h sp y t M).map V.int:=by
      rw [J0j,J0j]
      rfl
     have mem1:=hmin _ (List.mem_cons_self ..)
     have mem2:=hmin _ (List.mem_cons_of_mem _ (List.mem_cons_self ..))
     refine q _ pt k y dy M (fun a o n1 n2 h=>?_) hway hk h1 hpos ?_ mem1 mem2 (fun r hr' a f' ha hf=>?_) ?_
     ·rw [J7 n2,J7 n2]
      exact fr6 a o n1 (S5 a o h)
     ·rcases List.mem_cons.mp hM with h | h
      ·exact .inl h
      ·rcases List.mem_cons.mp h with h | h
       ·exact .inr (.inl h)
       ·obtain ⟨r,hr',e⟩:=List.mem_map.mp h
        obtain ⟨a,f',ha,hf,_⟩:=hed r hr'
        refine .inr (.inr ⟨r,hr',a,f',ha,hf,?_⟩)
        rw [← e]
        unfold rmP
        rw [J0x ha,List.getD_eq_getElem?_getD,hf]
        rfl
     ·have:=hmin _ (List.mem_cons_of_mem _ (List.mem_cons_of_mem _ (List.mem_map.mpr ⟨r,hr',rfl⟩)))
      unfold rmP at this
      rw [J0x ha,List.getD_eq_getElem?_getD,hf] at this
      exact this
     ·show Wk Je J8 (upd (upd H6 sr (.lst ((sp.map V.int).set y.toNat (V.int (J6 sp y - M))))) sr (.lst (((sp.map V.int).set y.toNat (V.int (J6 sp y - M))).set t.toNat (V.int (J6 (sp.set y.toNat (J6 sp y - M)) t + M))))) p n al pr fl sr wy bs m xs as ps' (JT pt M fs) (J1h sp y t M)
      rw [e8,J0j]
      exact (W6.sets _).sets _
  ·rw [h2] at dg
   refine ⟨_,rfl,_,rfl,_,_,rfl,dg,_,rfl,?_⟩
   refine iteT ?_
   rcases hDJ.back hk with ⟨n1,_⟩ | ⟨e',u',sg',k',du,b1,b2,b3,b4,b5⟩
   ·rw [h1] at n1
    cases n1
   ·rw [h1] at b1
    cases b1
    refine ⟨_,fun σ' H' h=>h,?_⟩
    have h3':=s2 _ _ h3
    have sm : Same H (upd H2 pa (.lst (zs ++ [.ref tt]))):=s2.upd npa
    have dg' : DGet (upd H2 pa (.lst (zs ++ [.ref tt]))) st (.int y) (some (.ref tt)):=by
     rw [← h2]
     exact DGet.k (k:=.inl y) (sm _ _ hst)
    have h3'':=sm _ _ h3
    have zl9 : zs.length ≤ 1000:=by omega
    walk_at "rd"
    refine Here.mk ⟨pt ++ [(e,u,sg)],zs ++ [.ref tt],u,du,rfl,Jc,?_,?_,.snoc hway hk h1 b3 b2 b4 b5,b3,sm⟩
    ·rw [List.map_append]
     exact All2.snoc (hZ.imp fun a y=>TpV.keeps a y _ _ (J1N hpa)) ⟨tt,rfl,h3''⟩
    ·rw [List.length_append,List.length_singleton]
     omega
end
theorem J8H {as : List Ar} {m : Nat} (h : ∀ a ∈ as,a.l ≤ a.m) : RP as (as.map f0) (List.replicate m 0):=by
 intro e a f ha hf
 rw [List.getElem?_map,ha] at hf
 have hf' : f0 a = f:=Option.some.inj hf
 subst hf'
 have hl:=h a (List.mem_of_getElem? ha)
 have hw : wtF (List.replicate m 0) a = a.c:=by
  unfold wtF
  rw [J3Q,J3Q]
  omega
 rw [hw]
 unfold f0
 split
 ·omega
 ·omega
theorem J2f : ∀ X : List Int,(X.map fun _=>(0 : Int)).sum = 0
 | []=>rfl
 | _ :: X=>by rw [List.map_cons,List.sum_cons,J2f X]; rfl
theorem J8y {n : Nat} {as : List Ar} {fs : List Int} (ha : ∀ a ∈ as,ArOk n a) (h : ((spF n (fs.zip as)).any nzB) = true) : ∃ x : Int,0 ≤ x ∧ x < (n : Int) ∧ 0 < J6 (spF n (fs.zip as)) x:=by
 refine Classical.byContradiction fun no=>?_
 have le : ∀ x : Int,0 ≤ x → x < (n : Int) → balF (fs.zip as) x ≤ 0:=fun x h0 h1=>by
  rw [← J1V h0 ha]
  exact Int.not_lt.mp fun z=>no ⟨x,h0,h1,z⟩
 obtain ⟨v,hv,hnz⟩:=List.any_eq_true.mp h
 obtain ⟨i,hi⟩:=List.getElem?_of_mem hv
 have hil : i < n:=by
  have:=(List.getElem?_eq_some_iff.mp hi).1
  rwa [J17] at this
 have hc : J6 (spF n (fs.zip as)) (i : Int) = v:=by
  unfold J6
  rw [List.getD_eq_getElem?_getD,Int.toNat_natCast,hi]
  rfl
 have hb:=J1V (fs:=fs) (z:=(i : Int)) (by omega) ha
 rw [hc] at hb
 have hv0 : v ≠ 0:=by
  unfold nzB at hnz
  exact bne_iff_ne.mp hnz
 have hlt:=le (i : Int) (by omega) (by omega)
 have hX : ((List.range n).map fun (i : Nat)=>(i : Int)).Nodup:=by
  refine List.Pairwise.map (R:=fun a b=>a ≠ b) _ (fun a b ne z=>?_) List.nodup_range
  have z' : (a : Int) = (b : Int):=z
  exact ne (by omega)
 have memX : ∀ x : Int,0 ≤ x → x < (n : Int) → x ∈ (List.range n).map fun (i : Nat)=>(i : Int):=fun x h0 h1=>List.mem_map.mpr ⟨x.toNat,List.mem_range.mpr (by omega),by omega⟩
 have s0:=J3f hX (fs.zip as)
 have s1 : ((fs.zip as).map (inF ((List.range n).map fun (i : Nat)=>(i : Int)))) = (fs.zip as).map fun _=>(0 : Int):=by
  refine List.map_congr_left fun p hp=>?_
  obtain ⟨a0,a1,a2,a3,_⟩:=ha p.2 (List.of_mem_zip hp).2
  unfold inF
  rw [if_pos (memX _ a2 a3),if_pos (memX _ a0 a1)]
  omega
 have s2 : ((fs.zip as).map fun _=>(0 : Int)).sum = 0:=by
  induction fs.zip as with
  | nil=>rfl
  | cons _ _ ih=>rw [List.map_cons,List.sum_cons,ih]; rfl
 rw [s1,s2] at s0
 have s3:=J3b (fun _=>0) (balF (fs.zip as)) ((List.range n).map fun (i : Nat)=>(i : Int))
 rw [s0,J2f] at s3
 have s4:=J4I (f:=fun x=>0 - balF (fs.zip as) x) (X:=(List.range n).map fun (i : Nat)=>(i : Int)) (x:=(i : Int)) (fun y hy=>by
  obtain ⟨j,hj,rfl⟩:=List.mem_map.mp hy
  have:=le (j : Int) (by omega) (by have:=List.mem_range.mp hj; omega)
  omega) (memX _ (by omega) (by omega)) (by omega)
 rw [s3] at s4
 omega
theorem Wk.kept {C CW : Addr} {H H' : Hp} {p n al pr fl sr wy : Addr} {bs : List Addr} {m : Nat} {xs : List V} {as : List Ar} {ps fs sp : List Int} (k : Wk C CW H p n al pr fl sr wy bs m xs as ps fs sp)
  (ne : ∀ {a : Addr} {u : HO},H a = some u → ((∃ l,u = .lst l) ∨ (∃ l,u = .tup l) ∨ ∃ c d f,u = .ins c d f) → H' a = some u) : Wk C CW H' p n al pr fl sr wy bs m xs as ps fs sp:=by
 obtain ⟨dx,e1⟩:=k.hp
 obtain ⟨dn,e2⟩:=k.hn
 refine ⟨⟨dx,ne e1 (.inr (.inr ⟨_,_,_,rfl⟩))⟩,⟨dn,ne e2 (.inr (.inr ⟨_,_,_,rfl⟩))⟩,ne k.ha (.inl ⟨_,rfl⟩),k.hA.imp fun a y hy=>?_,ne k.hpr (.inl ⟨_,rfl⟩),ne k.hfl (.inl ⟨_,rfl⟩),ne k.hsr (.inl ⟨_,rfl⟩),⟨ne k.hwy.1 (.inl ⟨_,rfl⟩),k.hwy.2.1,k.hwy.2.2.1,fun i b hb=>?_⟩,k.hbl,k.d1,k.d2,k.d3,k.d4⟩
 ·obtain ⟨t,rfl,ht⟩:=hy
  exact ⟨t,rfl,ne ht (.inr (.inl ⟨_,rfl⟩))⟩
 ·obtain ⟨ys,y1,y2⟩:=k.hwy.2.2.2 i b hb
  refine ⟨ys,ne y1 (.inl ⟨_,rfl⟩),y2.imp fun v y hy=>?_⟩
  obtain ⟨t,rfl,ht⟩:=hy
  exact ⟨t,rfl,ne ht (.inr (.inl ⟨_,rfl⟩))⟩
theorem J5O {H H' : Hp} {T : Addr} {pos : Pos} {qual : Str} (t : JU H T pos qual) (k : ∀ a o,((∃ p,o = HO.tbl p) ∨ ∃ φ,o = HO.ext φ) → H a = some o → H' a = some o) : JU H' T pos qual:=by
 obtain ⟨ps,e,tr,c⟩:=t
 refine ⟨ps,k _ _ (.inl ⟨_,rfl⟩) e,tr,?_⟩
 rcases c with c | ⟨c',e1,e2⟩
 ·exact .inl c
 ·exact .inr ⟨c',e1,k _ _ (.inr ⟨_,rfl⟩) e2⟩
theorem J8w {as : List Ar} {fs ps : List Int} {F : Tab} {S : Stps} {i : Nat} {pt : List Stp1} {k : Nat} (w : Way as fs ps F S i pt k) : ∀ r ∈ pt,∀ a f,as[r.1]? = some a → fs[r.1]? = some f → 0 < rmF a f r.2.2:=by
 induction w with
 | nil=>exact fun r h=>nomatch h
 | snoc w hj hs hk hkj he hd ih =>
  intro r hr a f ha hf
  rcases List.mem_append.mp hr with h | h
  ·exact ih r h a f ha hf
  ·rw [List.mem_singleton.mp h] at ha hf ⊢
   obtain ⟨a',f',ha',hf',hp,_⟩:=he
   rw [ha'] at ha
   cases ha
   rw [hf'] at hf
   cases hf
   exact hp
noncomputable def outL (m : Nat) (X : List Int) : List Int:=((List.range m).filter fun (j : Nat)=>!decide ((j : Int) ∈ X)).map fun (j : Nat)=>(j : Int)
theorem JbN {F : Tab} (hn : (F.map (·.1)).Nodup) (x : Int) : (valV (tabV F) (.inl x)).isSome = decide (x ∈ F.map (·.1)):=by
 by_cases h : x ∈ F.map (·.1)
 ·obtain ⟨p,hp,rfl⟩:=List.mem_map.mp h
  rw [decide_eq_true h,J1b (d:=p.2) hn hp]
  rfl
 ·rw [decide_eq_false h,J1G fun q hq z=>h (List.mem_map.mpr ⟨q,hq,z⟩)]
  rfl
theorem JbL {F : Tab} (hn : (F.map (·.1)).Nodup) (m : Nat) : (((List.range m).filter fun (j : Nat)=>!(valV (tabV F) (.inl (0 + (j : Int)))).isSome).map fun (j : Nat)=>0 + (j : Int)) = outL m (F.map (·.1)):=by
 unfold outL
 rw [show (fun (j : Nat)=>!(valV (tabV F) (.inl (0 + (j : Int)))).isSome) = fun (j : Nat)=>!decide ((j : Int) ∈ F.map (·.1)) from funext fun j=>by rw [JbN hn,Int.zero_add],show (fun (j : Nat)=>0 + (j : Int)) = fun (j : Nat)=>(j : Int) from funext fun j=>Int.zero_add _]
noncomputable def Fre (T : Addr) (H H' : Hp) : Prop:=∀ a o,a ≠ T → H a = some o → H' a = some o
noncomputable def J7i (C CW Tb : Addr) : Sp:=fun vs H Q _=>∃ (n al : Addr) (m : Nat) (xs : List V) (as : List Ar),vs = [.ref n] ∧ J3N C H n m al ∧ H al = some (.lst xs) ∧ All2 ArT H as xs ∧ m ≤ 100 ∧ as.length ≤ 500 ∧ (∀ a ∈ as,ArOk m a) ∧ (∀ a ∈ as,a.l ≤ a.m) ∧ JU H Tb lpos J0P ∧
 (∀ (H' : Hp) (t fl pr : Addr) (fs ps : List Int),Fre Tb H H' → JU H' Tb lpos J0P → H' t = some (.tup [T [102,108,111,119],.ref fl,.ref pr]) → H' fl = some (.lst (fs.map V.int)) → H' pr = some (.lst (ps.map V.int)) → H fl = none → H pr = none → fl ≠ pr → fs.length = as.length → ps.length = m → RP as fs ps → ((spF m (fs.zip as)).any nzB) = false → Q (.ref t) H') ∧
 (∀ (H' : Hp) (t l : Addr) (X : List Int),Fre Tb H H' → JU H' Tb lpos J0P → H' t = some (.tup [T [99,117,116],.ref l]) → H' l = some (.lst ((outL m X).map V.int)) → H l = none → X.Nodup → (∀ x ∈ X,0 ≤ x) → comM as X < outM as X → Q (.ref t) H')
section
variable {P : Program} {w : World} {K : PySem.W.Frag} {mg : Str → Option Value} {base : Heap} {Je J8 J4 : Addr}
local macro_rules | `(tactic| walk_at "lk")=>`(tactic| first | exact J0Z _ _ | exact J0Y _ _ | exact J2T _ _ _ _ _ | exact J1c _ _ _ _ _ | exact J1D _ _ _ _ _ | exact J1I _ _ _ _ _ | exact J2h _ _ _ _ _)
theorem J8f (tx : Tx K mg Je J8 J4) : FnG P w K mg base "settle" 4 ["net"] (J7i Je J8 J4):=by
 have J2Z:=J55 (P:=P) (w:=w) (base:=base) tx
 have J8h:=tx.J0S.g J2Z
 have J23:=J3z (P:=P) (w:=w) (base:=base) tx
 have J21:=J3w (P:=P) (w:=w) (base:=base) tx
 have J89:=Jb8 (P:=P) (w:=w) (base:=base) tx
 refine tx.J8m.g J1z (fun _ _ _ _ _ _ us hl=>match us,hl with | [_],_=>rfl) (fun vs H Q E h=>?_) (fun f cdv A outer s H vs Q E hr h=>?_)
 ·obtain ⟨n,al,m,xs,as,rfl,_⟩:=h
  rfl
 ·obtain ⟨n,al,m,xs,as,rfl,hn,ha,hA,hm,hal,hok,hlm,hT,qF,qC⟩:=h
  refine ⟨_,(J5 (Jo (i:=1) J1z.nd rfl (Or.inl rfl) (J8L (r:=rWrk Je J8) J8h (hr.mono (by decide)) JbO (J0 (pv 0) J9)))
   (J5 (J3J PassesOwn.never (J0A (Jp (J3U (K:=K) rfl rfl) rfl tx.J54 J92 (J0 (Jq (K:=K) rfl (pv 1) rfl) J9))) (J5 (Jo (i:=2) J1z.nd rfl (Or.inr rfl) J3P)
   (J5 (Jo (i:=3) J1z.nd rfl (Or.inl rfl) J3P)
   (J5 (Jo (i:=4) J1z.nd rfl (Or.inl rfl) (JL J23 (hr.mono (by decide)) (J0 (pv 1) (J0 (pv 2) (J0 (pv 3) J9)))))
   (J5 (JP (Jm J15 (pv 4) (J4n J2S J2) (Jr _)) (Jd (Jv (J1u (J0 (J4P (l:=[99,117,116]) (by decide +kernel)) (J0 (J0y (osc:=J3 J0t) (ON:=["net","work","far","steps","node"]) (N:=["other","far"]) (js:=[none,some 2]) ⟨rfl,by decide +kernel,by decide +kernel,by decide +kernel,rfl,by decide +kernel⟩ rfl rfl rfl (J0F rfl tx.J0I (J0 (Jq (K:=K) rfl (pv 0) rfl) J9)) (fun _ _ _ _ _=>Jn (i:=0) (show List.Nodup (["other","far"] : List Str) from by decide +kernel) rfl (Or.inl rfl)) (fun _ _ _ _ _=>J1J (J4S (J2L (J1p hr) (pv 0) (pv 1)) rfl)) (fun _ _ _ _ _=>(pv 0))) J9))))) Ju)
   (J5 (J0K (JL J21 (hr.mono (by decide)) (J0 (pv 1) (J0 (pv 2) (J0 (J2G (J1p hr) (pv 2) (pv 4) (fun _ _=>rfl)) J9)))))
   (Jd (J0K (JL J89 (hr.mono (by decide)) (J0 (pv 1) (J0 (pv 3) (J0 (pv 4) J9))))))))))))
   (Jd (Jv (J1u (J0 (J4P (l:=[102,108,111,119]) (by decide +kernel)) (J0 (Jq (K:=K) rfl (pv 1) rfl) (J0 (Jq (K:=K) rfl (pv 1) rfl) J9)))))))),?_⟩
  walk_at "st"
  clear J2Z J8h J23 J21 J89
  have cW:=tx.J0S.cl
  have cN:=tx.J11.cl
  have w1:=tx.J0e
  have w2:=tx.JX
  have w3:=tx.J01
  have nM:=tx.JH
  walk_at "rd"
  intro p H1 pr fl sr wy bs s1 W1 npr nfl nsr
  refine J07 rfl ?_
  dsimp only
  refine J2q ?_
  refine ⟨fun k σ H2=>Here (∃ (v2 v3 v4 : Option V) (ps fs sp : List Int),k = posF sp ∧ σ = [some (.ref n),some (.ref p),v2,v3,v4] ∧ Wk Je J8 H2 p n al pr fl sr wy bs m xs as ps fs sp ∧ sp = spF m (fs.zip as) ∧ RP as fs ps ∧ fs.length = as.length ∧ ps.length = m ∧ Fre J4 H H2 ∧ JU H2 J4 lpos J0P),
   ⟨_,Here.mk ⟨none,none,none,_,_,_,rfl,rfl,W1,rfl,J8H hlm,List.length_map ..,List.length_replicate ..,fun a o _ e=>s1 a o e,hT.same s1⟩⟩,?_⟩
  rintro k σ H2 hv
  obtain ⟨v2,v3,v4,ps,fs,sp,rfl,rfl,W2,hsp,hRP,hfs,hps,hFr,hT2⟩:=hv.out
  have hspl : sp.length = m:=by rw [hsp,J17]
  obtain ⟨dx2,hp2⟩:=W2.hp
  obtain ⟨dn2,hn2⟩:=W2.hn
  have hsr2:=W2.hsr
  have hfl2:=W2.hfl
  have hpr2:=W2.hpr
  have hsq2 : SqL K H2 sr (sp.map V.int):=SqL.of hsr2
  walk_at "rd"
  refine ite2 (fun c=>?_) (fun c=>?_)
  ·obtain ⟨x,x0,x1,xp⟩:=J8y (fs:=fs) hok (by rw [← hsp]; exact c)
   refine ⟨_,fun σ' H' h=>h,?_⟩
   refine J2q ?_
   intro fa nfa
   obtain ⟨H3,e3,g3,s3⟩:=newo (o:=.dK []) nfa
   rw [← e3]
   refine J07 rfl ?_
   dsimp only
   refine J2q ?_
   intro st nst
   obtain ⟨H4,e4,g4,s4⟩:=newo (o:=.dK []) nst
   rw [← e4]
   refine J07 rfl ?_
   have s34:=s3.trans s4
   have W4:=W2.same s34
   have g34:=s4 _ _ g3
   have nfs : fa ≠ st:=Jb g3 nst
   have hT4:=hT2.same s34
   walk_at "rd"
   intro H5 F S kvs r fr5 hT5 hfa5 hst5 hS5 hcase
   have W5 : Wk Je J8 H5 p n al pr fl sr wy bs m xs as ps fs sp:=W4.kept fun {a u} e hu=>fr5 a u (fun z=>by
    rw [z,g34] at e
    cases e
    rcases hu with ⟨_,h⟩ | ⟨_,h⟩ | ⟨_,_,_,h⟩ <;> cases h) (fun z=>by
    rw [z,g4] at e
    cases e
    rcases hu with ⟨_,h⟩ | ⟨_,h⟩ | ⟨_,_,_,h⟩ <;> cases h) (fun z=>by
    obtain ⟨tp,et,_⟩:=hT4
    rw [z,et] at e
    cases e
    rcases hu with ⟨_,h⟩ | ⟨_,h⟩ | ⟨_,_,_,h⟩ <;> cases h) e
   have hFr5 : Fre J4 H H5:=fun a o n1 e=>by
    have e2:=hFr a o n1 e
    exact fr5 a o (Jb e2 nfa) (Jb (s3 _ _ e2) nst) n1 (s34 _ _ e2)
   walk_at "rd"
   refine ite2 (fun c1=>?_) (fun c1=>?_)
   ·have er : r = -1:=V.int.inj (of_decide_eq_true c1)
    rcases hcase with ⟨_,dj,hF0⟩ | ⟨D,W',m1,_,_,dj⟩
    ·have hn5:=W5.hn
     obtain ⟨dn5,hn5⟩:=hn5
     walk_at "rd"
     refine JI (List.range m) (fun j=>!(valV (tabV F) (.inl (0 + (j : Int)))).isSome) (fun j y _=>y = V.int (0 + (j : Int))) (fun σ=>∃ v,σ = [v,some (.ref fa)]) (by have:=J2b (H:=H5) 0 ((m : Int)).toNat; rw [Int.toNat_natCast] at this; exact this) (by rw [List.length_map]) (by rw [List.length_range]; omega) ⟨_,rfl⟩ (fun _ _ _ _ _ z=>z) (fun i j v σ H' hj hv' hσ s' Rf Rt hRf hR=>?_) (fun l H6 ys nl s6 hys6 hl6=>?_)
     ·obtain ⟨v0,rfl⟩:=hσ
      rw [List.getElem?_map,hj] at hv'
      cases hv'
      have dg : DGet H' fa (.int (0 + (j : Int))) (valV (tabV F) (.inl (0 + (j : Int)))):=DGet.k (k:=.inl (0 + (j : Int))) (s' _ _ hfa5)
      walk_at "rd"
      refine ite2 (fun c2=>?_) (fun c2=>?_)
      ·walk_at "rd"
       exact hR _ _ _ c2 ⟨_,rfl⟩ (Same.refl _) rfl
      ·exact hRf _ _ (Bool.eq_false_iff.mpr c2) ⟨_,rfl⟩ (Same.refl _)
     ·rw [J3V (f:=fun j : Nat=>0 + (j : Int)) hys6,JbL dj.nodF] at hl6
      walk_at "rd"
      intro t nt
      have sm : Same H6 (upd H6 t (.tup [T [99,117,116],V.ref l])):=JK nt _
      have nl0 : H l = none:=by
       cases hh : H l with
       | none=>rfl
       | some o =>
        by_cases zt : l = J4
        ·obtain ⟨_,et,_⟩:=hT5
         rw [zt,et] at nl
         cases nl
        ·rw [hFr5 l o zt hh] at nl
         cases nl
      have dj' : DJ m as fs ps (spF m (fs.zip as)) F [] S (fun _ _ _ _=>False):=hsp ▸ dj
      exact qC _ t l (F.map (·.1)) (fun a o n1 e=>sm _ _ (s6 _ _ (hFr5 a o n1 e))) ((hT5.same s6).same sm) Jc (sm _ _ hl6) nl0 dj.nodF (fun x hx=>by
       obtain ⟨r,hr',rfl⟩:=List.mem_map.mp hx
       exact (dj.rng r (.inl hr')).1) (dj'.cut hRP hfs hok (fun r hr'=>by rw [← hsp]; exact hF0 r hr') x0 x1 xp)
    ·have:=dj.rng _ (.inl m1)
     dsimp only at this
     omega
   ·rcases hcase with ⟨er,_⟩ | ⟨D,W',m1,ord,hneg,dj⟩
    ·exact absurd (decide_eq_true (by rw [er])) c1
    ·have R:=dj.reach hRP m1 ord
     have hIn : InN m as:=fun e a h=>by
      obtain ⟨a0,a1,a2,a3,_⟩:=hok a (List.mem_of_getElem? h)
      exact ⟨a0,a1,a2,a3⟩
     obtain ⟨r0,r1⟩:=dj.rng _ (.inl m1)
     dsimp only at r0 r1
     have dgD : DGet H5 fa (.int r) (some (.int D)):=by
      rw [← J1b dj.nodF m1]
      exact DGet.k (k:=.inl r) hfa5
     have hFrg : ∀ q ∈ F,0 ≤ q.1 ∧ q.1 < (m : Int):=fun q hq=>dj.rng q (.inl hq)
     walk_at "rd"
     intro H6 b6 W6
     have nsp : st ≠ pr:=J0b hst5 W5.hpr (by intro z; cases z)
     have hst6:=b6 _ _ nsp nfs.symm hst5
     have hS6 : StpT H6 kvs S:=hS5.keeps fun t vs h=>b6 _ _ (J0b h W5.hpr (by intro z; cases z)) (J0b h hfa5 (by intro z; cases z)) h
     obtain ⟨i,hi⟩:=List.getElem?_of_mem m1
     have htr : True:=trivial
     walk_at "rd"
     intro H7 pt k y dy M fr7 hway hk hSy hpos hM le1 le2 le3 W7
     obtain ⟨y',dy',hk',Pu⟩:=hway.push R hIn hps hfs hi le3
     rw [hk] at hk'
     cases hk'
     obtain ⟨y0,y1⟩:=dj.rng _ (.inl (List.mem_of_getElem? hk))
     dsimp only at y0 y1
     have hM1 : 1 ≤ M:=by
      rcases hM with h | h | ⟨st',hs',a,f',ha',hf',h⟩
      ·omega
      ·omega
      ·have:=J8w hway st' hs' a f' ha' hf'
       omega
     have hsp' : J1h sp y r M = spF m ((JT pt M fs).zip as):=by
      rw [hsp]
      exact Pu.spare hok y0 y1 r0 r1
     have hFr7 : Fre J4 H H7:=fun a o n1 e=>by
      have e5:=hFr5 a o n1 e
      have nfa' : a ≠ fa:=fun z=>by
       have:=hFr a o n1 e
       rw [z,nfa] at this
       cases this
      exact fr7 _ _ (fun z=>by rw [z,nfl] at e; cases e) (fun z=>by rw [z,nsr] at e; cases e) (b6 _ _ (fun z=>by rw [z,npr] at e; cases e) nfa' e5)
     have hT7 : JU H7 J4 lpos J0P:=J5O hT5 fun a o ho e=>by
      have l1 : ∀ {x : Addr} {l : List V},H5 x = some (.lst l) → a ≠ x:=fun {x l} hx z=>by
       rw [z,hx] at e
       cases e
       rcases ho with ⟨_,h⟩ | ⟨_,h⟩ <;> cases h
      have l2 : a ≠ fa:=fun z=>by
       rw [z,hfa5] at e
       cases e
       rcases ho with ⟨_,h⟩ | ⟨_,h⟩ <;> cases h
      exact fr7 _ _ (l1 W5.hfl) (l1 W5.hsr) (b6 _ _ (l1 W5.hpr) l2 e)
     refine ⟨_,J7K (sp:=sp) y0 (by omega) r0 (by omega) le1 le2 hM1,Here.mk ⟨_,_,_,shF F D ps,JT pt M fs,J1h sp y r M,rfl,rfl,W7,hsp',Pu.rp (hRP.shift R hIn hps) (by omega) hfs,?_,?_,hFr7,hT7⟩⟩
     ·rw [J2m]
      exact hfs
     ·rw [J4L]
      exact hps
  ·walk_at "rd"
   intro t nt
   have sm : Same H2 (upd H2 t (.tup [T [102,108,111,119],V.ref fl,V.ref pr])):=JK nt _
   exact qF _ t fl pr fs ps (fun a o n1 e=>sm _ _ (hFr a o n1 e)) (hT2.same sm) Jc (sm _ _ hfl2) (sm _ _ hpr2) nfl npr W2.d1.1.symm hfs hps hRP (by rw [← hsp]; exact Bool.eq_false_iff.mpr c)
end
noncomputable def J88 : Sp:=fun vs H Q _=>∃ (c m : Int),vs = [.int c,.int m] ∧ 0 ≤ m ∧ m ≤ 400 ∧ ∀ (a : Addr) (H' : Hp) (xs : List Int),Same H H' → H a = none → H' a = some (.lst (xs.map V.int)) → (xs.length : Int) = m → (∀ x ∈ xs,0 ≤ x) → Q (.ref a) H'
section
variable {P : Program} {w : World} {K : PySem.W.Frag} {mg : Str → Option Value} {base : Heap} {Je J8 J4 : Addr}
theorem J2W (tx : Tx K mg Je J8 J4) : FnG P w K mg base "_law_drawn" 1 ["_law_cell","_law_many"] J88:=by
 refine tx.J58.g JM (fun _ _ _ _ _ _ us hl=>match us,hl with | [_,_],_=>rfl) (fun vs H Q E h=>?_) (fun f cdv A outer s H vs Q E hr h=>?_)
 ·obtain ⟨c,m,rfl,_⟩:=h
  rfl
 ·obtain ⟨c,m,rfl,h0,h1,q⟩:=h
  refine ⟨_,(J5 (Jo (i:=2) JM.nd rfl (Or.inl rfl) (J1l J9))
   (J5 (Jo (i:=3) JM.nd rfl (Or.inl rfl) (Jj J0r (Jj Jy (pv 0) J2) J2))
   (J5 (J0L PassesOwn.never rfl (J0F rfl tx.J0I (J0 (Jj J0r (pv 1) J2) J9)) (Jn (i:=4) JM.nd rfl (Or.inl rfl)) (J5 (Jo (i:=3) JM.nd rfl (Or.inl rfl) (Jj Jy (Jj J0r (Jj J0r (Jj J0r (Jj J1y (pv 3) (pv 3)) (Jj J1y J2 (pv 3))) (Jj J1y J2 (pv 4))) J2) J2))
   (Jd (J0K (J33 PySem.F.plainAttrs_list PySem.F.slot_list_append PySem.F.type_list_append J0p (pv 2) (J0 (pv 3) J9))))))
   (J5 (Jo (i:=2) JM.nd rfl (Or.inl rfl) (J2B (J2D (K:=K) rfl) (pv 2) (J2x J2) J51))
   (J5 (Jo (i:=5) JM.nd rfl (Or.inl rfl) (Jj J1y (Jj J0M (pv 0) J2) (Jj Jy (pv 0) J2)))
   (J5 (J0L PassesOwn.never rfl (J0F rfl tx.J0I (J0 (pv 1) J9)) (Jn (i:=4) JM.nd rfl (Or.inl rfl)) (Jd (JP (Jm J29 (pv 5) J2 (Jr _)) (J5 (J4J (Jj Jy (pv 5) J2) (J4O (pv 2) (pv 4) J0u))
   (Jd (Jo (i:=5) JM.nd rfl (Or.inl rfl) (Jj J0M (pv 5) J2)))) Ju)))
   (Jd (Jv (pv 2))))))))),?_⟩
  walk_at "st"
  have b0 : 0 ≤ c % 2147483629:=Int.emod_nonneg _ (by decide)
  have b1 : c % 2147483629 < 2147483629:=Int.emod_lt_of_pos _ (by decide)
  walk_at "rd"
  intro p hp
  walk_at "rd"
  refine J1F (n:=(m + 2).toNat) (fun i σ H2=>Here (∃ (n : Int) (v : Option V) (ys : List Int),σ = [some (.int c),some (.int m),some (.ref p),some (.int n),v,none] ∧ 0 ≤ n ∧ n < 2147500000 ∧ ys.length = i ∧ (∀ y ∈ ys,0 ≤ y) ∧ H2 p = some (.lst (ys.map V.int)) ∧ Same H H2))
   (Here.mk ⟨_,none,[],rfl,by omega,by omega,rfl,fun y hy=>absurd hy List.not_mem_nil,Jc,JK hp _⟩) ?_ ?_
  ·rintro i σ H2 hi hv
   obtain ⟨n,v,ys,rfl,hn0,hn1,hy,hyp,hpp,hs⟩:=hv.out
   have z0 : 0 ≤ (n * n + 69621 * n + 11 * (0 + (i : Int)) + 3) % 2147483629:=Int.emod_nonneg _ (by decide)
   have z1 : (n * n + 69621 * n + 11 * (0 + (i : Int)) + 3) % 2147483629 < 2147483629:=Int.emod_lt_of_pos _ (by decide)
   have hl : (ys.map V.int).length ≤ 1000:=by rw [List.length_map]; omega
   walk_at "rd"
   refine Here.mk ⟨_,_,ys ++ [(n * n + 69621 * n + 11 * (0 + (i : Int)) + 3) % 2147483629],rfl,z0,by omega,?_,?_,?_,hs.upd hp⟩
   ·rw [List.length_append,List.length_singleton,hy]
   ·intro y hy
    rcases List.mem_append.mp hy with hy | hy
    ·exact hyp y hy
    ·rw [List.mem_singleton.mp hy]
     exact z0
   ·rw [Jc,List.map_append]
    rfl
  rintro σ H2 hv
  obtain ⟨n,v,ys,rfl,hn0,hn1,hy,hyp,hpp,hs⟩:=hv.out
  walk_at "rd"
  intro r nr
  have e : cutV (ys.map V.int) (some 2) none = (ys.drop 2).map V.int:=by
   rw [List.map_drop]
   exact J8z (ys.map V.int) 2 (by decide)
  rw [e]
  obtain ⟨H3,e3,hr3,s3⟩:=newl (xs:=(ys.drop 2).map V.int) nr
  rw [← e3]
  have fr : H r = none:=hs.free nr
  have hd : ∀ y ∈ ys.drop 2,0 ≤ y:=fun y hy=>hyp y (List.mem_of_mem_drop hy)
  have hdl : ((ys.drop 2).length : Int) = m:=by rw [List.length_drop,hy]; omega
  have c2 : c % 2 = 0 ∨ c % 2 = 1:=by omega
  have c20 : -(2 ^ 64) < c % 2:=by omega
  have c21 : c % 2 < 2 ^ 64:=by omega
  walk_at "rd"
  refine J1F (n:=m.toNat) (fun i σ H4=>Here (∃ (lo : Int) (v4 : Option V) (xs : List Int),σ = [some (.int c),some (.int m),some (.ref r),some (.int n),v4,some (.int lo)] ∧ (xs.length : Int) = m ∧ (∀ y ∈ xs,0 ≤ y) ∧ H4 r = some (.lst (xs.map V.int)) ∧ Same H H4))
   (Here.mk ⟨_,_,ys.drop 2,rfl,hdl,hd,hr3,hs.trans s3⟩) ?_ ?_
  ·rintro i σ H4 hi hv
   obtain ⟨lo,v4,xs,rfl,hxl,hxp,hr4,s4⟩:=hv.out
   have hix : ixN (xs.map V.int).length (0 + (i : Int)) = some i:=by
    unfold ixN
    rw [if_pos (by omega),if_pos (by rw [List.length_map]; omega)]
    congr 1
    omega
   have l0 : 0 ≤ lo % 720:=Int.emod_nonneg _ (by decide)
   walk_at "rd"
   refine ite2 (fun cc=>?_) (fun cc=>?_)
   ·walk_at "rd"
    refine Here.mk ⟨_,_,xs.set i (lo % 720),rfl,by rw [List.length_set]; exact hxl,fun y hy=>?_,?_,s4.upd fr⟩
    ·rcases List.mem_or_eq_of_mem_set hy with hy | hy
     ·exact hxp y hy
     ·rw [hy]; exact l0
    ·rw [Jc,List.map_set]
   ·exact Here.mk ⟨lo,_,xs,rfl,hxl,hxp,hr4,s4⟩
  ·rintro σ H4 hv
   obtain ⟨lo,v4,xs,rfl,hxl,hxp,hr4,s4⟩:=hv.out
   walk_at "rd"
   exact q r H4 xs s4 fr hr4 hxl hxp
end
noncomputable def Jbd : Sp:=fun vs H Q _=>∃ (c : Int) (m : Nat),vs = [.int c,.int m] ∧ 1 ≤ m ∧ m ≤ 50 ∧ ∀ (t : Addr) (H' : Hp) (a : Ar),Same H H' → H' t = some (.tup [.int a.s,.int a.g,.int a.l,.int a.m,.int a.c]) → ArOk m a → a.l ≤ a.m → Q (.ref t) H'
section
variable {P : Program} {w : World} {K : PySem.W.Frag} {mg : Str → Option Value} {base : Heap} {Je J8 J4 : Addr}
theorem J7l (tx : Tx K mg Je J8 J4) : FnG P w K mg base "_law_arc" 2 ["_law_cell","_law_many"] Jbd:=by
 have J0D:=J2W (P:=P) (w:=w) (base:=base) tx
 refine tx.J7a.g J02 (fun _ _ _ _ _ _ us hl=>match us,hl with | [_,_],_=>rfl) (fun vs H Q E h=>?_) (fun f cdv A outer s H vs Q E hr h=>?_)
 ·obtain ⟨c,m,rfl,_⟩:=h
  rfl
 ·obtain ⟨c,m,rfl,h0,h1,q⟩:=h
  refine ⟨_,(J5 (Jo (i:=2) J02.nd rfl (Or.inl rfl) (JL J0D (hr.mono (by decide)) (J0 (Jj J0M (pv 0) J2) (J0 J2 J9))))
   (J5 (Jo (i:=3) J02.nd rfl (Or.inl rfl) J2)
   (J5 (J1k (JP (Jm J15 (Jj Jy (Jg (Jk (K:=K) rfl) (pv 2) J2 (fun _ _=>rfl)) J2) J2 (Jr _)) (Jd (Jo (i:=3) J02.nd rfl (Or.inl rfl) (Jj Jy (Jj J0M (Jg (Jk (K:=K) rfl) (pv 2) J2 (fun _ _=>rfl)) J2) J2))) Ju))
   (J5 (Jo (i:=4) J02.nd rfl (Or.inl rfl) (Jj J0r (pv 3) (Jj Jy (Jg (Jk (K:=K) rfl) (pv 2) J2 (fun _ _=>rfl)) J2)))
   (J5 (J1k (JP (Jm J15 (Jj Jy (Jg (Jk (K:=K) rfl) (pv 2) J2 (fun _ _=>rfl)) J2) J2 (Jr _)) (Jd (Jo (i:=4) J02.nd rfl (Or.inl rfl) (Jj J0r (pv 3) (Jj Jy (Jj J0M (Jg (Jk (K:=K) rfl) (pv 2) J2 (fun _ _=>rfl)) J2) (Jj J1j J2 (pv 3)))))) Ju))
   (J5 (Jo (i:=5) J02.nd rfl (Or.inl rfl) (Jj J1j (Jj Jy (Jg (Jk (K:=K) rfl) (pv 2) J2 (fun _ _=>rfl)) J2) J2))
   (J5 (J1k (JP (Jm J15 (Jj Jy (pv 0) J2) J2 (Jr _)) (J5 (Jo (i:=6) J02.nd rfl (Or.inl rfl) (Jj J0M (pv 0) J2))
   (J5 (J1k (JP (PW.pt (J1x (Jm J15 (Jj Jy (pv 6) J2) J2 (Jr _)) (J0X (Jm J29 (pv 6) J2 (Jr _))))) (Jd (Jo (i:=6) J02.nd rfl (Or.inl rfl) (Jj J8K (pv 6) J2))) Ju))
   (Jd (Jo (i:=5) J02.nd rfl (Or.inl rfl) (Jj J1j (Jj Jy (pv 6) (Jj J0r (Jj J1y J2 (Jj J4T J2 J2)) J2)) (Jj J4T J2 J2)))))) Ju))
   (Jd (Jv (J1u (J0 (Jj Jy (Jg (Jk (K:=K) rfl) (pv 2) J2 (fun _ _=>rfl)) (pv 1)) (J0 (Jj Jy (Jg (Jk (K:=K) rfl) (pv 2) J2 (fun _ _=>rfl)) (pv 1)) (J0 (pv 3) (J0 (pv 4) (J0 (pv 5) J9))))))))))))))),?_⟩
  walk_at "st"
  clear J0D
  have p30 : CPow 10 30:=⟨by decide,by decide,by decide⟩
  have z30 : (0 : Int) < 2 * 10 ^ (30 : Int).toNat + 1:=by decide
  have cb : Jax (c / 2) 200612260085760000000:=⟨by decide,by decide +kernel⟩
  walk_at "rd"
  intro xl H1 xs s1 nxl hxl lxs bxs
  have x0:=Jt (ns:=xs) (k:=0) (by decide) (by omega)
  have x1:=Jt (ns:=xs) (k:=1) (by decide) (by omega)
  have x2:=Jt (ns:=xs) (k:=2) (by decide) (by omega)
  have x3:=Jt (ns:=xs) (k:=3) (by decide) (by omega)
  have x4:=Jt (ns:=xs) (k:=4) (by decide) (by omega)
  have x5:=Jt (ns:=xs) (k:=5) (by decide) (by omega)
  walk_at "rd"
  refine tCut.mk (fun σ' H'=>Here (∃ le : Int,σ' = [some (.int c),some (.int m),some (.ref xl),some (.int le),none,none,none] ∧ 0 ≤ le ∧ le ≤ 4 ∧ H' = H1)) ?_ ?_
  ·have a0 : 0 ≤ J6 xs 2 / 4 % 5:=Int.emod_nonneg _ (by decide)
   have a1 : J6 xs 2 / 4 % 5 < 5:=Int.emod_lt_of_pos _ (by decide)
   walk_at "rd"
   refine ite2 (fun e=>?_) (fun e=>?_)
   ·walk_at "rd"
    exact Here.mk ⟨_,rfl,a0,by omega,rfl⟩
   ·walk_at "rd"
    exact Here.mk ⟨_,rfl,by omega,by omega,rfl⟩
  rintro σ' H' hv
  obtain ⟨le,rfl,l0,l1,eH⟩:=hv.out
  rw [eH]
  clear hv eH H'
  have b0 : 0 ≤ J6 xs 3 % 5:=Int.emod_nonneg _ (by decide)
  have b1 : J6 xs 3 % 5 < 5:=Int.emod_lt_of_pos _ (by decide)
  have c0 : 0 ≤ J6 xs 4 / 8 % (61 - le):=Int.emod_nonneg _ (by omega)
  have c1 : J6 xs 4 / 8 % (61 - le) < 61 - le:=Int.emod_lt_of_pos _ (by omega)
  walk_at "rd"
  refine tCut.mk (fun σ' H'=>Here (∃ mo : Int,σ' = [some (.int c),some (.int m),some (.ref xl),some (.int le),some (.int mo),none,none] ∧ le ≤ mo ∧ mo ≤ 100 ∧ H' = H1)) ?_ ?_
  ·walk_at "rd"
   refine ite2 (fun e=>?_) (fun e=>?_)
   ·walk_at "rd"
    exact Here.mk ⟨_,rfl,by omega,by omega,rfl⟩
   ·walk_at "rd"
    exact Here.mk ⟨_,rfl,by omega,by omega,rfl⟩
  rintro σ' H' hv
  obtain ⟨mo,rfl,m0,m1,eH⟩:=hv.out
  rw [eH]
  clear hv eH H'
  walk_at "rd"
  refine tCut.mk (fun σ' H'=>Here (∃ (co : Int) (v6 : Option V),σ' = [some (.int c),some (.int m),some (.ref xl),some (.int le),some (.int mo),some (.int co),v6] ∧ H' = H1)) ?_ ?_
  ·walk_at "rd"
   refine ite2 (fun e=>?_) (fun e=>?_)
   ·walk_at "rd"
    refine tCut.mk (fun σ' H'=>Here (∃ (co gr : Int),σ' = [some (.int c),some (.int m),some (.ref xl),some (.int le),some (.int mo),some (.int co),some (.int gr)] ∧ H' = H1)) ?_ ?_
    ·walk_at "rd"
     refine ite2 (fun e=>?_) (fun e=>?_)
     ·walk_at "rd"
      refine ite2 (fun e=>?_) (fun e=>?_)
      ·walk_at "rd"
       exact Here.mk ⟨_,_,rfl,rfl⟩
      ·walk_at "rd"
       exact Here.mk ⟨_,_,rfl,rfl⟩
     ·walk_at "rd"
      exact Here.mk ⟨_,_,rfl,rfl⟩
    rintro σ' H' hv
    obtain ⟨co,gr,rfl,eH⟩:=hv.out
    rw [eH]
    walk_at "rd"
    exact Here.mk ⟨_,_,rfl,rfl⟩
   ·walk_at "rd"
    exact Here.mk ⟨_,_,rfl,rfl⟩
  rintro σ' H' hv
  obtain ⟨co,v6,rfl,eH⟩:=hv.out
  rw [eH]
  clear hv eH H'
  have d0 : 0 ≤ J6 xs 0 % (m : Int):=Int.emod_nonneg _ (by omega)
  have d1 : J6 xs 0 % (m : Int) < (m : Int):=Int.emod_lt_of_pos _ (by omega)
  have e0 : 0 ≤ J6 xs 1 % (m : Int):=Int.emod_nonneg _ (by omega)
  have e1 : J6 xs 1 % (m : Int) < (m : Int):=Int.emod_lt_of_pos _ (by omega)
  walk_at "rd"
  intro t ft
  exact q t _ ⟨J6 xs 0 % (m : Int),J6 xs 1 % (m : Int),le,mo,co⟩ (s1.trans (JK ft _)) Jc ⟨d0,d1,e0,e1,l0,by simp only; omega,by simp only; omega,m1⟩ m0
end
noncomputable def J9x : Sp:=fun vs H Q _=>∃ (l : Addr) (m : Nat) (fs : List Int),vs = [.ref l,.int (m : Int)] ∧ H l = some (.lst (fs.map V.int)) ∧ fs.length = m ∧ m ≤ 500 ∧ ∀ H',Same H H' → Q (.bl true) H'
section
variable {P : Program} {w : World} {K : PySem.W.Frag} {mg : Str → Option Value} {base : Heap} {Je J8 J4 : Addr}
theorem J3Z (tx : Tx K mg Je J8 J4) : FnG P w K mg base "_law_numbers" 1 ["_law_found","_law_many"] J9x:=by
 refine tx.J3Y.g J3k (fun _ _ _ _ _ _ us hl=>match us,hl with | [_,_],_=>rfl) (fun vs H Q E h=>?_) (fun f cdv A outer s H vs Q E hr h=>?_)
 ·obtain ⟨l,m,fs,rfl,_⟩:=h
  rfl
 ·obtain ⟨l,m,fs,rfl,hl,hlen,hm,q⟩:=h
  refine ⟨_,(J5 (JP (PW.pt (J1E (J0U (J0A (Jp J2n rfl tx.JV J0v (J0 (pv 0) (J0 (J5k tx.J0Q J03) J9))))) (J1w (Jm J2J (Jp (Js (K:=K) rfl) rfl tx.J0C PySem.boot_len (J0 (pv 0) J9)) (pv 1) (Jr _))))) (Jd (Jv J0H)) Ju)
   (Jd (Jv (Jp (J1T (K:=K) rfl rfl) rfl tx.J3q J4W (J0 (J0y (osc:=J3 JB) (ON:=["_law_found","_law_many"]) (N:=["_law_one"]) (js:=[none]) ⟨rfl,by decide +kernel,by decide +kernel,by decide +kernel,rfl,by decide +kernel⟩ rfl rfl rfl (JS (K:=K) rfl (pv 0)) (fun _ _ _ _ _=>Jn (i:=0) (show List.Nodup (["_law_one"] : List Str) from by decide +kernel) rfl (Or.inl rfl)) (fun _ _ _ _ _=>J0w) (fun _ _ _ _ _=>(J4N (Jp J2n rfl tx.JV J0v (J0 (pv 0) (J0 (J5k tx.J6L J7Z) J9))) (J4Z (J9v (Jp J2n rfl tx.JV J0v (J0 (pv 0) (J0 (J5k tx.J4z J6C) J9)))))))) J9))))),?_⟩
  walk_at "st"
  walk_at "rd"
  refine ite2 (fun c=>?_) (fun c=>?_)
  ·exact absurd c (by simp [hlen])
  ·walk_at "rd"
   refine JI fs (fun _=>true) (fun _ y _=>y = V.bl true) (fun σ=>∃ v,σ = [v]) (J04 (SqL.of hl)) (List.length_map ..) (by omega) ⟨_,rfl⟩ (fun _ _ _ _ _ z=>z) (fun i a v σ H' ha hv hσ s' Rf Rt _ hR=>?_) (fun D H1 ys nD s1 hys hD=>?_)
   ·obtain ⟨v0,rfl⟩:=hσ
    rw [List.getElem?_map,ha] at hv
    cases hv
    refine J07 rfl ?_
    walk_at "rd"
    exact hR _ _ _ rfl ⟨_,rfl⟩ (Same.refl _) rfl
   ·have e : ys = (List.replicate ys.length true).map V.bl:=by
     rw [List.map_replicate]
     refine List.eq_replicate_iff.mpr ⟨rfl,fun y hy=>?_⟩
     obtain ⟨a,_,h⟩:=J5Q hys y hy
     exact h
    have hsq : SqL K H1 D ((List.replicate ys.length true).map V.bl):=by
     rw [← e]
     exact SqL.of hD
    have ht : (List.replicate ys.length true).all id = true:=by
     rw [List.all_eq_true]
     intro b hb
     exact (List.mem_replicate.mp hb).2
    refine ⟨D,List.replicate ys.length true,rfl,hsq,?_⟩
    rw [ht]
    exact q H1 s1
end
theorem J8Z (h : Int → Int) (f g : Int) {X : List Int} (hX : X.Nodup) (hg : g ∈ X) : (X.map fun x=>h x * (if x = g then f else 0)).sum = h g * f:=by
 have e : (X.map fun x=>h x * (if x = g then f else 0)) = X.map fun x=>if x = g then h g * f else 0:=by
  refine List.map_congr_left fun x _=>?_
  by_cases z : x = g
  ·rw [if_pos z,if_pos z,z]
  ·rw [if_neg z,if_neg z,Int.mul_zero]
 rw [e,J3d _ _ X hX,if_pos hg]
theorem J6O {ps X : List Int} (hX : X.Nodup) : ∀ zs : List (Int × Ar),(∀ p ∈ zs,p.2.s ∈ X ∧ p.2.g ∈ X) → (zs.map (difF ps)).sum = - (X.map fun x=>J6 ps x * balF zs x).sum
 | [],_=>by
  have e : (X.map fun x=>J6 ps x * balF [] x) = X.map fun _=>(0 : Int):=List.map_congr_left fun x _=>Int.mul_zero _
  rw [e,J2f]
  rfl
 | p :: zs,h=>by
  obtain ⟨hs,hg⟩:=h p (List.mem_cons_self ..)
  have ih:=J6O (ps:=ps) hX zs fun q hq=>h q (List.mem_cons_of_mem _ hq)
  have e : (X.map fun x=>J6 ps x * balF (p :: zs) x) = X.map fun x=>(J6 ps x * (if x = p.2.g then p.1 else 0) - J6 ps x * (if x = p.2.s then p.1 else 0)) + J6 ps x * balF zs x:=by
   refine List.map_congr_left fun x _=>?_
   show J6 ps x * (cF x p + balF zs x) = _
   unfold cF
   rw [Int.mul_add,Int.mul_sub]
  rw [e,J53,J3b,J8Z (J6 ps) p.1 p.2.g hX hg,J8Z (J6 ps) p.1 p.2.s hX hs,List.map_cons,List.sum_cons,ih]
  have e2 : difF ps p = J6 ps p.2.s * p.1 - J6 ps p.2.g * p.1:=by
   unfold difF
   rw [Int.mul_sub,Int.mul_comm p.1,Int.mul_comm p.1]
  rw [e2]
  omega
theorem J8V {n : Nat} {as : List Ar} {fs ps : List Int} (ha : ∀ a ∈ as,ArOk n a) (h : ∀ z : Int,0 ≤ z → balF (fs.zip as) z = 0) : ((fs.zip as).map (difF ps)).sum = 0:=by
 have hX : ((List.range n).map fun (i : Nat)=>(i : Int)).Nodup:=by
  refine List.Pairwise.map (R:=fun a b=>a ≠ b) _ (fun a b ne z=>?_) List.nodup_range
  have z' : (a : Int) = (b : Int):=z
  exact ne (by omega)
 have memX : ∀ x : Int,0 ≤ x → x < (n : Int) → x ∈ (List.range n).map fun (i : Nat)=>(i : Int):=fun x h0 h1=>List.mem_map.mpr ⟨x.toNat,List.mem_range.mpr (by omega),by omega⟩
 rw [J6O hX _ fun p hp=>by
  obtain ⟨a0,a1,a2,a3,_⟩:=ha p.2 (List.of_mem_zip hp).2
  exact ⟨memX _ a0 a1,memX _ a2 a3⟩]
 have e : (((List.range n).map fun (i : Nat)=>(i : Int)).map fun x=>J6 ps x * balF (fs.zip as) x) = ((List.range n).map fun (i : Nat)=>(i : Int)).map fun _=>(0 : Int):=by
  refine List.map_congr_left fun x hx=>?_
  obtain ⟨j,_,rfl⟩:=List.mem_map.mp hx
  rw [h _ (by omega),Int.mul_zero]
 rw [e,J2f]
 rfl
theorem J3T {n : Nat} {as : List Ar} {fs : List Int} (ha : ∀ a ∈ as,ArOk n a) (h : ((spF n (fs.zip as)).any nzB) = false) {z : Int} (hz : 0 ≤ z) : balF (fs.zip as) z = 0:=by
 rw [← J1V hz ha]
 unfold J6
 rw [List.getD_eq_getElem?_getD]
 cases hc : (spF n (fs.zip as))[z.toNat]? with
 | none=>rfl
 | some v =>
  have hv:=List.any_eq_false.mp h v (List.mem_of_getElem? hc)
  unfold nzB at hv
  by_cases y : v = 0
  ·rw [y]; rfl
  ·exact absurd (bne_iff_ne.mpr y) hv
theorem RP.inn {as : List Ar} {fs ps : List Int} (r : RP as fs ps) : (fs.zip as).all inB = true:=by
 refine List.all_eq_true.mpr fun p hp=>?_
 obtain ⟨i,hi⟩:=List.getElem?_of_mem hp
 obtain ⟨h1,h2⟩:=List.getElem?_zip_eq_some.mp hi
 obtain ⟨b1,b2,_⟩:=r i _ _ h2 h1
 show (decide (p.2.l ≤ p.1) && decide (p.1 ≤ p.2.m)) = true
 rw [decide_eq_true b1,decide_eq_true b2]
 rfl
theorem RP.kp {as : List Ar} {fs ps : List Int} (r : RP as fs ps) : (fs.zip as).all (kpB ps) = true:=by
 refine List.all_eq_true.mpr fun p hp=>?_
 obtain ⟨i,hi⟩:=List.getElem?_of_mem hp
 obtain ⟨h1,h2⟩:=List.getElem?_zip_eq_some.mp hi
 obtain ⟨b1,b2,b3,b4⟩:=r i _ _ h2 h1
 unfold kpB kp1
 split
 ·exact decide_eq_true (by omega)
 ·by_cases z : wtF ps p.2 = 0
  ·rw [decide_eq_true z]; rfl
  ·rw [decide_eq_false z,Bool.false_or]
   exact decide_eq_true (by omega)
theorem RP.flow {n : Nat} {as : List Ar} {fs ps : List Int} (r : RP as fs ps) (hl : fs.length = as.length) (h0 : ((spF n (fs.zip as)).any nzB) = false) : J1Z n as fs = true:=by
 unfold J1Z
 rw [decide_eq_true hl,r.inn,h0]
 rfl
theorem RP.bd {n : Nat} {as : List Ar} {fs ps : List Int} (r : RP as fs ps) (hl : fs.length = as.length) (ha : ∀ a ∈ as,ArOk n a) : ∀ f ∈ fs,0 ≤ f ∧ f ≤ 1000:=fun f hf=>by
 obtain ⟨i,hi⟩:=List.getElem?_of_mem hf
 have hli:=(List.getElem?_eq_some_iff.mp hi).1
 have hg : as[i]? = some (as[i]'(by rw [← hl]; exact hli)):=List.getElem?_eq_getElem _
 obtain ⟨b1,b2,_⟩:=r i _ _ hg hi
 obtain ⟨_,_,_,_,c1,c2,c3,c4⟩:=ha _ (List.mem_of_getElem? hg)
 omega
theorem RP.cost {n : Nat} {as : List Ar} {fs ps : List Int} (r : RP as fs ps) (hl : fs.length = as.length) (ha : ∀ a ∈ as,ArOk n a) (h0 : ((spF n (fs.zip as)).any nzB) = false) : J5M (fs.zip as) = J1U ps as:=by
 have h:=(J4l ps (fs.zip as) r.inn).2.mpr r.kp
 rw [J6U ps fs as hl,J6P,J8V ha fun z hz=>J3T ha h0 hz,Int.add_zero] at h
 exact h.symm
theorem RP.priced {n : Nat} {as : List Ar} {fs ps : List Int} (r : RP as fs ps) (hl : fs.length = as.length) (hp : ps.length = n) (h0 : ((spF n (fs.zip as)).any nzB) = false) : J2k n as fs ps = true:=by
 unfold J2k
 rw [decide_eq_true hp,r.flow hl h0,r.kp]
 rfl
theorem RP.nocut {n : Nat} {as : List Ar} {fs ps : List Int} (r : RP as fs ps) (hl : fs.length = as.length) (ha : ∀ a ∈ as,ArOk n a) (h0 : ((spF n (fs.zip as)).any nzB) = false) {X : List Int} (hX : X.Nodup) (hx : ∀ z ∈ X,0 ≤ z) : ¬ comM as X < outM as X:=fun h=>by
 have:=JbI hX hl (fun e a f h1 h2=>⟨(r e a f h1 h2).1,(r e a f h1 h2).2.1⟩) fun z hz=>J3T ha h0 (hx z hz)
 omega
theorem J2I {m : Nat} {X : List Int} {x : Int} : x ∈ outL m X ↔ (0 ≤ x ∧ x < (m : Int) ∧ x ∉ X):=by
 unfold outL
 rw [List.mem_map]
 constructor
 ·rintro ⟨j,hj,rfl⟩
  obtain ⟨h1,h2⟩:=List.mem_filter.mp hj
  have:=List.mem_range.mp h1
  exact ⟨by omega,by omega,fun z=>by rw [decide_eq_true z] at h2; cases h2⟩
 ·rintro ⟨h0,h1,h2⟩
  refine ⟨x.toNat,List.mem_filter.mpr ⟨List.mem_range.mpr (by omega),?_⟩,by omega⟩
  rw [show ((x.toNat : Nat) : Int) = x by omega,decide_eq_false h2]
  rfl
theorem J5D (m : Nat) (X : List Int) : (outL m X).Pairwise (· < ·):=by
 unfold outL
 refine List.Pairwise.map _ (R:=fun (a b : Nat)=>a < b) (fun a b h=>by omega) (List.Pairwise.filter _ ?_)
 exact List.pairwise_lt_range
theorem Ja0 (m : Nat) (X : List Int) : (outL m X).length ≤ m:=by
 unfold outL
 rw [List.length_map]
 exact Nat.le_trans (List.length_filter_le _ _) (by rw [List.length_range]; exact Nat.le_refl _)
theorem J4M {p : Ar → Bool} {g : Ar → Int} {f : Ar → Int} : ∀ {as : List Ar},(∀ a ∈ as,(if p a = true then g a else 0) = f a) → ((as.filter p).map g).sum = (as.map f).sum
 | [],_=>rfl
 | a :: as,h=>by
  have ih:=J4M (as:=as) fun b hb=>h b (List.mem_cons_of_mem _ hb)
  have h1:=h a (List.mem_cons_self ..)
  rw [List.filter_cons,List.map_cons,List.sum_cons,← h1]
  split
  ·rw [List.map_cons,List.sum_cons,ih]
  ·rw [ih,Int.zero_add]
theorem J4Y {m : Nat} {X : List Int} {x : Int} (h0 : 0 ≤ x) (h1 : x < (m : Int)) : inI x (outL m X) = !decide (x ∈ X):=by
 unfold inI
 by_cases h : x ∈ X
 ·rw [decide_eq_true h,decide_eq_false fun z=>(J2I.mp z).2.2 h]
  rfl
 ·rw [decide_eq_false h,decide_eq_true (J2I.mpr ⟨h0,h1,h⟩)]
  rfl
theorem J7t {m : Nat} {as : List Ar} {X : List Int} (ha : ∀ a ∈ as,ArOk m a) : J3L as (outL m X) = outM as X:=by
 unfold J3L outM
 refine J4M fun a h=>?_
 obtain ⟨a0,a1,a2,a3,_⟩:=ha a h
 unfold lvB
 rw [J4Y a0 a1,J4Y a2 a3]
 by_cases h1 : a.s ∈ X <;> by_cases h2 : a.g ∈ X <;> simp [h1,h2]
theorem J9m {m : Nat} {as : List Ar} {X : List Int} (ha : ∀ a ∈ as,ArOk m a) : J5q as (outL m X) = comM as X:=by
 unfold J5q comM
 refine J4M fun a h=>?_
 obtain ⟨a0,a1,a2,a3,_⟩:=ha a h
 unfold cmB
 rw [J4Y a0 a1,J4Y a2 a3]
 by_cases h1 : a.s ∈ X <;> by_cases h2 : a.g ∈ X <;> simp [h1,h2]
theorem J6i {ns : List Int} (h : ns.Nodup) : J0G ns = ns.length:=by
 have key : ∀ i,i ≤ ns.length → J0G (ns.take i) = i:=by
  intro i
  induction i with
  | zero=>intro _; rfl
  | succ i ih =>
   intro hi
   have hx : ns[i]? = some ns[i]:=List.getElem?_eq_getElem _
   refine J86 hx (ih (by omega)) fun z=>?_
   obtain ⟨j,hj⟩:=List.getElem?_of_mem z
   have hji : j < i:=by
    have:=(List.getElem?_eq_some_iff.mp hj).1
    rw [List.length_take] at this
    omega
   rw [List.getElem?_take,if_pos hji] at hj
   have:=J8P h hj hx
   omega
 have:=key ns.length (Nat.le_refl _)
 rwa [List.take_length] at this
theorem Jae {m : Nat} {as : List Ar} {X : List Int} (ha : ∀ a ∈ as,ArOk m a) (h : comM as X < outM as X) : cutB m as (outL m X) = true:=by
 unfold cutB
 rw [J6i ((J5D m X).imp fun h=>Int.ne_of_lt h),decide_eq_true rfl,J7t ha,J9m ha,decide_eq_true h]
 have : okN m (outL m X) = true:=List.all_eq_true.mpr fun x hx=>by
  obtain ⟨h0,h1,_⟩:=J2I.mp hx
  unfold rgB
  rw [decide_eq_true h0,decide_eq_true h1]
  rfl
 rw [this]
 rfl
theorem J7G (L : List Int) : ((L.filter nzB).map V.int).isEmpty = !(L.any nzB):=by
 induction L with
 | nil=>rfl
 | cons a r ih =>
  rw [List.filter_cons,List.any_cons]
  cases nzB a with
  | true=>rfl
  | false=>exact ih
noncomputable def J8k (C : Addr) : Sp:=fun vs H Q _=>∃ (np al tl pl : Addr) (m : Nat) (xs : List V) (as : List Ar) (fs ps : List Int),vs = [.ref np,.int m,.ref al,.ref tl,.ref pl] ∧ NetA C H np m xs as ∧ H al = some (.lst xs) ∧ H tl = some (.lst (fs.map V.int)) ∧ H pl = some (.lst (ps.map V.int)) ∧ m ≤ 100 ∧ as.length ≤ 500 ∧ (∀ a ∈ as,ArOk m a) ∧ fs.length = as.length ∧ ps.length = m ∧ RP as fs ps ∧ ((spF m (fs.zip as)).any nzB) = false ∧ ∀ H',Same H H' → Q (.bl true) H'
section
variable {P : Program} {w : World} {K : PySem.W.Frag} {mg : Str → Option Value} {base : Heap} {Je J8 J4 : Addr}
theorem J67 (tx : Tx K mg Je J8 J4) : FnG P w K mg base "_law_flow" 4 ["_law_net","_law_many","_law_arcs","_law_told","_law_prices"] (J8k Je):=by
 have J1A:=J42 (P:=P) (w:=w) (base:=base) tx
 have J2X:=J59 (P:=P) (w:=w) (base:=base) tx
 have J41:=J7m (P:=P) (w:=w) (base:=base) tx
 have J3x:=J65 (P:=P) (w:=w) (base:=base) tx
 refine tx.J6a.g J13 (fun _ _ _ _ _ _ us hl=>match us,hl with | [_,_,_,_,_],_=>rfl) (fun vs H Q E h=>?_) (fun f cdv A outer s H vs Q E hr h=>?_)
 ·obtain ⟨np,al,tl,pl,m,xs,as,fs,ps,rfl,_⟩:=h
  rfl
 ·obtain ⟨np,al,tl,pl,m,xs,as,fs,ps,rfl,hN,h2,hl,hpl,hm,hal,hok,hfs',hps,hRP,h0,q⟩:=h
  refine ⟨_,(J5 (J3e (k:=5) (osc:=J3 JR) (ON:=["_law_net","_law_many","_law_arcs","_law_told","_law_prices","_law_spare","_law_arc_here","_law_number","_law_weight"]) (N:=["_law_node"]) (js:=[none]) J13.nd rfl (Or.inl rfl) ⟨rfl,by decide +kernel,by decide +kernel,by decide +kernel,rfl,by decide +kernel⟩ rfl rfl rfl (J0F rfl tx.J0I (J0 (pv 1) J9)) (fun _ _ _ _ _=>Jn (i:=0) (show List.Nodup (["_law_node"] : List Str) from by decide +kernel) rfl (Or.inl rfl)) (fun _ _ _ _ _=>J0w) (fun _ _ _ _ _=>J2))
   (J5 (J0L PassesOwn.never rfl (J2d (K:=K) rfl rfl tx.J2V (J0 (pv 2) (J0 (pv 3) J9))) (J28 rfl (Jx (Jn (i:=6) J13.nd rfl (Or.inl rfl)) (Jx (Jn (i:=7) J13.nd rfl (Or.inl rfl)) J19))) (J5 (JP (J0U (J91 J4p J4p (Jg (Ji (K:=K) rfl) (pv 6) J2 (fun _ _=>rfl)) (pv 7) (Jg (Ji (K:=K) rfl) (pv 6) J2 (fun _ _=>rfl)))) (Jd (Jv J0H)) Ju)
   (J5 (Jo (i:=8) J13.nd rfl (Or.inl rfl) (Jj J1j (Jj J0r (Jg (Ji (K:=K) rfl) (pv 6) J2 (fun _ _=>rfl)) (Jg (Jk (K:=K) rfl) (pv 4) (Jg (Ji (K:=K) rfl) (pv 6) J2 (fun _ _=>rfl)) (fun _ _=>rfl))) (Jg (Jk (K:=K) rfl) (pv 4) (Jg (Ji (K:=K) rfl) (pv 6) J2 (fun _ _=>rfl)) (fun _ _=>rfl))))
   (J5 (JP (PW.pt (J1E (PW.pt (J1x (Jm J29 (pv 8) J2 (Jr _)) (J0X (Jm J2J (pv 7) (Jg (Ji (K:=K) rfl) (pv 6) J2 (fun _ _=>rfl)) (Jr _))))) (J1w (PW.pt (J1x (Jm J3D (pv 8) J2 (Jr _)) (J0X (Jm J2J (pv 7) (Jg (Ji (K:=K) rfl) (pv 6) J2 (fun _ _=>rfl)) (Jr _)))))))) (Jd (Jv J0H)) Ju)
   (J5 (J4J (Jj J1j (Jg (Jk (K:=K) rfl) (pv 5) (Jg (Ji (K:=K) rfl) (pv 6) J2 (fun _ _=>rfl)) (fun _ _=>rfl)) (pv 7)) (J4O (pv 5) (Jg (Ji (K:=K) rfl) (pv 6) J2 (fun _ _=>rfl)) J0u))
   (Jd (J4J (Jj J0r (Jg (Jk (K:=K) rfl) (pv 5) (Jg (Ji (K:=K) rfl) (pv 6) J2 (fun _ _=>rfl)) (fun _ _=>rfl)) (pv 7)) (J4O (pv 5) (Jg (Ji (K:=K) rfl) (pv 6) J2 (fun _ _=>rfl)) J0u))))))))
   (J5 (JP (Jm (J90 (K:=K) rfl hr.units0) (J0y (osc:=J3 JR) (ON:=["_law_net","_law_many","_law_arcs","_law_told","_law_prices","_law_spare","_law_arc_here","_law_number","_law_weight"]) (N:=["_law_one"]) (js:=[none]) ⟨rfl,by decide +kernel,by decide +kernel,by decide +kernel,rfl,by decide +kernel⟩ rfl rfl rfl (JS (K:=K) rfl (pv 5)) (fun _ _ _ _ _=>Jn (i:=0) (show List.Nodup (["_law_one"] : List Str) from by decide +kernel) rfl (Or.inl rfl)) (fun _ _ _ _ _=>J1J (Jm J2J (pv 0) J2 (Jr _))) (fun _ _ _ _ _=>(pv 0))) (J1l J9) (Jr _)) (Jd (Jv J0H)) Ju)
   (J5 (JP (PW.pt (J1E (Jm J73 (JL J1A (hr.mono (by decide)) (J0 (pv 0) (J0 (J0q J00 rfl tx.J0Q J03 (J0 (pv 3) J9)) J9))) J0H (Jr _)) (J1w (Jm J73 (JL J2X (hr.mono (by decide)) (J0 (pv 0) (J0 (J0q J00 rfl tx.J0Q J03 (J0 (pv 3) J9)) (J0 (J0q J00 rfl tx.J0Q J03 (J0 (pv 4) J9)) J9)))) J0H (Jr _))))) (Jd (Jv J0H)) Ju)
   (Jd (Jv (J18 J15 (JL J41 (hr.mono (by decide)) (J0 (pv 0) (J0 (J0q J00 rfl tx.J0Q J03 (J0 (pv 3) J9)) J9))) (JL J3x (hr.mono (by decide)) (J0 (pv 0) (J0 (J0q J00 rfl tx.J0Q J03 (J0 (pv 4) J9)) J9))) (Jr _)))))))),?_⟩
  walk_at "st"
  clear J1A J2X J41 J3x
  obtain ⟨l2,hnet,hl2n,h3⟩:=hN
  have hN : NetA Je H np m xs as:=⟨l2,hnet,hl2n,h3⟩
  have hyl:=h3.len
  have tn : ((m : Int)).toNat = m:=Int.toNat_natCast m
  walk_at "rd"
  rw [tn]
  refine JI (List.range m) (fun _=>true) (fun _ y _=>y = V.int 0) (fun σ=>∃ v,σ = [v]) (J2b 0 m) (by rw [List.length_map]) (by rw [List.length_range]; omega) ⟨_,rfl⟩ (fun _ _ _ _ _ z=>z) (fun i a v σ H' ha hv hσ s' Rf Rt _ hR=>?_) (fun D H2 ws hD s2 hws hDD=>?_)
  ·obtain ⟨w1,rfl⟩:=hσ
   rw [List.getElem?_map,ha] at hv
   cases hv
   walk_at "rd"
   exact hR _ _ _ rfl ⟨_,rfl⟩ (Same.refl _) rfl
  rw [J4H (f:=fun _=>0) hws,List.map_const',List.length_range] at hDD
  have hl2:=s2 _ _ hl
  have h22:=s2 _ _ h2
  clear hws
  walk_at "rd"
  refine J5R (K:=K) (xs:=xs) (ys:=fs.map V.int) (fun i σ H3=>Here (∃ v1 v2 v3,σ = [some (.ref np),some (.int m),some (.ref al),some (.ref tl),some (.ref pl),some (.ref D),v1,v2,v3] ∧ H3 D = some (.lst ((spF m ((fs.zip as).take i)).map V.int)) ∧ Same H H3)) (Here.mk ⟨none,none,none,rfl,hDD,s2⟩) (fun i σ H3 _ _ hv=>by obtain ⟨_,_,_,_,_,s3⟩:=hv.out; exact ⟨SqL.of (s3 _ _ h2),SqL.of (s3 _ _ hl)⟩) ?_ ?_
  ·rintro i y x p σ H3 hy hx hp hv
   obtain ⟨v1,v2,v3,rfl,k3,s3⟩:=hv.out
   obtain ⟨a,ha,t,rfl,ht⟩:=h3.back hy
   obtain ⟨f',hf,rfl⟩:=J2H hx
   have hz : (fs.zip as)[i]? = some (f',a):=List.getElem?_zip_eq_some.mpr ⟨hf,ha⟩
   obtain ⟨a0,a1,a2,a3,_⟩:=hok a (List.mem_of_getElem? ha)
   obtain ⟨r1,r2,r3,r4⟩:=hRP i a f' ha hf
   have ntD : t ≠ D:=Jb ht hD
   obtain ⟨H4,e4,hp4,s4⟩:=newt (xs:=[V.ref t,V.int f']) hp
   rw [← e4]
   have t4:=s3.trans s4
   have ht4:=t4 _ _ ht
   have hpl4:=t4 _ _ hpl
   have k4:=s4 _ _ k3
   have hsp:=J17 m ((fs.zip as).take i)
   have hst:=J5w (m:=m) hz
   generalize spF m ((fs.zip as).take i) = L at k3 k4 hsp hst
   have j1:=Jt (ns:=ps) a0 (by omega)
   have j2:=Jt (ns:=ps) a2 (by omega)
   have e1:=Jt (ns:=L) a0 (by omega)
   have i1 : ixN (L.map V.int).length a.s = some a.s.toNat:=J1W a0 (by rw [List.length_map]; omega)
   have e2 : atI ((L.map V.int).set a.s.toNat (.int (J6 L a.s - f'))) a.g = some (.int (J6 (L.set a.s.toNat (J6 L a.s - f')) a.g)):=by
    rw [J0j]
    exact Jt a2 (by rw [List.length_set]; omega)
   have i2 : ixN ((L.map V.int).set a.s.toNat (.int (J6 L a.s - f'))).length a.g = some a.g.toNat:=J1W a2 (by rw [List.length_set,List.length_map]; omega)
   have ht5 : upd H4 D (.lst ((L.map V.int).set a.s.toNat (.int (J6 L a.s - f')))) t = some (.tup [.int a.s,.int a.g,.int a.l,.int a.m,.int a.c]):=by
    rw [J7 ntD]
    exact ht4
   have hw : a.c + J6 ps a.s - J6 ps a.g = wtF ps a:=rfl
   have fin : ∀ v1 v2 v3,Here (∃ w1 w2 w3,([some (V.ref np),some (.int m),some (.ref al),some (.ref tl),some (.ref pl),some (.ref D),v1,v2,v3] : St) = [some (.ref np),some (.int m),some (.ref al),some (.ref tl),some (.ref pl),some (.ref D),w1,w2,w3] ∧ (upd (upd H4 D (.lst ((L.map V.int).set a.s.toNat (.int (J6 L a.s - f'))))) D (.lst (((L.map V.int).set a.s.toNat (.int (J6 L a.s - f'))).set a.g.toNat (.int (J6 (L.set a.s.toNat (J6 L a.s - f')) a.g + f'))))) D = some (.lst ((spF m ((fs.zip as).take (i + 1))).map V.int)) ∧ Same H (upd (upd H4 D (.lst ((L.map V.int).set a.s.toNat (.int (J6 L a.s - f'))))) D (.lst (((L.map V.int).set a.s.toNat (.int (J6 L a.s - f'))).set a.g.toNat (.int (J6 (L.set a.s.toNat (J6 L a.s - f')) a.g + f')))))):=fun v1 v2 v3=>by
    refine Here.mk ⟨_,_,_,rfl,?_,(t4.upd hD).upd hD⟩
    rw [Jc,J0j,J0j,hst]
    rfl
   walk_at "rd"
   refine ite2 (fun c1=>?_) (fun c1=>?_)
   rotate_left
   ·exact absurd (decide_eq_true r1) c1
   walk_at "rd"
   refine ite2 (fun c2=>?_) (fun c2=>?_)
   ·rw [decide_eq_true r2] at c2
    cases c2
   walk_at "rd"
   refine ite2 (fun c1=>?_) (fun c1=>?_)
   ·have w0 : 0 < a.c + J6 ps a.s - J6 ps a.g:=of_decide_eq_true c1
    have ef : f' = a.l:=by
     by_cases h : a.l < f'
     ·have:=r4 h
      omega
     ·omega
    walk_at "rd"
    refine ite2 (fun c2=>?_) (fun c2=>?_)
    ·exact absurd c2 (by simp [ef])
    ·walk_at "rd"
     refine ite2 (fun c3=>?_) (fun c3=>?_)
     ·have w1 : a.c + J6 ps a.s - J6 ps a.g < 0:=of_decide_eq_true c3
      omega
     ·walk_at "rd"
      exact fin _ _ _
   ·walk_at "rd"
    refine ite2 (fun c3=>?_) (fun c3=>?_)
    ·have w1 : a.c + J6 ps a.s - J6 ps a.g < 0:=of_decide_eq_true c3
     have ef : f' = a.m:=by
      by_cases h : f' < a.m
      ·have:=r3 h
       omega
      ·omega
     walk_at "rd"
     refine ite2 (fun c2=>?_) (fun c2=>?_)
     ·exact absurd c2 (by simp [ef])
     ·walk_at "rd"
      exact fin _ _ _
    ·walk_at "rd"
     exact fin _ _ _
  ·rintro i σ H3 hi hv
   obtain ⟨v1,v2,v3,rfl,k3,s3⟩:=hv.out
   rw [List.length_map] at hi
   rw [List.take_of_length_le (by rw [List.length_zip]; omega)] at k3
   have hsl:=J17 m (fs.zip as)
   have h0':=h0
   generalize spF m (fs.zip as) = L at k3 hsl h0'
   walk_at "rd"
   refine JI L nzB (fun a y _=>y = V.int a) (fun σ=>∃ v,σ = [v]) (J04 (SqL.of k3)) (by rw [List.length_map]) (by omega) ⟨_,rfl⟩ (fun _ _ _ _ _ z=>z) (fun i a v σ H' ha hv hσ s' Rf Rt hF hR=>?_) (fun D2 H5 ws hD2 s5 hws hDD2=>?_)
   ·obtain ⟨w1,rfl⟩:=hσ
    rw [List.getElem?_map,ha] at hv
    cases hv
    walk_at "rd"
    refine ite2 (fun c1=>?_) (fun c1=>?_)
    ·walk_at "rd"
     refine hR _ _ _ ?_ ⟨_,rfl⟩ (Same.refl _) rfl
     rw [iV] at c1
     unfold nzB
     simpa using c1
    ·refine hF _ _ ?_ ⟨_,rfl⟩ (Same.refl _)
     rw [iV] at c1
     unfold nzB
     simpa using c1
   rw [hws.eqmap (f:=V.int) (fun a y e=>e)] at hDD2
   have em : (L.filter nzB).map V.int = []:=by
    have:=J7G L
    rw [h0'] at this
    exact List.isEmpty_iff.mp this
   rw [em] at hDD2
   walk_at "rd"
   intro E1 nE1
   obtain ⟨H6,e6,hE1,s6⟩:=newl (xs:=[]) nE1
   rw [← e6]
   have hDD6:=s6 _ _ hDD2
   have S6:=(s3.trans s5).trans s6
   have N6:=hN.same S6
   have hl6:=S6 _ _ hl
   walk_at "rd"
   intro t1 nt1
   obtain ⟨H7,e7,ht1,s7⟩:=newl (xs:=fs.map V.int) nt1
   rw [← e7]
   have S7:=S6.trans s7
   have N7:=hN.same S7
   have hB:=hRP.flow hfs' h0
   have hP:=hRP.priced hfs' hps h0
   have hC:=hRP.cost hfs' hok h0
   have hbd:=hRP.bd hfs' hok
   walk_at "rd"
   intro H8 s8
   rw [hB]
   have S8:=S7.trans s8
   have N8:=hN.same S8
   have hl8:=S8 _ _ hl
   have hpl8:=S8 _ _ hpl
   walk_at "rd"
   intro t2 nt2
   obtain ⟨H9,e9,ht2,s9⟩:=newl (xs:=fs.map V.int) nt2
   rw [← e9]
   have hpl9:=s9 _ _ hpl8
   walk_at "rd"
   intro t3 nt3
   obtain ⟨Ha,ea,ht3,sa⟩:=newl (xs:=ps.map V.int) nt3
   rw [← ea]
   have ht2a:=sa _ _ ht2
   have Sa:=(S8.trans s9).trans sa
   have Na:=hN.same Sa
   walk_at "rd"
   intro Hb sb
   rw [hP]
   have Sb:=Sa.trans sb
   have Nb:=hN.same Sb
   have hlb:=Sb _ _ hl
   walk_at "rd"
   intro t4 nt4
   obtain ⟨Hc,ec,ht4,sc⟩:=newl (xs:=fs.map V.int) nt4
   rw [← ec]
   have Sc:=Sb.trans sc
   have Nc:=hN.same Sc
   have bd2 : ∀ f ∈ fs,-1000 ≤ f ∧ f ≤ 1000:=fun f hf=>by have:=hbd f hf; omega
   walk_at "rd"
   intro Hd sd
   have Sd:=Sc.trans sd
   have hpld:=Sd _ _ hpl
   walk_at "rd"
   intro t5 nt5
   obtain ⟨He,ee,ht5,se⟩:=newl (xs:=ps.map V.int) nt5
   rw [← ee]
   have Se:=Sd.trans se
   have Ne:=hN.same Se
   have hokp : ∀ a ∈ as,ArOk ps.length a:=by rw [hps]; exact hok
   walk_at "rd"
   show Q (V.bl (decide (V.int (J5M (fs.zip as)) = V.int (J1U ps as)))) He
   rw [hC,decide_eq_true rfl]
   exact q He Se
end
noncomputable def J9G (C : Addr) : Sp:=fun vs H Q _=>∃ (np al nl : Addr) (m : Nat) (xs : List V) (as : List Ar) (ns : List Int),vs = [.ref np,.int m,.ref al,.ref nl] ∧ NetA C H np m xs as ∧ H al = some (.lst xs) ∧ H nl = some (.lst (ns.map V.int)) ∧ m ≤ 100 ∧ as.length ≤ 500 ∧ ns.length ≤ 500 ∧ (∀ a ∈ as,ArOk m a) ∧ (∀ x ∈ ns,0 ≤ x ∧ x < (m : Int)) ∧ ns.Pairwise (· < ·) ∧ cutB m as ns = true ∧ ∀ H',Same H H' → Q (.bl true) H'
theorem J9W {ns : List Int} (h : ns.Pairwise (· < ·)) {i : Nat} (h0 : 0 < i) (hi : i < ns.length) : J6 ns ((i : Int) - 1) < J6 ns (i : Int):=by
 have e1 : J6 ns ((i : Int) - 1) = ns[i - 1]:=by
  unfold J6
  rw [show ((i : Int) - 1).toNat = i - 1 by omega,List.getD_eq_getElem?_getD,List.getElem?_eq_getElem (by omega)]
  rfl
 have e2 : J6 ns (i : Int) = ns[i]:=by
  unfold J6
  rw [Int.toNat_natCast,List.getD_eq_getElem?_getD,List.getElem?_eq_getElem hi]
  rfl
 rw [e1,e2]
 exact List.pairwise_iff_getElem.mp h (i - 1) i (by omega) hi (by omega)
section
variable {P : Program} {w : World} {K : PySem.W.Frag} {mg : Str → Option Value} {base : Heap} {Je J8 J4 : Addr}
theorem J7k (tx : Tx K mg Je J8 J4) : FnG P w K mg base "_law_cut" 4 ["_law_net","_law_many","_law_arcs","_law_nodes"] (J9G Je):=by
 have J5a:=J8j (P:=P) (w:=w) (base:=base) tx
 refine tx.J7e.g J1R (fun _ _ _ _ _ _ us hl=>match us,hl with | [_,_,_,_],_=>rfl) (fun vs H Q E h=>?_) (fun f cdv A outer s H vs Q E hr h=>?_)
 ·obtain ⟨np,al,nl,m,xs,as,ns,rfl,_⟩:=h
  rfl
 ·obtain ⟨np,al,nl,m,xs,as,ns,rfl,hN,ha,hn,hm,la,ln,hok,hrg,hri,hB,q⟩:=h
  refine ⟨_,(J5 (J0L PassesOwn.never rfl (J0F rfl tx.J0I (J0 (Jp (Js (K:=K) rfl) rfl tx.J0C PySem.boot_len (J0 (pv 3) J9)) J9)) (Jn (i:=4) J1R.nd rfl (Or.inl rfl)) (Jd (JP (PW.pt (J1E (Jm J3D (Jg (Jk (K:=K) rfl) (pv 3) (pv 4) (fun _ _=>rfl)) J2 (Jr _)) (J1E (Jm Jcz (Jg (Jk (K:=K) rfl) (pv 3) (pv 4) (fun _ _=>rfl)) (pv 1) (Jr _)) (J1w (PW.pt (J1x (Jm J29 (pv 4) J2 (Jr _)) (J0X (Jm J4p (Jg (Jk (K:=K) rfl) (pv 3) (pv 4) (fun _ _=>rfl)) (Jg (Jk (K:=K) rfl) (pv 3) (Jj J1j (pv 4) J2) (fun _ _=>rfl)) (Jr _))))))))) (Jd (Jv J0H)) Ju)))
   (J5 (Jo (i:=5) J1R.nd rfl (Or.inl rfl) (Jp (J1B (K:=K) rfl rfl) rfl tx.J2Y J3M (J0 (J0y (osc:=J3 J05) (ON:=["_law_net","_law_many","_law_arcs","_law_nodes","_law_k","_law_leave","_law_come"]) (N:=["_law_arc_here","_law_nodes"]) (js:=[none,some 3]) ⟨rfl,by decide +kernel,by decide +kernel,by decide +kernel,rfl,by decide +kernel⟩ rfl rfl rfl (JS (K:=K) rfl (pv 2)) (fun _ _ _ _ _=>Jn (i:=0) (show List.Nodup (["_law_arc_here","_law_nodes"] : List Str) from by decide +kernel) rfl (Or.inl rfl)) (fun _ _ _ _ _=>J1J (PW.pt (J1x (Jm (J95 (K:=K) rfl) (Jg (Ji (K:=K) rfl) (pv 0) J2 (fun _ _=>rfl)) (pv 1) rfl) (J0X (Jm (J4q (K:=K) rfl) (Jg (Ji (K:=K) rfl) (pv 0) J2 (fun _ _=>rfl)) (pv 1) rfl))))) (fun _ _ _ _ _=>(Jg (Ji (K:=K) rfl) (pv 0) J2 (fun _ _=>rfl)))) J9)))
   (J5 (Jo (i:=6) J1R.nd rfl (Or.inl rfl) (Jp (J1B (K:=K) rfl rfl) rfl tx.J2Y J3M (J0 (J0y (osc:=J3 J05) (ON:=["_law_net","_law_many","_law_arcs","_law_nodes","_law_k","_law_leave","_law_come"]) (N:=["_law_arc_here","_law_nodes"]) (js:=[none,some 3]) ⟨rfl,by decide +kernel,by decide +kernel,by decide +kernel,rfl,by decide +kernel⟩ rfl rfl rfl (JS (K:=K) rfl (pv 2)) (fun _ _ _ _ _=>Jn (i:=0) (show List.Nodup (["_law_arc_here","_law_nodes"] : List Str) from by decide +kernel) rfl (Or.inl rfl)) (fun _ _ _ _ _=>J1J (PW.pt (J1x (Jm (J95 (K:=K) rfl) (Jg (Ji (K:=K) rfl) (pv 0) J2 (fun _ _=>rfl)) (pv 1) rfl) (J0X (Jm (J4q (K:=K) rfl) (Jg (Ji (K:=K) rfl) (pv 0) J2 (fun _ _=>rfl)) (pv 1) rfl))))) (fun _ _ _ _ _=>(Jg (Ji (K:=K) rfl) (pv 0) J2 (fun _ _=>rfl)))) J9)))
   (Jd (Jv (J4N (J18 J29 (pv 5) (pv 6) (Jr _)) (J4Z (J18 JbP (JL J5a (hr.mono (by decide)) (J0 (pv 0) (J0 (J0q J00 rfl tx.J0Q J03 (J0 (pv 3) J9)) J9))) J0H (Jr _))))))))),?_⟩
  walk_at "st"
  clear J5a
  obtain ⟨l2,hnet,hl2n,hA⟩:=hN
  have hN : NetA Je H np m xs as:=⟨l2,hnet,hl2n,hA⟩
  have hL : (ns.map V.int).length = ns.length:=List.length_map _
  have hyl:=hA.len
  walk_at "rd"
  rw [hL,Int.toNat_natCast]
  refine J1F (n:=ns.length) (fun i σ H2=>Here (∃ v1,σ = [some (.ref np),some (.int m),some (.ref al),some (.ref nl),v1,none,none] ∧ H2 = H)) (Here.mk ⟨none,rfl,rfl⟩) ?_ ?_
  ·rintro i σ H2 hi hv
   obtain ⟨v1,rfl,eH⟩:=hv.out
   rw [eH]
   have hc:=Jt (ns:=ns) (k:=0 + (i : Int)) (by omega) (by omega)
   have hx:=hrg _ (J9T (zs:=ns) (k:=0 + (i : Int)) (by omega) (by omega))
   walk_at "rd"
   refine ite2 (fun c1=>?_) (fun c1=>?_)
   ·have:=of_decide_eq_true c1
    omega
   walk_at "rd"
   refine ite2 (fun c1=>?_) (fun c1=>?_)
   ·have:=of_decide_eq_true c1
    omega
   walk_at "rd"
   refine ite2 (fun c1=>?_) (fun c1=>?_)
   ·have i0:=of_decide_eq_true c1
    have hc2:=Jt (ns:=ns) (k:=0 + (i : Int) - 1) (by omega) (by omega)
    have hlt:=J9W hri (i:=i) (by omega) hi
    rw [show ((i : Int) - 1) = 0 + (i : Int) - 1 by omega,show J6 ns (i : Int) = J6 ns (0 + (i : Int)) by rw [Int.zero_add]] at hlt
    walk_at "rd"
    refine ite2 (fun c1=>?_) (fun c1=>?_)
    ·have:=of_decide_eq_true c1
     omega
    ·walk_at "rd"
     exact Here.mk ⟨_,rfl,rfl⟩
   ·walk_at "rd"
    exact Here.mk ⟨_,rfl,rfl⟩
  ·rintro σ H2 hv
   obtain ⟨v1,rfl,eH⟩:=hv.out
   rw [eH]
   have e : J5q as ns < J3L as ns:=by
    unfold cutB at hB
    exact of_decide_eq_true (Bool.and_eq_true_iff.mp (Bool.and_eq_true_iff.mp hB).2).2
   have fi:=J9h ns
   walk_at "rd"
   refine JI as (lvB ns) (fun a y _=>y = V.int a.l) (fun σ=>∃ v,σ = [v,some (.ref nl)]) (J04 (SqL.of ha)) hyl (by omega) ⟨_,rfl⟩ (fun _ _ _ _ _ z=>z) (fun i a v σ H' ha hv hσ s' Rf Rt hF hR=>?_) (fun D3 H4 ys2 hD2 s4 hys2 hDD2=>?_)
   ·obtain ⟨w1,rfl⟩:=hσ
    obtain ⟨y,hy,t,rfl,ht⟩:=hA.get ha
    rw [hv] at hy
    cases hy
    have ht':=s' _ _ ht
    have k':=s' _ _ hn
    have ef : lvB ns a = (inI a.s ns && !inI a.g ns):=rfl
    have g1 : inV (V.int a.s) (ns.map V.int) = inI a.s ns:=J5u _ _
    have g2 : inV (V.int a.g) (ns.map V.int) = inI a.g ns:=J5u _ _
    walk_at "rd"
    refine ite2 (fun c1=>?_) (fun c1=>?_)
    ·have c1' : inI a.s ns = true:=g1 ▸ c1
     walk_at "rd"
     refine ite2 (fun c2=>?_) (fun c2=>?_)
     ·have c2' : (!inI a.g ns) = true:=g2 ▸ c2
      walk_at "rd"
      refine hR _ _ _ ?_ ⟨_,rfl⟩ (Same.refl _) rfl
      rw [ef,c1',c2']
      rfl
     ·have c2' : ¬ (!inI a.g ns) = true:=g2 ▸ c2
      refine hF _ _ ?_ ⟨_,rfl⟩ (Same.refl _)
      rw [ef,c1',Bool.eq_false_iff.mpr c2']
      rfl
    ·have c1' : ¬ inI a.s ns = true:=g1 ▸ c1
     refine hF _ _ ?_ ⟨_,rfl⟩ (Same.refl _)
     rw [ef,Bool.eq_false_iff.mpr c1']
     rfl
   rw [J3V (f:=fun a : Ar=>a.l) hys2] at hDD2
   have hSq2:=SqL.of (K:=K) hDD2
   have ha4:=s4 _ _ ha
   have hn4:=s4 _ _ hn
   have A4:=hA.imp (H':=H4) (P':=ArT) fun a y=>ArT.keeps a y _ _ s4.keeps
   walk_at "rd"
   refine JI as (cmB ns) (fun a y _=>y = V.int a.m) (fun σ=>∃ v,σ = [v,some (.ref nl)]) (J04 (SqL.of ha4)) hyl (by omega) ⟨_,rfl⟩ (fun _ _ _ _ _ z=>z) (fun i a v σ H' ha hv hσ s' Rf Rt hF hR=>?_) (fun D4 H5 ys3 hD3 s5 hys3 hDD3=>?_)
   ·obtain ⟨w1,rfl⟩:=hσ
    obtain ⟨y,hy,t,rfl,ht⟩:=A4.get ha
    rw [hv] at hy
    cases hy
    have ht':=s' _ _ ht
    have k':=s' _ _ hn4
    have ef : cmB ns a = (inI a.g ns && !inI a.s ns):=rfl
    have g1 : inV (V.int a.s) (ns.map V.int) = inI a.s ns:=J5u _ _
    have g2 : inV (V.int a.g) (ns.map V.int) = inI a.g ns:=J5u _ _
    walk_at "rd"
    refine ite2 (fun c1=>?_) (fun c1=>?_)
    ·have c1' : inI a.g ns = true:=g2 ▸ c1
     walk_at "rd"
     refine ite2 (fun c2=>?_) (fun c2=>?_)
     ·have c2' : (!inI a.s ns) = true:=g1 ▸ c2
      walk_at "rd"
      refine hR _ _ _ ?_ ⟨_,rfl⟩ (Same.refl _) rfl
      rw [ef,c1',c2']
      rfl
     ·have c2' : ¬ (!inI a.s ns) = true:=g1 ▸ c2
      refine hF _ _ ?_ ⟨_,rfl⟩ (Same.refl _)
      rw [ef,c1',Bool.eq_false_iff.mpr c2']
      rfl
    ·have c1' : ¬ inI a.g ns = true:=g2 ▸ c1
     refine hF _ _ ?_ ⟨_,rfl⟩ (Same.refl _)
     rw [ef,Bool.eq_false_iff.mpr c1']
     rfl
   rw [J3V (f:=fun a : Ar=>a.m) hys3] at hDD3
   have hSq3:=SqL.of (K:=K) hDD3
   have S5:=s4.trans s5
   have hn5:=S5 _ _ hn
   walk_at "rd"
   refine ite2 (fun c=>?_) (fun c=>?_)
   ·walk_at "rd"
    intro t1 nt1
    obtain ⟨H6,e6,ht1,s6⟩:=newl (xs:=ns.map V.int) nt1
    rw [← e6]
    have S6:=S5.trans s6
    have N6:=hN.same S6
    walk_at "rd"
    intro H7 s7
    rw [hB]
    walk_at "rd"
    exact q H7 (S6.trans s7)
   ·exact absurd (decide_eq_true e) c
end
noncomputable def Told (H : Hp) (t : Addr) (m : Nat) (as : List Ar) : Prop:=(∃ (fl pr : Addr) (fs ps : List Int),H t = some (.tup [T [102,108,111,119],.ref fl,.ref pr]) ∧ H fl = some (.lst (fs.map V.int)) ∧ H pr = some (.lst (ps.map V.int)) ∧ fs.length = as.length ∧ ps.length = m ∧ RP as fs ps ∧ ((spF m (fs.zip as)).any nzB) = false) ∨ ∃ (l : Addr) (X : List Int),H t = some (.tup [T [99,117,116],.ref l]) ∧ H l = some (.lst ((outL m X).map V.int)) ∧ comM as X < outM as X
noncomputable def J8v (C : Addr) : Sp:=fun vs H Q _=>∃ (np al t : Addr) (m : Nat) (xs : List V) (as : List Ar),vs = [.ref np,.int m,.ref al,.ref t] ∧ NetA C H np m xs as ∧ H al = some (.lst xs) ∧ m ≤ 100 ∧ as.length ≤ 500 ∧ (∀ a ∈ as,ArOk m a) ∧ Told H t m as ∧ ∀ H',Same H H' → Q (.bl true) H'
section
variable {P : Program} {w : World} {K : PySem.W.Frag} {mg : Str → Option Value} {base : Heap} {Je J8 J4 : Addr}
theorem J5e (tx : Tx K mg Je J8 J4) : FnG P w K mg base "_law_right" 5 ["_law_net","_law_many","_law_arcs","_law_found"] (J8v Je):=by
 have J0W:=J3Z (P:=P) (w:=w) (base:=base) tx
 have J3i:=J67 (P:=P) (w:=w) (base:=base) tx
 have J46:=J7k (P:=P) (w:=w) (base:=base) tx
 refine tx.J5f.g J4F (fun _ _ _ _ _ _ us hl=>match us,hl with | [_,_,_,_],_=>rfl) (fun vs H Q E h=>?_) (fun f cdv A outer s H vs Q E hr h=>?_)
 ·obtain ⟨np,al,t,m,xs,as,rfl,_⟩:=h
  rfl
 ·obtain ⟨np,al,t,m,xs,as,rfl,hN,hal,hm,hal5,hok,hT,q⟩:=h
  refine ⟨_,(J5 (JP (PW.pt (J1E (J0U (J0A (Jp J6z rfl tx.JV J0v (J0 (pv 3) (J0 (J5k tx.J3a J5s) J9))))) (J1w (Jm J15 (Jp (Js (K:=K) rfl) rfl tx.J0C PySem.boot_len (J0 (pv 3) J9)) J2 (Jr _))))) (Jd (Jv J0H)) Ju)
   (J5 (JP (Jm J15 (Jg (Ji (K:=K) rfl) (pv 3) J2 (fun _ _=>rfl)) (J4P (l:=[102,108,111,119]) (by decide +kernel)) (Jr _)) (J5 (JP (PW.pt (J1E (Jm J2J (Jp (Js (K:=K) rfl) rfl tx.J0C PySem.boot_len (J0 (pv 3) J9)) J2 (Jr _)) (J1E (J0U (J0A (JL J0W (hr.mono (by decide)) (J0 (Jg (Ji (K:=K) rfl) (pv 3) J2 (fun _ _=>rfl)) (J0 (Jp (Js (K:=K) rfl) rfl tx.J0C PySem.boot_len (J0 (pv 2) J9)) J9))))) (J1w (J0U (J0A (JL J0W (hr.mono (by decide)) (J0 (Jg (Ji (K:=K) rfl) (pv 3) J2 (fun _ _=>rfl)) (J0 (pv 1) J9))))))))) (Jd (Jv J0H)) Ju)
   (Jd (Jv (JL J3i (hr.mono (by decide)) (J0 (pv 0) (J0 (pv 1) (J0 (pv 2) (J0 (Jg (Ji (K:=K) rfl) (pv 3) J2 (fun _ _=>rfl)) (J0 (Jg (Ji (K:=K) rfl) (pv 3) J2 (fun _ _=>rfl)) J9))))))))) Ju)
   (J5 (JP (PW.pt (J1E (Jm J2J (Jg (Ji (K:=K) rfl) (pv 3) J2 (fun _ _=>rfl)) (J4P (l:=[99,117,116]) (by decide +kernel)) (Jr _)) (J1E (Jm J2J (Jp (Js (K:=K) rfl) rfl tx.J0C PySem.boot_len (J0 (pv 3) J9)) J2 (Jr _)) (J1w (J0U (J0A (Jp J2n rfl tx.JV J0v (J0 (Jg (Ji (K:=K) rfl) (pv 3) J2 (fun _ _=>rfl)) (J0 (J5k tx.J0Q J03) J9))))))))) (Jd (Jv J0H)) Ju)
   (J5 (JP (J0U (J0A (JL J0W (hr.mono (by decide)) (J0 (Jg (Ji (K:=K) rfl) (pv 3) J2 (fun _ _=>rfl)) (J0 (Jp (Js (K:=K) rfl) rfl tx.J0C PySem.boot_len (J0 (Jg (Ji (K:=K) rfl) (pv 3) J2 (fun _ _=>rfl)) J9)) J9))))) (Jd (Jv J0H)) Ju)
   (Jd (Jv (JL J46 (hr.mono (by decide)) (J0 (pv 0) (J0 (pv 1) (J0 (pv 2) (J0 (Jg (Ji (K:=K) rfl) (pv 3) J2 (fun _ _=>rfl)) J9))))))))))),?_⟩
  walk_at "st"
  clear J0W J3i J46
  have hyl : xs.length = as.length:=by
   obtain ⟨_,_,_,h⟩:=hN
   exact h.len
  rcases hT with ⟨fl,pr,fs,ps,ht,hfl,hpr,hfs,hps,hRP,h0⟩ | ⟨l,X,ht,hl,hX⟩
  ·have hsqt : SqL K H t [T [102,108,111,119],.ref fl,.ref pr] ∨ SqT K H t [T [102,108,111,119],.ref fl,.ref pr]:=.inr (SqT.of ht)
   have hfx : fs.length = xs.length:=by omega
   have hx5 : xs.length ≤ 500:=by omega
   have m5 : m ≤ 500:=by omega
   walk_at "rd"
   intro H1 s1
   have ht1:=s1 _ _ ht
   have hpr1:=s1 _ _ hpr
   walk_at "rd"
   intro H2 s2
   have S2:=s1.trans s2
   have ht2:=S2 _ _ ht
   have hfl2:=S2 _ _ hfl
   have hpr2:=S2 _ _ hpr
   have hal2:=S2 _ _ hal
   have N2:=hN.same S2
   walk_at "rd"
   intro H3 s3
   exact q H3 (S2.trans s3)
  ·have hsqt : SqL K H t [T [99,117,116],.ref l] ∨ SqT K H t [T [99,117,116],.ref l]:=.inr (SqT.of ht)
   have lo:=Ja0 m X
   have hL : ((outL m X).map V.int).length = (outL m X).length:=List.length_map _
   have hcut:=Jae hok hX
   have hri:=J5D m X
   have hrg : ∀ x ∈ outL m X,0 ≤ x ∧ x < (m : Int):=fun x hx=>⟨(J2I.mp hx).1,(J2I.mp hx).2.1⟩
   generalize outL m X = ns at hl lo hL hcut hri hrg
   have ln5 : ns.length ≤ 500:=by omega
   walk_at "rd"
   rw [hL]
   walk_at "rd"
   intro H1 s1
   have ht1:=s1 _ _ ht
   have hl1:=s1 _ _ hl
   have hal1:=s1 _ _ hal
   have N1:=hN.same s1
   walk_at "rd"
   intro H2 s2
   exact q H2 (s1.trans s2)
end
noncomputable def J9H : Sp:=fun vs H Q _=>∃ (cl : Addr) (cs : List Int) (fi : Int),vs = [.ref cl,.int fi] ∧ H cl = some (.lst (cs.map V.int)) ∧ 1 ≤ cs.length ∧ cs.length ≤ 9 ∧ ∀ (al : Addr) (H' : Hp) (xs : List V) (as : List Ar),Same H H' → H al = none → H' al = some (.lst xs) → All2 ArT H' as xs → as.length ≤ 50 → (∀ a ∈ as,ArOk 40 a ∧ a.l ≤ a.m) → Q (.ref al) H'
structure AL (m : Nat) (H0 H : Hp) (al : Addr) (ys : List V) (as : List Ar) : Prop where
 l : H al = some (.lst ys)
 A : All2 ArT H as ys
 ok : ∀ a ∈ as,ArOk m a ∧ a.l ≤ a.m
 s : Same H0 H
theorem AL.same {m : Nat} {H0 H H' : Hp} {al : Addr} {ys : List V} {as : List Ar} (x : AL m H0 H al ys as) (s : Same H H') : AL m H0 H' al ys as :=
 ⟨s _ _ x.l,x.A.imp fun a y=>ArT.keeps a y _ _ s.keeps,x.ok,x.s.trans s⟩
theorem AL.snoc {m : Nat} {H0 H : Hp} {al t : Addr} {ys : List V} {as : List Ar} {a : Ar} (x : AL m H0 H al ys as) (n : H0 al = none) (ht : H t = some (.tup [.int a.s,.int a.g,.int a.l,.int a.m,.int a.c])) (h : ArOk m a ∧ a.l ≤ a.m) : AL m H0 (upd H al (.lst (ys ++ [.ref t]))) al (ys ++ [.ref t]) (as ++ [a]):=by
 have kk : J1i H (upd H al (.lst (ys ++ [.ref t]))):=J1N x.l
 refine ⟨Jc,All2.snoc (x.A.imp fun a y=>ArT.keeps a y _ _ kk) (ArT.keeps _ _ _ _ kk ⟨t,rfl,ht⟩),fun b hb=>?_,x.s.upd n⟩
 rcases List.mem_append.mp hb with z | z
 ·exact x.ok b z
 ·rw [List.mem_singleton.mp z]
  exact h
theorem All2.dropL {α : Type} {P : α → V → Hp → Prop} {H : Hp} : ∀ {as : List α} {ys : List V} (n : Nat),All2 P H as ys → All2 P H (as.drop n) (ys.drop n)
 | _,_,0,h=>h
 | [],[],_ + 1,_=>trivial
 | _ :: _,_ :: _,n + 1,h=>All2.dropL n h.2
 | [],_ :: _,_,h=>h.elim
 | _ :: _,[],_,h=>h.elim
theorem All2.takeL {α : Type} {P : α → V → Hp → Prop} {H : Hp} : ∀ {as : List α} {ys : List V} (n : Nat),All2 P H as ys → All2 P H (as.take n) (ys.take n)
 | _,_,0,_=>by rw [List.take_zero,List.take_zero]; exact trivial
 | [],[],_ + 1,_=>trivial
 | _ :: _,_ :: _,n + 1,h=>⟨h.1,All2.takeL n h.2⟩
 | [],_ :: _,_,h=>h.elim
 | _ :: _,[],_,h=>h.elim
theorem J8T (ns : List Int) (lo hi : Option Int) : cutV (ns.map V.int) lo hi = (cutN ns lo hi).map V.int:=by
 unfold cutV cutN
 rw [List.length_map,List.map_take,List.map_drop]
theorem Jap {α : Type} (l : List α) (k : Nat) : (cutN l none (some (k : Int))).length ≤ k:=by
 rw [J8I _ _ (by omega),List.length_take,Int.toNat_natCast]
 omega
section
variable {P : Program} {w : World} {K : PySem.W.Frag} {mg : Str → Option Value} {base : Heap} {Je J8 J4 : Addr}
theorem J60 (tx : Tx K mg Je J8 J4) : FnG P w K mg base "_law_long" 3 ["_law_cells","_law_first"] J9H:=by
 have J0D:=J2W (P:=P) (w:=w) (base:=base) tx
 refine tx.J62.g J08 (fun _ _ _ _ _ _ us hl=>match us,hl with | [_,_],_=>rfl) (fun vs H Q E h=>?_) (fun f cdv A outer s H vs Q E hr h=>?_)
 ·obtain ⟨cl,cs,fi,rfl,_⟩:=h
  rfl
 ·obtain ⟨cl,cs,fi,rfl,hcl,c1,c9,q⟩:=h
  refine ⟨_,(J5 (Jo (i:=2) J08.nd rfl (Or.inl rfl) (J1l J9))
   (J5 (J0L PassesOwn.never rfl (J0F rfl tx.J0I (J0 J2 J9)) (Jn (i:=3) J08.nd rfl (Or.inl rfl)) (J5 (Jo (i:=4) J08.nd rfl (Or.inl rfl) (JL J0D (hr.mono (by decide)) (J0 (Jj J0r (Jj J0M (Jg (Jk (K:=K) rfl) (pv 0) (Jj Jy (pv 3) (Jp (Js (K:=K) rfl) rfl tx.J0C PySem.boot_len (J0 (pv 0) J9))) (fun _ _=>rfl)) J2) (pv 3)) (J0 J2 J9))))
   (J5 (Jo (i:=5) J08.nd rfl (Or.inl rfl) (Jj Jy (Jg (Jk (K:=K) rfl) (pv 4) J2 (fun _ _=>rfl)) J2))
   (J5 (J1k (JP (Jm J15 (Jj Jy (Jg (Jk (K:=K) rfl) (pv 0) (Jj Jy (pv 3) (Jp (Js (K:=K) rfl) rfl tx.J0C PySem.boot_len (J0 (pv 0) J9))) (fun _ _=>rfl)) J2) J2 (Jr _)) (Jd (Jo (i:=5) J08.nd rfl (Or.inl rfl) (Jj Jy (Jj J0M (Jg (Jk (K:=K) rfl) (pv 0) (Jj Jy (pv 3) (Jp (Js (K:=K) rfl) rfl tx.J0C PySem.boot_len (J0 (pv 0) J9))) (fun _ _=>rfl)) J2) (Jj J4T J2 J2)))) Ju))
   (Jd (J0K (J33 PySem.F.plainAttrs_list PySem.F.slot_list_append PySem.F.type_list_append J0p (pv 2) (J0 (J1u (J0 (pv 3) (J0 (Jj J0r (pv 3) J2) (J0 J2 (J0 (Jj J0r J2 (Jj Jy (Jg (Jk (K:=K) rfl) (pv 4) J2 (fun _ _=>rfl)) J2)) (J0 (pv 5) J9)))))) J9))))))))
   (J5 (J0L PassesOwn.never rfl (JS (K:=K) rfl (J2B (J2D (K:=K) rfl) (pv 0) J51 (J2x J2))) (Jn (i:=6) J08.nd rfl (Or.inl rfl)) (J5 (Jo (i:=4) J08.nd rfl (Or.inl rfl) (JL J0D (hr.mono (by decide)) (J0 (pv 6) (J0 J2 J9))))
   (Jd (J0K (J33 PySem.F.plainAttrs_list PySem.F.slot_list_append PySem.F.type_list_append J0p (pv 2) (J0 (J1u (J0 (Jj Jy (Jg (Jk (K:=K) rfl) (pv 4) J2 (fun _ _=>rfl)) J2) (J0 (Jj Jy (Jg (Jk (K:=K) rfl) (pv 4) J2 (fun _ _=>rfl)) J2) (J0 J2 (J0 (Jj Jy (Jg (Jk (K:=K) rfl) (pv 4) J2 (fun _ _=>rfl)) J2) (J0 (Jj Jy (Jg (Jk (K:=K) rfl) (pv 4) J2 (fun _ _=>rfl)) J2) J9)))))) J9))))))
   (J5 (J0K (J33 PySem.F.plainAttrs_list PySem.F.slot_list_insert PySem.F.type_list_insert J7x (pv 2) (J0 (Jj Jy (pv 1) (Jp (Js (K:=K) rfl) rfl tx.J0C PySem.boot_len (J0 (pv 2) J9))) (J0 (J1u (J0 J2 (J0 J2 (J0 (Jj Jy (pv 1) J2) (J0 (Jj J0r J2 (Jj Jy (pv 1) J2)) (J0 (Jj J1j J2 (Jj Jy (pv 1) (Jj J4T J2 J2))) J9)))))) J9))))
   (Jd (Jv (pv 2))))))),?_⟩
  walk_at "st"
  clear J0D
  have p30 : CPow 10 30:=⟨by decide,by decide,by decide⟩
  have p32 : CPow 10 32:=⟨by decide,by decide,by decide⟩
  have z30 : (0 : Int) < 10 ^ (30 : Int).toNat:=by decide
  have z32 : (0 : Int) < 10 ^ (32 : Int).toNat:=by decide
  walk_at "rd"
  intro al nal
  obtain ⟨H1,e1,hal,s1⟩:=newl (xs:=[]) nal
  rw [← e1]
  have hcl1:=s1 _ _ hcl
  walk_at "rd"
  have hL : (cs.map V.int).length = cs.length:=List.length_map _
  refine J1F (n:=39) (fun i σ H2=>Here (∃ v3 v4 v5 ys as,σ = [some (.ref cl),some (.int fi),some (.ref al),v3,v4,v5,none] ∧ AL 40 H H2 al ys as ∧ as.length = i)) (Here.mk ⟨none,none,none,[],[],rfl,⟨hal,trivial,fun _ h=>(by cases h),s1⟩,rfl⟩) ?_ ?_
  ·rintro i σ H2 hi hv
   obtain ⟨v3,v4,v5,ys,as,rfl,X,la⟩:=hv.out
   have hcl2:=X.s _ _ hcl
   have hyl:=X.A.len
   have g0 : 0 ≤ (0 + (i : Int)) % ((cs.map V.int).length : Int):=Int.emod_nonneg _ (by omega)
   have g1 : (0 + (i : Int)) % ((cs.map V.int).length : Int) < (cs.length : Int):=by
    rw [hL]
    exact Int.emod_lt_of_pos _ (by omega)
   have e1:=Jt (ns:=cs) g0 g1
   walk_at "rd"
   intro xl H3 xs s3 nxl hxl lxs bxs
   have X3:=X.same s3
   have x0:=Jt (ns:=xs) (k:=0) (by decide) (by omega)
   have x1:=Jt (ns:=xs) (k:=1) (by decide) (by omega)
   have hcl3:=s3 _ _ hcl2
   walk_at "rd"
   refine tCut.mk (fun σ' H'=>Here (∃ co : Int,σ' = [some (.ref cl),some (.int fi),some (.ref al),some (.int (0 + (i : Int))),some (.ref xl),some (.int co),none] ∧ H' = H3)) ?_ ?_
   ·walk_at "rd"
    refine ite2 (fun e=>?_) (fun e=>?_)
    ·walk_at "rd"
     exact Here.mk ⟨_,rfl,rfl⟩
    ·walk_at "rd"
     exact Here.mk ⟨_,rfl,rfl⟩
   rintro σ' H' hv
   obtain ⟨co,rfl,eH⟩:=hv.out
   rw [eH]
   clear hv eH H'
   have m0 : 0 ≤ J6 xs 1 % 4:=Int.emod_nonneg _ (by decide)
   have m1 : J6 xs 1 % 4 < 4:=Int.emod_lt_of_pos _ (by decide)
   have k3:=X3.l
   walk_at "rd"
   intro t ft
   obtain ⟨H5,e5,ht5,s5⟩:=newt (xs:=[V.int (0 + (i : Int)),V.int (0 + (i : Int) + 1),V.int 0,V.int (1 + J6 xs 1 % 4),V.int co]) ft
   rw [← e5]
   have X5:=X3.same s5
   have k5:=X5.l
   walk_at "rd"
   refine Here.mk ⟨_,_,_,_,_,rfl,X5.snoc (a:=⟨0 + (i : Int),0 + (i : Int) + 1,0,1 + J6 xs 1 % 4,co⟩) nal ht5 ⟨⟨?_,?_,?_,?_,?_,?_,?_,?_⟩,?_⟩,?_⟩ <;> first | (simp only; omega) | (rw [List.length_append,List.length_singleton,la])
  ·rintro σ H2 hv
   obtain ⟨v3,v4,v5,ys,as,rfl,X,la⟩:=hv.out
   have hcl2:=X.s _ _ hcl
   walk_at "rd"
   intro sl nsl
   rw [J8T]
   have hcl3:=Jap cs 3
   generalize cutN cs none (some 3) = ds at hcl3 ⊢
   obtain ⟨H4,e4,hsl,s4⟩:=newl (xs:=ds.map V.int) nsl
   rw [← e4]
   have X4:=X.same s4
   have hne : al ≠ sl:=Jb X.l nsl
   walk_at "rd"
   refine J2c (K:=K) (xs:=ds.map V.int) (fun i σ H5=>Here (∃ v3 v4 v5 v6 ys as,σ = [some (.ref cl),some (.int fi),some (.ref al),v3,v4,v5,v6] ∧ AL 40 H H5 al ys as ∧ 39 ≤ as.length ∧ as.length ≤ 39 + i ∧ H5 sl = some (.lst (ds.map V.int)))) (Here.mk ⟨_,_,_,none,_,_,rfl,X4,by omega,by omega,hsl⟩) (fun i σ H5 _ hv=>by obtain ⟨_,_,_,_,_,_,_,_,_,_,e⟩:=hv.out; exact SqL.of e) ?_ ?_
   ·rintro i x σ H5 hx hv
    obtain ⟨v3,v4,v5,v6,ys,as,rfl,X,la,lb,hs5⟩:=hv.out
    have hi : i < ds.length:=by
     have:=(List.getElem?_eq_some_iff.mp hx).1
     rwa [List.length_map] at this
    obtain ⟨c,hc,rfl⟩:=J2H hx
    have hyl:=X.A.len
    walk_at "rd"
    intro xl H6 xs s6 nxl hxl lxs bxs
    have X6:=X.same s6
    have x0:=Jt (ns:=xs) (k:=0) (by decide) (by omega)
    have x1:=Jt (ns:=xs) (k:=1) (by decide) (by omega)
    have x2:=Jt (ns:=xs) (k:=2) (by decide) (by omega)
    have x3:=Jt (ns:=xs) (k:=3) (by decide) (by omega)
    have a0 : 0 ≤ J6 xs 0 % 40:=Int.emod_nonneg _ (by decide)
    have a1 : J6 xs 0 % 40 < 40:=Int.emod_lt_of_pos _ (by decide)
    have b0 : 0 ≤ J6 xs 1 % 40:=Int.emod_nonneg _ (by decide)
    have b1 : J6 xs 1 % 40 < 40:=Int.emod_lt_of_pos _ (by decide)
    have d0 : 0 ≤ J6 xs 2 % 3:=Int.emod_nonneg _ (by decide)
    have d1 : J6 xs 2 % 3 < 3:=Int.emod_lt_of_pos _ (by decide)
    have k6:=X6.l
    walk_at "rd"
    intro t ft
    obtain ⟨H7,e7,ht7,s7⟩:=newt (xs:=[V.int (J6 xs 0 % 40),V.int (J6 xs 1 % 40),V.int 0,V.int (J6 xs 2 % 3),V.int (J6 xs 3 % 7)]) ft
    rw [← e7]
    have X7:=X6.same s7
    have k7:=X7.l
    walk_at "rd"
    refine Here.mk ⟨_,_,_,_,_,_,rfl,X7.snoc (a:=⟨J6 xs 0 % 40,J6 xs 1 % 40,0,J6 xs 2 % 3,J6 xs 3 % 7⟩) nal ht7 ⟨⟨?_,?_,?_,?_,?_,?_,?_,?_⟩,?_⟩,?_,?_,?_⟩
    all_goals first | (simp only; omega) | (rw [List.length_append,List.length_singleton]; omega) | (rw [J7 hne.symm]; exact s7 _ _ (s6 _ _ hs5))
   ·rintro σ H5 hv
    obtain ⟨v3,v4,v5,v6,ys,as,rfl,X,la,lb,hs5⟩:=hv.out
    rw [List.length_map] at lb
    have hyl:=X.A.len
    have k5:=X.l
    have f0 : 0 ≤ fi % (ys.length : Int):=Int.emod_nonneg _ (by omega)
    have f1 : fi % (ys.length : Int) < (ys.length : Int):=Int.emod_lt_of_pos _ (by omega)
    have g0 : 0 ≤ fi % 2:=Int.emod_nonneg _ (by decide)
    have g1 : fi % 2 < 2:=Int.emod_lt_of_pos _ (by decide)
    have h0 : 0 ≤ fi % 3:=Int.emod_nonneg _ (by decide)
    have h1 : fi % 3 < 3:=Int.emod_lt_of_pos _ (by decide)
    walk_at "rd"
    intro t ft
    obtain ⟨H6,e6,ht6,s6⟩:=newt (xs:=[V.int 39,V.int 0,V.int (fi % 2),V.int (1 + fi % 3),V.int (0 - fi % 10 ^ (32 : Int).toNat)]) ft
    rw [← e6]
    have X6:=X.same s6
    have k6:=X6.l
    walk_at "rd"
    generalize (fi % (ys.length : Int)).toNat = n
    have kk : J1i H6 (upd H6 al (.lst (ys.take n ++ [V.ref t] ++ ys.drop n))):=J1N k6
    have A7 : All2 ArT (upd H6 al (.lst (ys.take n ++ [V.ref t] ++ ys.drop n))) as ys:=X6.A.imp fun a y=>ArT.keeps a y _ _ kk
    have ta : ArT ⟨39,0,fi % 2,1 + fi % 3,0 - fi % 10 ^ (32 : Int).toNat⟩ (V.ref t) (upd H6 al (.lst (ys.take n ++ [V.ref t] ++ ys.drop n))):=ArT.keeps _ _ _ _ kk ⟨t,rfl,ht6⟩
    refine q al _ _ (as.take n ++ [⟨39,0,fi % 2,1 + fi % 3,0 - fi % 10 ^ (32 : Int).toNat⟩] ++ as.drop n) (X6.s.upd nal) nal Jc (All2.app (All2.snoc (All2.takeL n A7) ta) (All2.dropL n A7)) ?_ fun b hb=>?_
    ·simp only [List.length_append,List.length_take,List.length_drop,List.length_singleton]; omega
    ·rcases List.mem_append.mp hb with z | z
     ·rcases List.mem_append.mp z with z | z
      ·exact X.ok b (List.mem_of_mem_take z)
      ·rw [List.mem_singleton.mp z]
       refine ⟨⟨?_,?_,?_,?_,?_,?_,?_,?_⟩,?_⟩ <;> simp only <;> omega
     ·exact X.ok b (List.mem_of_mem_drop z)
end
noncomputable def Obj3 (o : HO) : Prop:=(∃ l,o = .lst l) ∨ (∃ l,o = .tup l) ∨ ∃ c d f,o = .ins c d f
structure Fx (C T : Addr) (H : Hp) (al np l2 : Addr) (m : Nat) (xs : List V) (as : List Ar) : Prop where
 S : H al = some (.lst xs)
 A : All2 ArT H as xs
 N : J3N C H np m l2
 l : H l2 = some (.lst xs)
 t : JU H T lpos J0P
theorem Fx.kept {C T : Addr} {H H' : Hp} {al np l2 : Addr} {m : Nat} {xs : List V} {as : List Ar} (x : Fx C T H al np l2 m xs as) (k : ∀ a o,Obj3 o → H a = some o → H' a = some o) (t : JU H' T lpos J0P) : Fx C T H' al np l2 m xs as:=by
 obtain ⟨dx,e⟩:=x.N
 refine ⟨k _ _ (.inl ⟨_,rfl⟩) x.S,x.A.imp fun a y hy=>?_,⟨dx,k _ _ (.inr (.inr ⟨_,_,_,rfl⟩)) e⟩,k _ _ (.inl ⟨_,rfl⟩) x.l,t⟩
 obtain ⟨t,rfl,ht⟩:=hy
 exact ⟨t,rfl,k _ _ (.inr (.inl ⟨_,rfl⟩)) ht⟩
theorem Fx.net {C T : Addr} {H : Hp} {al np l2 : Addr} {m : Nat} {xs : List V} {as : List Ar} (x : Fx C T H al np l2 m xs as) : NetA C H np m xs as:=⟨l2,x.N,x.l,x.A⟩
theorem Fre.obj {T : Addr} {H H' : Hp} (f : Fre T H H') (t : JU H T lpos J0P) : ∀ a o,Obj3 o → H a = some o → H' a = some o:=fun a o ho e=>f a o (fun z=>by
 obtain ⟨ps,e',_⟩:=t
 rw [z,e'] at e
 cases e
 rcases ho with ⟨_,h⟩ | ⟨_,h⟩ | ⟨_,_,_,h⟩ <;> cases h) e
theorem Jaf {H : Hp} {T l : Addr} {ys zs : List V} (t : JU H T lpos J0P) (h : H l = some (.lst ys)) : JU (upd H l (.lst zs)) T lpos J0P:=J5O t fun a o ho e=>by
 rw [J7 fun z=>by
  rw [z,h] at e
  cases e
  rcases ho with ⟨_,h⟩ | ⟨_,h⟩ <;> cases h]
 exact e
noncomputable def wdF (b : Bool) : List Nat:=if b = true then [102,108,111,119] else [99,117,116]
noncomputable def J3g (m : Nat) (as : List Ar) (b : Bool) : Prop:=(b = true ∧ ∃ fs ps : List Int,fs.length = as.length ∧ RP as fs ps ∧ ((spF m (fs.zip as)).any nzB) = false) ∨ (b = false ∧ ∃ X : List Int,X.Nodup ∧ (∀ x ∈ X,0 ≤ x) ∧ comM as X < outM as X)
theorem J3g.one {m : Nat} {as : List Ar} {b c : Bool} (ha : ∀ a ∈ as,ArOk m a) (x : J3g m as b) (y : J3g m as c) : b = c:=by
 rcases x with ⟨rfl,fs,ps,hl,r,h0⟩ | ⟨rfl,X,n,p,h⟩ <;> rcases y with ⟨rfl,fs',ps',hl',r',h0'⟩ | ⟨rfl,X',n',p',h'⟩
 ·rfl
 ·exact absurd h' (r.nocut hl ha h0 n' p')
 ·exact absurd h (r'.nocut hl' ha h0' n p)
 ·rfl
theorem Jci (l : List Int) : (cutN l (some 1) (some 17)).length ≤ 16:=by
 have h : HT.sIx l.length l.length (some 17) - HT.sIx l.length 0 (some 1) ≤ 16:=by
  unfold HT.sIx
  simp only
  (repeat' split) <;> omega
 unfold cutN
 rw [List.length_take]
 exact Nat.le_trans (Nat.min_le_left _ _) h
theorem J74 {m : Nat} {H : Hp} : ∀ {ys : List V},(∀ y ∈ ys,∃ a,ArT a y H ∧ ArOk m a ∧ a.l ≤ a.m) → ∃ as : List Ar,All2 ArT H as ys ∧ ∀ a ∈ as,ArOk m a ∧ a.l ≤ a.m
 | [],_=>⟨[],trivial,fun _ h=>(by cases h)⟩
 | y :: ys,h=>by
  obtain ⟨a,h1,h2⟩:=h y List.mem_cons_self
  obtain ⟨as,h3,h4⟩:=J74 (ys:=ys) fun z hz=>h z (List.mem_cons_of_mem _ hz)
  refine ⟨a :: as,⟨h1,h3⟩,fun b hb=>?_⟩
  rcases List.mem_cons.mp hb with rfl | hb
  ·exact h2
  ·exact h4 b hb
theorem Jcj {xs : List V} {x : V} {m : Nat} (hl : xs.length = m + 1) (h : xs[m]? = some x) : atI xs (-1) = some x:=by
 unfold atI ixN
 rw [if_neg (by decide),if_pos (by omega),Option.bind_some,show (-1 + (xs.length : Int)).toNat = m by omega]
 exact h
section
variable {P : Program} {w : World} {K : PySem.W.Frag} {mg : Str → Option Value} {base : Heap} {Je J8 J4 : Addr}
local macro_rules | `(tactic| walk_at "lk")=>`(tactic| first | exact J0Z _ _ | exact J0Y _ _)
theorem JbW {f : Addr} {fd : FuncData} (tx : Tx K mg Je J8 J4) (F : Fun K "law" "law" J1e f fd) : FnOk P w K mg base CX0 12 f fd ["_law_script"] (J39 J4 K):=by
 have J43:=J7l (P:=P) (w:=w) (base:=base) tx
 have J3y:=J60 (P:=P) (w:=w) (base:=base) tx
 have J26:=J5e (P:=P) (w:=w) (base:=base) tx
 have J3o:=J8f (P:=P) (w:=w) (base:=base) tx
 have Jak:=tx.J11.g (J63 (P:=P) (w:=w) (base:=base) tx)
 refine F.ok J0T (fun vs H Q E h=>?_) (fun cdv A outer s H vs Q E hr h=>?_)
 ·obtain ⟨a,ns,rfl,_⟩:=h
  rfl
 ·obtain ⟨sc,ns,rfl,hS,hns,hT,q⟩:=h
  refine ⟨_,(J5 (Jo (i:=1) J0T.nd rfl (Or.inr rfl) J2)
   (J5 (Jo (i:=2) J0T.nd rfl (Or.inl rfl) J2)
   (J5 (J1k (JP (Jm J29 (Jp (Js (K:=K) rfl) rfl tx.J0C PySem.boot_len (J0 (pv 0) J9)) J2 (Jr _)) (J5 (Jo (i:=2) J0T.nd rfl (Or.inl rfl) (Jg (Jk (K:=K) rfl) (pv 0) J2 (fun _ _=>rfl)))
   (Jd (Jo (i:=1) J0T.nd rfl (Or.inr rfl) (Jj Jy (pv 2) J2)))) Ju))
   (J5 (Jo (i:=3) J0T.nd rfl (Or.inl rfl) (J1l J9))
   (J5 (J1k (JP (Jm J29 (pv 1) J2 (Jr _)) (Jd (J3e (k:=3) (osc:=J3 J1e) (ON:=["_law_script","_law_many","_law_first","_law_arcs","_law_net","_law_found","_law_word","_law_again"]) (N:=["_law_cell","_law_many"]) (js:=[none,some 1]) J0T.nd rfl (Or.inl rfl) ⟨rfl,by decide +kernel,by decide +kernel,by decide +kernel,rfl,by decide +kernel⟩ rfl rfl rfl (JS (K:=K) rfl (J2B (J2D (K:=K) rfl) (pv 0) (J2x J2) (J2x J2))) (fun _ _ _ _ _=>Jn (i:=0) (show List.Nodup (["_law_cell","_law_many"] : List Str) from by decide +kernel) rfl (Or.inl rfl)) (fun _ _ _ _ _=>J0w) (fun _ _ _ _ _=>(JL J43 (hr.mono (by decide)) (J0 (pv 0) (J0 (pv 1) J9)))))) Ju))
   (J5 (J1k (JP (PW.pt (J1x (Jm J15 (Jj Jy (Jj J0M (pv 2) J2) J2) J2 (Jr _)) (J0X (Jm (J90 (K:=K) rfl hr.units0) (pv 3) (J1l J9) (Jr _))))) (Jd (J0K (J33 PySem.F.plainAttrs_list PySem.F.slot_list_append PySem.F.type_list_append J0p (pv 3) (J0 (J1u (J0 (Jg (Ji (K:=K) rfl) (Jg (Jk (K:=K) rfl) (pv 3) (J4n J2S J2) (fun _ _=>rfl)) J2 (fun _ _=>rfl)) (J0 (Jg (Ji (K:=K) rfl) (Jg (Jk (K:=K) rfl) (pv 3) (J4n J2S J2) (fun _ _=>rfl)) J2 (fun _ _=>rfl)) (J0 J2 (J0 J2 (J0 (Jj Jy (Jj J0M (pv 2) J2) J2) J9)))))) J9)))) Ju))
   (J5 (J1k (JP (Jm J15 (Jj Jy (Jj J0M (pv 2) J2) J2) J2 (Jr _)) (J5 (Jo (i:=1) J0T.nd rfl (Or.inr rfl) J2)
   (Jd (Jo (i:=3) J0T.nd rfl (Or.inl rfl) (JL J3y (hr.mono (by decide)) (J0 (J2B (J2D (K:=K) rfl) (pv 0) J51 (J2x J2)) (J0 (pv 2) J9)))))) Ju))
   (J5 (Jo (i:=4) J0T.nd rfl (Or.inl rfl) (J8L (r:=rNet Je) Jak (hr.mono (by decide)) Jc6 (J0 (pv 1) (J0 (J0q J00 rfl tx.J0Q J03 (J0 (pv 3) J9)) J9))))
   (J5 (J1k (Jo (i:=5) J0T.nd rfl (Or.inl rfl) (JL J3o (hr.mono (by decide)) (J0 (pv 4) J9))))
   (J5 (JP (J0U (J0A (JL J26 (hr.mono (by decide)) (J0 (pv 4) (J0 (pv 1) (J0 (pv 3) (J0 (pv 5) J9))))))) (Jd (Jv J0H)) Ju)
   (J5 (Jo (i:=6) J0T.nd rfl (Or.inl rfl) (Jg (Ji (K:=K) rfl) (pv 5) J2 (fun _ _=>rfl)))
   (J5 (J0K (JbH PySem.F.plainAttrs_list PySem.F.slot_list_clear PySem.F.type_list_clear J9g (Jg (Ji (K:=K) rfl) (pv 5) J2 (fun _ _=>rfl))))
   (J5 (J1k (Jo (i:=7) J0T.nd rfl (Or.inl rfl) (JL J3o (hr.mono (by decide)) (J0 (pv 4) J9))))
   (Jd (Jv (J4N (JL J26 (hr.mono (by decide)) (J0 (pv 4) (J0 (pv 1) (J0 (pv 3) (J0 (pv 7) J9))))) (J4N (J18 J15 (Jg (Ji (K:=K) rfl) (pv 7) J2 (fun _ _=>rfl)) (pv 6) (Jr _)) (J4Z (J18 (Jaj (K:=K) rfl (J1p hr)) (Jq (K:=K) rfl (pv 4) rfl) (pv 3) (Jr _)))))))))))))))))))),?_⟩
  walk_at "st"
  clear J43 J3y J26 J3o Jak
  refine J2q ?_
  refine J07 rfl ?_
  dsimp only
  refine J2q ?_
  refine J07 rfl ?_
  dsimp only
  refine J2q ?_
  refine tCut.mk (fun σ' H'=>Here (∃ (m : Nat) (fi : Int),m ≤ 7 ∧ (ns = [] → fi = 0) ∧ σ' = [some (.ref sc),some (.int m),some (.int fi),none,none,none,none,none] ∧ H' = H)) ?_ ?_
  ·walk_at "rd"
   refine ite2 (fun c=>?_) (fun c=>?_)
   ·have hl : 0 < (ns.map V.int).length:=by have:=of_decide_eq_true c; omega
    rw [List.length_map] at hl
    have h0 : atI (ns.map V.int) 0 = some (.int (J6 ns 0)):=Jt (ns:=ns) (k:=0) (by decide) (by omega)
    have m0 : 0 ≤ J6 ns 0 % 8:=Int.emod_nonneg _ (by decide)
    have m1 : J6 ns 0 % 8 < 8:=Int.emod_lt_of_pos _ (by decide)
    walk_at "rd"
    exact Here.mk ⟨(J6 ns 0 % 8).toNat,J6 ns 0,by omega,fun z=>by rw [z] at hl; exact absurd hl (by decide),by rw [show (((J6 ns 0 % 8).toNat : Nat) : Int) = J6 ns 0 % 8 by omega],rfl⟩
   ·exact Here.mk ⟨0,0,by omega,fun _=>rfl,rfl,rfl⟩
  rintro σ' H' hv
  obtain ⟨m,fi,hm6,hfi,rfl,eH⟩:=hv.out
  rw [eH]
  clear hv eH H'
  walk_at "rd"
  intro al nal
  obtain ⟨H2,e2,hal,s2⟩:=newl (xs:=[]) nal
  rw [← e2]
  have hS2:=s2.seq hS
  walk_at "rd"
  refine tCut.mk (fun σ' H'=>Here (∃ (al : Addr) (xs : List V) (as : List Ar),σ' = [some (.ref sc),some (.int m),some (.int fi),some (.ref al),none,none,none,none] ∧ H al = none ∧ AL m H H' al xs as ∧ as.length ≤ 16)) ?_ ?_
  ·walk_at "rd"
   refine ite2 (fun c=>?_) (fun c=>?_)
   ·have hm1 : 1 ≤ m:=by have:=of_decide_eq_true c; omega
    walk_at "rd"
    intro sl nsl
    rw [J8T]
    have hcl:=Jci ns
    generalize cutN ns (some 1) (some 17) = cs at hcl ⊢
    obtain ⟨H4,e4,hsl,s4⟩:=newl (xs:=cs.map V.int) nsl
    rw [← e4]
    refine ⟨sl,rfl,⟨_,SqL.of hsl⟩,?_⟩
    refine JI cs (fun _=>true) (fun _ y H=>∃ a,ArT a y H ∧ ArOk m a ∧ a.l ≤ a.m) (fun σ=>∃ v,σ = [v,some (.int m)]) (J04 (SqL.of hsl)) (by rw [List.length_map]) (by omega) ⟨_,rfl⟩ (fun _ y Ha Hb k h=>by obtain ⟨a,h1,h2⟩:=h; exact ⟨a,ArT.keeps a y Ha Hb k h1,h2⟩) (fun i a v σ H' ha hv hσ s' Rf Rt _ hR=>?_) (fun D H5 ys nD s5 hys hDD=>?_)
    ·obtain ⟨w1,rfl⟩:=hσ
     rw [List.getElem?_map,ha] at hv
     cases hv
     walk_at "rd"
     intro t H6 b s6 ht hb hlm
     exact hR _ _ _ rfl ⟨_,rfl⟩ s6 ⟨b,⟨t,rfl,ht⟩,hb,hlm⟩
    have hyl:=hys.len
    rw [List.filter_eq_self.mpr fun _ _=>rfl] at hyl
    obtain ⟨as,hA,hok⟩:=J74 (m:=m) (H:=H5) (ys:=ys) fun y hy=>by
     obtain ⟨_,_,z⟩:=J5Q hys y hy
     exact z
    have hal':=hA.len
    walk_at "rd"
    exact Here.mk ⟨D,ys,as,rfl,s2.free (s4.free nD),⟨hDD,hA,hok,s2.trans (s4.trans s5)⟩,by omega⟩
   ·walk_at "rd"
    exact Here.mk ⟨al,[],[],rfl,nal,⟨hal,trivial,fun _ h=>(by cases h),s2⟩,Nat.zero_le _⟩
  clear hal hS2 nal e2 s2
  rintro σ' H5 hv
  obtain ⟨al,xs,as,rfl,nal,X,la⟩:=hv.out
  clear hv
  refine tCut.mk (fun σ' H'=>Here (∃ (al : Addr) (xs : List V) (as : List Ar),σ' = [some (.ref sc),some (.int m),some (.int fi),some (.ref al),none,none,none,none] ∧ AL m H H' al xs as ∧ as.length ≤ 17)) ?_ ?_
  ·walk_at "rd"
   refine ite2 (fun c=>?_) (fun c=>?_)
   ·walk_at "rd"
    intro E1 nE1
    obtain ⟨H6,e6,hE1,s6⟩:=newl (xs:=[]) nE1
    rw [← e6]
    have X6:=X.same s6
    have k6:=X6.l
    walk_at "rd"
    refine ite2 (fun c2=>?_) (fun c2=>?_)
    ·obtain ⟨n,hn⟩ : ∃ n,xs.length = n + 1:=by
      cases xs with
      | nil=>cases c2
      | cons a r=>exact ⟨r.length,rfl⟩
     have hyl:=X6.A.len
     obtain ⟨y,hy,t,rfl,ht⟩:=X6.A.get (List.getElem?_eq_getElem (l:=as) (i:=n) (by omega))
     have oka:=(X6.ok _ (List.getElem_mem (l:=as) (n:=n) (by omega))).1
     generalize as[n]'(by omega) = a at ht oka
     obtain ⟨a0,a1,a2,a3,_⟩:=oka
     have hlast:=Jcj hn hy
     walk_at "rd"
     intro t2 ft
     obtain ⟨H7,e7,ht7,s7⟩:=newt (xs:=[V.int a.g,V.int a.s,V.int 0,V.int 60,V.int (fi / 16 % 5)]) ft
     rw [← e7]
     have X7:=X6.same s7
     have k7:=X7.l
     walk_at "rd"
     refine Here.mk ⟨_,_,_,rfl,X7.snoc (a:=⟨a.g,a.s,0,60,fi / 16 % 5⟩) nal ht7 ⟨⟨a2,a3,a0,a1,?_,?_,?_,?_⟩,?_⟩,?_⟩
     all_goals first | (simp only; omega) | (rw [List.length_append,List.length_singleton]; omega)
    ·walk_at "rd"
     exact Here.mk ⟨al,xs,as,rfl,X6,by omega⟩
   ·walk_at "rd"
    exact Here.mk ⟨al,xs,as,rfl,X,by omega⟩
  rintro σ' H6 hv
  obtain ⟨al',xs',as',rfl,X',la'⟩:=hv.out
  clear hv X la nal
  refine tCut.mk (fun σ' H'=>Here (∃ (m : Nat) (al : Addr) (xs : List V) (as : List Ar),m ≤ 40 ∧ σ' = [some (.ref sc),some (.int m),some (.int fi),some (.ref al),none,none,none,none] ∧ AL m H H' al xs as ∧ as.length ≤ 50)) ?_ ?_
  ·walk_at "rd"
   refine ite2 (fun c=>?_) (fun c=>?_)
   ·have hfi0 : fi ≠ 0:=fun z=>by
     rw [z] at c
     exact absurd c (by decide)
    have hn1 : 1 ≤ ns.length:=by
     cases ns with
     | nil=>exact absurd (hfi rfl) hfi0
     | cons _ _=>rw [List.length_cons]; omega
    have hS6:=X'.s.seq hS
    walk_at "rd"
    intro sl nsl
    rw [J8T]
    have hcl:=Jap ns 9
    have hcl2 : 1 ≤ (cutN ns none (some ((9 : Nat) : Int))).length:=by
     rw [J8I _ _ (by omega),List.length_take,Int.toNat_natCast]
     omega
    obtain ⟨cs,ecs⟩ : ∃ cs,cs = cutN ns none (some ((9 : Nat) : Int)):=⟨_,rfl⟩
    rw [← ecs] at hcl hcl2
    have ecs' : cutN ns none (some 9) = cs:=ecs.symm
    rw [ecs']
    obtain ⟨H7,e7,hsl,s7⟩:=newl (xs:=cs.map V.int) nsl
    rw [← e7]
    walk_at "rd"
    intro al2 H8 ys bs s8 nal2 hal2 hA2 lb hok2
    walk_at "rd"
    exact Here.mk ⟨40,al2,ys,bs,by omega,rfl,⟨hal2,hA2,hok2,X'.s.trans (s7.trans s8)⟩,lb⟩
   ·walk_at "rd"
    exact Here.mk ⟨m,_,_,_,by omega,rfl,X',by omega⟩
  clear X' la' hm6 hfi
  rintro σ' H7 hv
  obtain ⟨m,al,xs,as,hm4,rfl,X,la⟩:=hv.out
  clear hv
  have hT7:=hT.same X.s
  have la' : as.length ≤ 500:=by omega
  have lm : m ≤ 100:=by omega
  have hok : ∀ a ∈ as,ArOk m a:=fun a h=>(X.ok a h).1
  have hlm : ∀ a ∈ as,a.l ≤ a.m:=fun a h=>(X.ok a h).2
  have h2:=X.l
  walk_at "rd"
  intro hd nhd
  obtain ⟨H8,e8,hhd,s8⟩:=newl (xs:=xs) nhd
  rw [← e8]
  walk_at "rd"
  intro np H9 l2 s9 hN hl2 nl2
  have S9:=s8.trans s9
  have X9:=X.same S9
  have Fx9 : Fx Je J4 H9 al np l2 m xs as:=⟨X9.l,X9.A,hN,hl2,hT7.same S9⟩
  clear X hT7 h2 hhd e8 s8 s9 nhd hN hl2 nl2 S9 X9
  refine J07 rfl ?_
  dsimp only
  refine J2q ?_
  refine tCut.mk (fun σ' H'=>Here (∃ (t l : Addr) (b : Bool) (zs : List V) (vs : List V),σ' = [some (.ref sc),some (.int m),some (.int fi),some (.ref al),some (.ref np),some (.ref t),none,none] ∧ Told H' t m as ∧ H' t = some (.tup (T (wdF b) :: V.ref l :: vs)) ∧ H' l = some (.lst zs) ∧ H9 l = none ∧ J3g m as b ∧ (∀ a o,Obj3 o → H9 a = some o → H' a = some o) ∧ JU H' J4 lpos J0P)) ?_ ?_
  ·have hA8:=Fx9.A
   have hl8:=Fx9.l
   have hN8:=Fx9.N
   have hT8:=Fx9.t
   walk_at "rd"
   refine ⟨fun Ha t fl pr fs ps fr hTa ht hfl hpr nfl npr nfp hfs hps hRP h0=>?_,fun Ha t l Y fr hTa ht hl nl hY hY0 hc=>?_⟩
   ·refine J07 rfl ?_
    exact Here.mk ⟨t,fl,true,_,_,rfl,.inl ⟨fl,pr,fs,ps,ht,hfl,hpr,hfs,hps,hRP,h0⟩,ht,hfl,nfl,.inl ⟨rfl,fs,ps,hfs,hRP,h0⟩,fr.obj hT8,hTa⟩
   ·refine J07 rfl ?_
    exact Here.mk ⟨t,l,false,_,_,rfl,.inr ⟨l,Y,ht,hl,hc⟩,ht,hl,nl,.inr ⟨rfl,Y,hY,hY0,hc⟩,fr.obj hT8,hTa⟩
  rintro σ' Ha hv
  obtain ⟨t,l,b,zs,vs,rfl,hTo,ht,hl,nl,hSt,ka,hTa⟩:=hv.out
  clear hv
  have Fxa:=Fx9.kept ka hTa
  have Na:=Fxa.net
  have hala:=Fxa.S
  walk_at "rd"
  intro Hb sb
  have htb:=sb _ _ ht
  have hlb:=sb _ _ hl
  have Tb:=hTa.same sb
  have at0 : atI (T (wdF b) :: V.ref l :: vs) 0 = some (T (wdF b)):=@J0z _ _ 0 _ rfl
  have at1 : atI (T (wdF b) :: V.ref l :: vs) 1 = some (V.ref l):=@J0z _ _ 1 _ rfl
  walk_at "rd"
  have Fxc : Fx Je J4 (upd Hb l (.lst [])) al np l2 m xs as:=Fx9.kept (fun a o ho e=>by
   rw [J7 (Jb e nl)]
   exact sb _ _ (ka a o ho e)) (Jaf Tb hlb)
  generalize upd Hb l (.lst []) = Hc at Fxc ⊢
  clear htb hlb Tb at0 at1 Na hala Fxa hTo ht hl nl ka hTa Fx9 sb
  refine tCut.mk (fun σ' H'=>Here (∃ (u : Addr) (vs : List V),σ' = [some (.ref sc),some (.int m),some (.int fi),some (.ref al),some (.ref np),some (.ref t),some (T (wdF b)),some (.ref u)] ∧ Told H' u m as ∧ H' u = some (.tup (T (wdF b) :: vs)) ∧ Fx Je J4 H' al np l2 m xs as)) ?_ ?_
  ·have hA8:=Fxc.A
   have hl8:=Fxc.l
   have hN8:=Fxc.N
   have hT8:=Fxc.t
   walk_at "rd"
   refine ⟨fun Ha t fl pr fs ps fr hTa ht hfl hpr nfl npr nfp hfs hps hRP h0=>?_,fun Ha t l Y fr hTa ht hl nl hY hY0 hc=>?_⟩
   ·refine J07 rfl ?_
    have eb : b = true:=hSt.one hok (.inl ⟨rfl,fs,ps,hfs,hRP,h0⟩)
    subst eb
    exact Here.mk ⟨t,_,rfl,.inl ⟨fl,pr,fs,ps,ht,hfl,hpr,hfs,hps,hRP,h0⟩,ht,Fxc.kept (fr.obj hT8) hTa⟩
   ·refine J07 rfl ?_
    have eb : b = false:=hSt.one hok (.inr ⟨rfl,Y,hY,hY0,hc⟩)
    subst eb
    exact Here.mk ⟨t,_,rfl,.inr ⟨l,Y,ht,hl,hc⟩,ht,Fxc.kept (fr.obj hT8) hTa⟩
  rintro σ' Hd hv
  obtain ⟨u,ws,rfl,hTo,hu,Fxd⟩:=hv.out
  clear hv Fxc
  have Nd:=Fxd.net
  have hald:=Fxd.S
  walk_at "rd"
  intro He se
  have hue:=se _ _ hu
  have Fxe:=Fxd.kept (fun a o _ e=>se a o e) (Fxd.t.same se)
  obtain ⟨dx,hn⟩:=Fxe.N
  have hle:=Fxe.l
  have hale:=Fxe.S
  have alk : J2M K He xs xs:=J2M.same K He xs (ArT.refs Fxe.A)
  have cN:=tx.J11.cl
  have nA:=tx.JA
  have at0 : atI (T (wdF b) :: ws) 0 = some (T (wdF b)):=@J0z _ _ 0 _ rfl
  walk_at "rd"
  rw [if_pos (decide_eq_true rfl)]
  walk_at "rd"
  exact q _
end
open PySem.W in
theorem all_mk {l : OpenLaw} {w : World} {K : Frag} {h : Heap} {mg : Str → Option Value} {fa Je J8 J4 cTab bTab q1 q2 q3 q4 q5 q6 q7 q8 q9 q10 q11 q12 q13 q14 q15 q16 q17 q18 q19 q20 q21 q22 q23 q24 q25 : Addr} (X : K.In h) (G : h.Ns mainGlobals mg) (hfa : mg "law" = some (.ref fa))
  {od1 an1 od2 an2 od3 an3 od4 an4 od5 an5 od6 an6 od7 an7 od8 an8 od9 an9 od10 an10 od11 an11 od12 an12 od13 an13 od14 an14 od15 an15 od16 an16 od17 an17 od18 an18 od19 an19 od20 an20 od21 an21 od22 an22 od23 an23 od24 an24 od25 an25 : Option Addr} {sl1 sl2 sl3 sl4 sl5 sl6 sl7 sl8 sl9 sl10 sl11 sl12 sl13 sl14 sl15 sl16 sl17 sl18 sl19 sl20 sl21 sl22 sl23 sl24 sl25 slTab : Array (Option Value)} {oc1 kV1 dc1 pm1 ct1 cd1 oc2 kV2 dc2 pm2 ct2 cd2 oc3 kV3 dc3 pm3 ct3 cd3 oc4 kV4 dc4 pm4 ct4 cd4 oc5 kV5 dc5 pm5 ct5 cd5 oc6 kV6 dc6 pm6 ct6 cd6 oc7 kV7 dc7 pm7 ct7 cd7 oc8 kV8 dc8 pm8 ct8 cd8 oc9 kV9 dc9 pm9 ct9 cd9 oc10 kV10 dc10 pm10 ct10 cd10 oc11 kV11 dc11 pm11 ct11 cd11 oc12 kV12 dc12 pm12 ct12 cd12 oc13 kV13 dc13 pm13 ct13 cd13 oc14 kV14 dc14 pm14 ct14 oc15 kV15 dc15 pm15 ct15 cd15 oc16 kV16 dc16 pm16 ct16 cd16 oc17 kV17 dc17 pm17 ct17 cd17 oc18 kV18 dc18 pm18 ct18 cd18 oc19 kV19 dc19 pm19 ct19 cd19 oc20 kV20 dc20 pm20 ct20 cd20 oc21 kV21 dc21 pm21 ct21 cd21 oc22 kV22 dc22 pm22 ct22 cd22 oc23 kV23 dc23 pm23 ct23 cd23 oc24 kV24 dc24 pm24 ct24 cd24 oc25 kV25 dc25 pm25 ct25 cd25 : Value}
  (Jal : nsIn K mainGlobals "Net" = some (some (.ref Je)))
  (J8e : nsIn K mainGlobals "Work" = some (some (.ref J8)))
  (a1 : findIn K (.ref Je) "__init__" = some (some (.ref q1)))
  (i1 : isFn K (.ref q1) = true)
  (l1 : K.lookup q1 = some ⟨oc1,od1,.func (fnOf "__init__" "Net.__init__" (Jh J0c) (Jf J0c) (J3 J0c) .none kV1 dc1 pm1 an1 cd1 ct1),sl1⟩)
  (c1 : codeIn K cd1 "Net.__init__" = true)
  (k1 : keepIn K (.ref q1) = true)
  (a2 : findIn K (.ref J8) "__init__" = some (some (.ref q2)))
  (i2 : isFn K (.ref q2) = true)
  (l2 : K.lookup q2 = some ⟨oc2,od2,.func (fnOf "__init__" "Work.__init__" (Jh JN) (Jf JN) (J3 JN) .none kV2 dc2 pm2 an2 cd2 ct2),sl2⟩)
  (c2 : codeIn K cd2 "Work.__init__" = true)
  (k2 : keepIn K (.ref q2) = true)
  (a3 : nsIn K mainGlobals "weight_of" = some (some (.ref q3)))
  (l3 : K.lookup q3 = some ⟨oc3,od3,.func (fnOf "weight_of" "weight_of" (Jh JW) (Jf JW) (J3 JW) .none kV3 dc3 pm3 an3 cd3 ct3),sl3⟩)
  (c3 : codeIn K cd3 "weight_of" = true)
  (k3 : keepIn K (.ref q3) = true)
  (a4 : nsIn K mainGlobals "cost_of" = some (some (.ref q4)))
  (l4 : K.lookup q4 = some ⟨oc4,od4,.func (fnOf "cost_of" "cost_of" (Jh J0m) (Jf J0m) (J3 J0m) .none kV4 dc4 pm4 an4 cd4 ct4),sl4⟩)
  (c4 : codeIn K cd4 "cost_of" = true)
  (k4 : keepIn K (.ref q4) = true)
  (a5 : nsIn K mainGlobals "floor_of" = some (some (.ref q5)))
  (l5 : K.lookup q5 = some ⟨oc5,od5,.func (fnOf "floor_of" "floor_of" (Jh J0f) (Jf J0f) (J3 J0f) .none kV5 dc5 pm5 an5 cd5 ct5),sl5⟩)
  (c5 : codeIn K cd5 "floor_of" = true)
  (k5 : keepIn K (.ref q5) = true)
  (a6 : nsIn K mainGlobals "is_flow" = some (some (.ref q6)))
  (l6 : K.lookup q6 = some ⟨oc6,od6,.func (fnOf "is_flow" "is_flow" (Jh J0l) (Jf J0l) (J3 J0l) .none kV6 dc6 pm6 an6 cd6 ct6),sl6⟩)
  (c6 : codeIn K cd6 "is_flow" = true)
  (k6 : keepIn K (.ref q6) = true)
  (a7 : nsIn K mainGlobals "is_priced" = some (some (.ref q7)))
  (l7 : K.lookup q7 = some ⟨oc7,od7,.func (fnOf "is_priced" "is_priced" (Jh JO) (Jf JO) (J3 JO) .none kV7 dc7 pm7 an7 cd7 ct7),sl7⟩)
  (c7 : codeIn K cd7 "is_priced" = true)
  (k7 : keepIn K (.ref q7) = true)
  (a8 : nsIn K mainGlobals "keeps_price" = some (some (.ref q8)))
  (l8 : K.lookup q8 = some ⟨oc8,od8,.func (fnOf "keeps_price" "keeps_price" (Jh JF) (Jf JF) (J3 JF) .none kV8 dc8 pm8 an8 cd8 ct8),sl8⟩)
  (c8 : codeIn K cd8 "keeps_price" = true)
  (k8 : keepIn K (.ref q8) = true)
  (a9 : nsIn K mainGlobals "is_cut" = some (some (.ref q9)))
  (l9 : K.lookup q9 = some ⟨oc9,od9,.func (fnOf "is_cut" "is_cut" (Jh J0h) (Jf J0h) (J3 J0h) .none kV9 dc9 pm9 an9 cd9 ct9),sl9⟩)
  (c9 : codeIn K cd9 "is_cut" = true)
  (k9 : keepIn K (.ref q9) = true)
  (a10 : nsIn K mainGlobals "marked" = some (some (.ref q10)))
  (l10 : K.lookup q10 = some ⟨oc10,od10,.func (fnOf "marked" "marked" (Jh J0J) (Jf J0J) (J3 J0J) .none kV10 dc10 pm10 an10 cd10 ct10),sl10⟩)
  (c10 : codeIn K cd10 "marked" = true)
  (k10 : keepIn K (.ref q10) = true)
  (a11 : nsIn K mainGlobals "spare_of" = some (some (.ref q11)))
  (l11 : K.lookup q11 = some ⟨oc11,od11,.func (fnOf "spare_of" "spare_of" (Jh J0d) (Jf J0d) (J3 J0d) .none kV11 dc11 pm11 an11 cd11 ct11),sl11⟩)
  (c11 : codeIn K cd11 "spare_of" = true)
  (k11 : keepIn K (.ref q11) = true)
  (a12 : nsIn K mainGlobals "ways_of" = some (some (.ref q12)))
  (l12 : K.lookup q12 = some ⟨oc12,od12,.func (fnOf "ways_of" "ways_of" (Jh J0k) (Jf J0k) (J3 J0k) .none kV12 dc12 pm12 an12 cd12 ct12),sl12⟩)
  (c12 : codeIn K cd12 "ways_of" = true)
  (k12 : keepIn K (.ref q12) = true)
  (a13 : nsIn K mainGlobals "settle" = some (some (.ref q13)))
  (l13 : K.lookup q13 = some ⟨oc13,od13,.func (fnOf "settle" "settle" (Jh J0t) (Jf J0t) (J3 J0t) .none kV13 dc13 pm13 an13 cd13 ct13),sl13⟩)
  (c13 : codeIn K cd13 "settle" = true)
  (k13 : keepIn K (.ref q13) = true)
  (a14 : nsIn K mainGlobals "nearest_lack" = some (some (.ref q14)))
  (l14 : K.lookup q14 = some ⟨oc14,od14,.func (fnOf "nearest_lack" "nearest_lack" (Jh JD) (Jf JD) (J3 JD) .none kV14 dc14 pm14 an14 (.ref cTab) ct14),sl14⟩)
  (c14 : codeIn K (.ref cTab) "nearest_lack" = true)
  (k14 : keepIn K (.ref q14) = true)
  (hC : codeHdIn K cTab J4 = true)
  (bT : nsIn K mainGlobals "__builtins__" = some (some (.ref bTab)))
  (lT : K.lookup bTab = some ⟨.type "module",some builtinsNs,.plain,slTab⟩)
  (a15 : nsIn K mainGlobals "room" = some (some (.ref q15)))
  (l15 : K.lookup q15 = some ⟨oc15,od15,.func (fnOf "room" "room" (Jh J1P) (Jf J1P) (J3 J1P) .none kV15 dc15 pm15 an15 cd15 ct15),sl15⟩)
  (c15 : codeIn K cd15 "room" = true)
  (k15 : keepIn K (.ref q15) = true)
  (a16 : nsIn K mainGlobals "shift_prices" = some (some (.ref q16)))
  (l16 : K.lookup q16 = some ⟨oc16,od16,.func (fnOf "shift_prices" "shift_prices" (Jh JC) (Jf JC) (J3 JC) .none kV16 dc16 pm16 an16 cd16 ct16),sl16⟩)
  (c16 : codeIn K cd16 "shift_prices" = true)
  (k16 : keepIn K (.ref q16) = true)
  (a17 : nsIn K mainGlobals "push" = some (some (.ref q17)))
  (l17 : K.lookup q17 = some ⟨oc17,od17,.func (fnOf "push" "push" (Jh J1t) (Jf J1t) (J3 J1t) .none kV17 dc17 pm17 an17 cd17 ct17),sl17⟩)
  (c17 : codeIn K cd17 "push" = true)
  (k17 : keepIn K (.ref q17) = true)
  (a18 : nsIn K mainGlobals "_law_drawn" = some (some (.ref q18)))
  (l18 : K.lookup q18 = some ⟨oc18,od18,.func (fnOf "_law_drawn" "_law_drawn" (Jh JY) (Jf JY) (J3 JY) .none kV18 dc18 pm18 an18 cd18 ct18),sl18⟩)
  (c18 : codeIn K cd18 "_law_drawn" = true)
  (k18 : keepIn K (.ref q18) = true)
  (a19 : nsIn K mainGlobals "_law_arc" = some (some (.ref q19)))
  (l19 : K.lookup q19 = some ⟨oc19,od19,.func (fnOf "_law_arc" "_law_arc" (Jh J0o) (Jf J0o) (J3 J0o) .none kV19 dc19 pm19 an19 cd19 ct19),sl19⟩)
  (c19 : codeIn K cd19 "_law_arc" = true)
  (k19 : keepIn K (.ref q19) = true)
  (a20 : nsIn K mainGlobals "_law_numbers" = some (some (.ref q20)))
  (l20 : K.lookup q20 = some ⟨oc20,od20,.func (fnOf "_law_numbers" "_law_numbers" (Jh JB) (Jf JB) (J3 JB) .none kV20 dc20 pm20 an20 cd20 ct20),sl20⟩)
  (c20 : codeIn K cd20 "_law_numbers" = true)
  (k20 : keepIn K (.ref q20) = true)
  (a21 : nsIn K mainGlobals "_law_flow" = some (some (.ref q21)))
  (l21 : K.lookup q21 = some ⟨oc21,od21,.func (fnOf "_law_flow" "_law_flow" (Jh JR) (Jf JR) (J3 JR) .none kV21 dc21 pm21 an21 cd21 ct21),sl21⟩)
  (c21 : codeIn K cd21 "_law_flow" = true)
  (k21 : keepIn K (.ref q21) = true)
  (a22 : nsIn K mainGlobals "_law_cut" = some (some (.ref q22)))
  (l22 : K.lookup q22 = some ⟨oc22,od22,.func (fnOf "_law_cut" "_law_cut" (Jh J05) (Jf J05) (J3 J05) .none kV22 dc22 pm22 an22 cd22 ct22),sl22⟩)
  (c22 : codeIn K cd22 "_law_cut" = true)
  (k22 : keepIn K (.ref q22) = true)
  (a23 : nsIn K mainGlobals "_law_right" = some (some (.ref q23)))
  (l23 : K.lookup q23 = some ⟨oc23,od23,.func (fnOf "_law_right" "_law_right" (Jh JZ) (Jf JZ) (J3 JZ) .none kV23 dc23 pm23 an23 cd23 ct23),sl23⟩)
  (c23 : codeIn K cd23 "_law_right" = true)
  (k23 : keepIn K (.ref q23) = true)
  (a24 : nsIn K mainGlobals "_law_long" = some (some (.ref q24)))
  (l24 : K.lookup q24 = some ⟨oc24,od24,.func (fnOf "_law_long" "_law_long" (Jh J0g) (Jf J0g) (J3 J0g) .none kV24 dc24 pm24 an24 cd24 ct24),sl24⟩)
  (c24 : codeIn K cd24 "_law_long" = true)
  (k24 : keepIn K (.ref q24) = true)
  (a25 : nsIn K mainGlobals "law" = some (some (.ref q25)))
  (l25 : K.lookup q25 = some ⟨oc25,od25,.func (fnOf "law" "law" (Jh J1e) (Jf J1e) (J3 J1e) .none kV25 dc25 pm25 an25 cd25 ct25),sl25⟩)
  (c25 : codeIn K cd25 "law" = true)
  (k25 : keepIn K (.ref q25) = true)
  (J8r : plainGet K Je Str.empty = true)
  (J8u : hasDictIn K Je = true)
  (J8p : plainOver K Je = true)
  (J8s : findIn K (.ref Je) "__setattr__" = some (some (.builtin "object.__setattr__")))
  (J8d : makesIn K Je = true)
  (J8b : keepIn K (.ref Je) = true)
  (J6E : plainGet K J8 Str.empty = true)
  (J6G : hasDictIn K J8 = true)
  (J6I : plainOver K J8 = true)
  (J6M : findIn K (.ref J8) "__setattr__" = some (some (.builtin "object.__setattr__")))
  (J6H : makesIn K J8 = true)
  (J6K : keepIn K (.ref J8) = true)
  (JH : findIn K (.ref Je) "many" = some none)
  (JA : findIn K (.ref Je) "arcs" = some none)
  (J0R : findIn K (.ref J8) "net" = some none)
  (J01 : findIn K (.ref J8) "prices" = some none)
  (JX : findIn K (.ref J8) "flows" = some none)
  (J0e : findIn K (.ref J8) "spare" = some none)
  (J10 : findIn K (.ref J8) "ways" = some none)
  (J3q : nsIn K mainGlobals "all" = some none)
  (J54 : nsIn K mainGlobals "any" = some none)
  (J4z : nsIn K mainGlobals "bool" = some none)
  (J1n : nsIn K mainGlobals "enumerate" = some none)
  (J6L : nsIn K mainGlobals "int" = some none)
  (JV : nsIn K mainGlobals "isinstance" = some none)
  (J0C : nsIn K mainGlobals "len" = some none)
  (J0Q : nsIn K mainGlobals "list" = some none)
  (J45 : nsIn K mainGlobals "min" = some none)
  (J0I : nsIn K mainGlobals "range" = some none)
  (J6F : nsIn K mainGlobals "set" = some none)
  (J2Y : nsIn K mainGlobals "sum" = some none)
  (J3a : nsIn K mainGlobals "tuple" = some none)
  (J2V : nsIn K mainGlobals "zip" = some none)
  (J6b : nsIn (Ja J4 K) mainGlobals "Net" = some (some (.ref Je)))
  (J4w : nsIn (Ja J4 K) mainGlobals "Work" = some (some (.ref J8)))
  (a1T : findIn (Ja J4 K) (.ref Je) "__init__" = some (some (.ref q1)))
  (i1T : isFn (Ja J4 K) (.ref q1) = true)
  (l1T : (Ja J4 K).lookup q1 = some ⟨oc1,od1,.func (fnOf "__init__" "Net.__init__" (Jh J0c) (Jf J0c) (J3 J0c) .none kV1 dc1 pm1 an1 cd1 ct1),sl1⟩)
  (c1T : codeIn (Ja J4 K) cd1 "Net.__init__" = true)
  (k1T : keepIn (Ja J4 K) (.ref q1) = true)
  (a2T : findIn (Ja J4 K) (.ref J8) "__init__" = some (some (.ref q2)))
  (i2T : isFn (Ja J4 K) (.ref q2) = true)
  (l2T : (Ja J4 K).lookup q2 = some ⟨oc2,od2,.func (fnOf "__init__" "Work.__init__" (Jh JN) (Jf JN) (J3 JN) .none kV2 dc2 pm2 an2 cd2 ct2),sl2⟩)
  (c2T : codeIn (Ja J4 K) cd2 "Work.__init__" = true)
  (k2T : keepIn (Ja J4 K) (.ref q2) = true)
  (a3T : nsIn (Ja J4 K) mainGlobals "weight_of" = some (some (.ref q3)))
  (l3T : (Ja J4 K).lookup q3 = some ⟨oc3,od3,.func (fnOf "weight_of" "weight_of" (Jh JW) (Jf JW) (J3 JW) .none kV3 dc3 pm3 an3 cd3 ct3),sl3⟩)
  (c3T : codeIn (Ja J4 K) cd3 "weight_of" = true)
  (k3T : keepIn (Ja J4 K) (.ref q3) = true)
  (a4T : nsIn (Ja J4 K) mainGlobals "cost_of" = some (some (.ref q4)))
  (l4T : (Ja J4 K).lookup q4 = some ⟨oc4,od4,.func (fnOf "cost_of" "cost_of" (Jh J0m) (Jf J0m) (J3 J0m) .none kV4 dc4 pm4 an4 cd4 ct4),sl4⟩)
  (c4T : codeIn (Ja J4 K) cd4 "cost_of" = true)
  (k4T : keepIn (Ja J4 K) (.ref q4) = true)
  (a5T : nsIn (Ja J4 K) mainGlobals "floor_of" = some (some (.ref q5)))
  (l5T : (Ja J4 K).lookup q5 = some ⟨oc5,od5,.func (fnOf "floor_of" "floor_of" (Jh J0f) (Jf J0f) (J3 J0f) .none kV5 dc5 pm5 an5 cd5 ct5),sl5⟩)
  (c5T : codeIn (Ja J4 K) cd5 "floor_of" = true)
  (k5T : keepIn (Ja J4 K) (.ref q5) = true)
  (a6T : nsIn (Ja J4 K) mainGlobals "is_flow" = some (some (.ref q6)))
  (l6T : (Ja J4 K).lookup q6 = some ⟨oc6,od6,.func (fnOf "is_flow" "is_flow" (Jh J0l) (Jf J0l) (J3 J0l) .none kV6 dc6 pm6 an6 cd6 ct6),sl6⟩)
  (c6T : codeIn (Ja J4 K) cd6 "is_flow" = true)
  (k6T : keepIn (Ja J4 K) (.ref q6) = true)
  (a7T : nsIn (Ja J4 K) mainGlobals "is_priced" = some (some (.ref q7)))
  (l7T : (Ja J4 K).lookup q7 = some ⟨oc7,od7,.func (fnOf "is_priced" "is_priced" (Jh JO) (Jf JO) (J3 JO) .none kV7 dc7 pm7 an7 cd7 ct7),sl7⟩)
  (c7T : codeIn (Ja J4 K) cd7 "is_priced" = true)
  (k7T : keepIn (Ja J4 K) (.ref q7) = true)
  (a8T : nsIn (Ja J4 K) mainGlobals "keeps_price" = some (some (.ref q8)))
  (l8T : (Ja J4 K).lookup q8 = some ⟨oc8,od8,.func (fnOf "keeps_price" "keeps_price" (Jh JF) (Jf JF) (J3 JF) .none kV8 dc8 pm8 an8 cd8 ct8),sl8⟩)
  (c8T : codeIn (Ja J4 K) cd8 "keeps_price" = true)
  (k8T : keepIn (Ja J4 K) (.ref q8) = true)
  (a9T : nsIn (Ja J4 K) mainGlobals "is_cut" = some (some (.ref q9)))
  (l9T : (Ja J4 K).lookup q9 = some ⟨oc9,od9,.func (fnOf "is_cut" "is_cut" (Jh J0h) (Jf J0h) (J3 J0h) .none kV9 dc9 pm9 an9 cd9 ct9),sl9⟩)
  (c9T : codeIn (Ja J4 K) cd9 "is_cut" = true)
  (k9T : keepIn (Ja J4 K) (.ref q9) = true)
  (JaF : nsIn (Ja J4 K) mainGlobals "marked" = some (some (.ref q10)))
  (Jb9 : (Ja J4 K).lookup q10 = some ⟨oc10,od10,.func (fnOf "marked" "marked" (Jh J0J) (Jf J0J) (J3 J0J) .none kV10 dc10 pm10 an10 cd10 ct10),sl10⟩)
  (JbA : codeIn (Ja J4 K) cd10 "marked" = true)
  (Jbh : keepIn (Ja J4 K) (.ref q10) = true)
  (JaT : nsIn (Ja J4 K) mainGlobals "spare_of" = some (some (.ref q11)))
  (JaD : (Ja J4 K).lookup q11 = some ⟨oc11,od11,.func (fnOf "spare_of" "spare_of" (Jh J0d) (Jf J0d) (J3 J0d) .none kV11 dc11 pm11 an11 cd11 ct11),sl11⟩)
  (JaK : codeIn (Ja J4 K) cd11 "spare_of" = true)
  (Jbk : keepIn (Ja J4 K) (.ref q11) = true)
  (JaL : nsIn (Ja J4 K) mainGlobals "ways_of" = some (some (.ref q12)))
  (JaW : (Ja J4 K).lookup q12 = some ⟨oc12,od12,.func (fnOf "ways_of" "ways_of" (Jh J0k) (Jf J0k) (J3 J0k) .none kV12 dc12 pm12 an12 cd12 ct12),sl12⟩)
  (JaB : codeIn (Ja J4 K) cd12 "ways_of" = true)
  (JaA : keepIn (Ja J4 K) (.ref q12) = true)
  (Jbc : nsIn (Ja J4 K) mainGlobals "settle" = some (some (.ref q13)))
  (Jb3 : (Ja J4 K).lookup q13 = some ⟨oc13,od13,.func (fnOf "settle" "settle" (Jh J0t) (Jf J0t) (J3 J0t) .none kV13 dc13 pm13 an13 cd13 ct13),sl13⟩)
  (JaI : codeIn (Ja J4 K) cd13 "settle" = true)
  (Jba : keepIn (Ja J4 K) (.ref q13) = true)
  (Jbz : nsIn (Ja J4 K) mainGlobals "nearest_lack" = some (some (.ref q14)))
  (JaH : (Ja J4 K).lookup q14 = some ⟨oc14,od14,.func (fnOf "nearest_lack" "nearest_lack" (Jh JD) (Jf JD) (J3 JD) .none kV14 dc14 pm14 an14 (.ref cTab) ct14),sl14⟩)
  (Jbi : codeIn (Ja J4 K) (.ref cTab) "nearest_lack" = true)
  (JbB : keepIn (Ja J4 K) (.ref q14) = true)
  (hCT : codeHdIn (Ja J4 K) cTab J4 = true)
  (bTT : nsIn (Ja J4 K) mainGlobals "__builtins__" = some (some (.ref bTab)))
  (lTT : (Ja J4 K).lookup bTab = some ⟨.type "module",some builtinsNs,.plain,slTab⟩)
  (Jb1 : nsIn (Ja J4 K) mainGlobals "room" = some (some (.ref q15)))
  (JaY : (Ja J4 K).lookup q15 = some ⟨oc15,od15,.func (fnOf "room" "room" (Jh J1P) (Jf J1P) (J3 J1P) .none kV15 dc15 pm15 an15 cd15 ct15),sl15⟩)
  (JaJ : codeIn (Ja J4 K) cd15 "room" = true)
  (Jbs : keepIn (Ja J4 K) (.ref q15) = true)
  (Jbt : nsIn (Ja J4 K) mainGlobals "shift_prices" = some (some (.ref q16)))
  (Jb0 : (Ja J4 K).lookup q16 = some ⟨oc16,od16,.func (fnOf "shift_prices" "shift_prices" (Jh JC) (Jf JC) (J3 JC) .none kV16 dc16 pm16 an16 cd16 ct16),sl16⟩)
  (JaU : codeIn (Ja J4 K) cd16 "shift_prices" = true)
  (JbD : keepIn (Ja J4 K) (.ref q16) = true)
  (JaZ : nsIn (Ja J4 K) mainGlobals "push" = some (some (.ref q17)))
  (Jbb : (Ja J4 K).lookup q17 = some ⟨oc17,od17,.func (fnOf "push" "push" (Jh J1t) (Jf J1t) (J3 J1t) .none kV17 dc17 pm17 an17 cd17 ct17),sl17⟩)
  (Jb7 : codeIn (Ja J4 K) cd17 "push" = true)
  (JaQ : keepIn (Ja J4 K) (.ref q17) = true)
  (Jbg : nsIn (Ja J4 K) mainGlobals "_law_drawn" = some (some (.ref q18)))
  (JaV : (Ja J4 K).lookup q18 = some ⟨oc18,od18,.func (fnOf "_law_drawn" "_law_drawn" (Jh JY) (Jf JY) (J3 JY) .none kV18 dc18 pm18 an18 cd18 ct18),sl18⟩)
  (Jbq : codeIn (Ja J4 K) cd18 "_law_drawn" = true)
  (Jbe : keepIn (Ja J4 K) (.ref q18) = true)
  (Jbo : nsIn (Ja J4 K) mainGlobals "_law_arc" = some (some (.ref q19)))
  (JbC : (Ja J4 K).lookup q19 = some ⟨oc19,od19,.func (fnOf "_law_arc" "_law_arc" (Jh J0o) (Jf J0o) (J3 J0o) .none kV19 dc19 pm19 an19 cd19 ct19),sl19⟩)
  (Jbv : codeIn (Ja J4 K) cd19 "_law_arc" = true)
  (JaC : keepIn (Ja J4 K) (.ref q19) = true)
  (Jbl : nsIn (Ja J4 K) mainGlobals "_law_numbers" = some (some (.ref q20)))
  (Jaz : (Ja J4 K).lookup q20 = some ⟨oc20,od20,.func (fnOf "_law_numbers" "_law_numbers" (Jh JB) (Jf JB) (J3 JB) .none kV20 dc20 pm20 an20 cd20 ct20),sl20⟩)
  (JaM : codeIn (Ja J4 K) cd20 "_law_numbers" = true)
  (Jb6 : keepIn (Ja J4 K) (.ref q20) = true)
  (JaX : nsIn (Ja J4 K) mainGlobals "_law_flow" = some (some (.ref q21)))
  (Jby : (Ja J4 K).lookup q21 = some ⟨oc21,od21,.func (fnOf "_law_flow" "_law_flow" (Jh JR) (Jf JR) (J3 JR) .none kV21 dc21 pm21 an21 cd21 ct21),sl21⟩)
  (Jbm : codeIn (Ja J4 K) cd21 "_law_flow" = true)
  (Jbx : keepIn (Ja J4 K) (.ref q21) = true)
  (Jb2 : nsIn (Ja J4 K) mainGlobals "_law_cut" = some (some (.ref q22)))
  (JaR : (Ja J4 K).lookup q22 = some ⟨oc22,od22,.func (fnOf "_law_cut" "_law_cut" (Jh J05) (Jf J05) (J3 J05) .none kV22 dc22 pm22 an22 cd22 ct22),sl22⟩)
  (JaO : codeIn (Ja J4 K) cd22 "_law_cut" = true)
  (Jbu : keepIn (Ja J4 K) (.ref q22) = true)
  (Jb5 : nsIn (Ja J4 K) mainGlobals "_law_right" = some (some (.ref q23)))
  (Jbj : (Ja J4 K).lookup q23 = some ⟨oc23,od23,.func (fnOf "_law_right" "_law_right" (Jh JZ) (Jf JZ) (J3 JZ) .none kV23 dc23 pm23 an23 cd23 ct23),sl23⟩)
  (JaE : codeIn (Ja J4 K) cd23 "_law_right" = true)
  (Jb4 : keepIn (Ja J4 K) (.ref q23) = true)
  (Jbw : nsIn (Ja J4 K) mainGlobals "_law_long" = some (some (.ref q24)))
  (JaP : (Ja J4 K).lookup q24 = some ⟨oc24,od24,.func (fnOf "_law_long" "_law_long" (Jh J0g) (Jf J0g) (J3 J0g) .none kV24 dc24 pm24 an24 cd24 ct24),sl24⟩)
  (Jbn : codeIn (Ja J4 K) cd24 "_law_long" = true)
  (Jbr : keepIn (Ja J4 K) (.ref q24) = true)
  (Jbf : nsIn (Ja J4 K) mainGlobals "law" = some (some (.ref q25)))
  (J9A : (Ja J4 K).lookup q25 = some ⟨oc25,od25,.func (fnOf "law" "law" (Jh J1e) (Jf J1e) (J3 J1e) .none kV25 dc25 pm25 an25 cd25 ct25),sl25⟩)
  (J9C : codeIn (Ja J4 K) cd25 "law" = true)
  (J9F : keepIn (Ja J4 K) (.ref q25) = true)
  (J4B : plainGet (Ja J4 K) Je Str.empty = true)
  (J4x : hasDictIn (Ja J4 K) Je = true)
  (J4C : plainOver (Ja J4 K) Je = true)
  (J4D : findIn (Ja J4 K) (.ref Je) "__setattr__" = some (some (.builtin "object.__setattr__")))
  (J4t : makesIn (Ja J4 K) Je = true)
  (J4y : keepIn (Ja J4 K) (.ref Je) = true)
  (J3s : plainGet (Ja J4 K) J8 Str.empty = true)
  (J3C : hasDictIn (Ja J4 K) J8 = true)
  (J3m : plainOver (Ja J4 K) J8 = true)
  (J3j : findIn (Ja J4 K) (.ref J8) "__setattr__" = some (some (.builtin "object.__setattr__")))
  (J3n : makesIn (Ja J4 K) J8 = true)
  (J3v : keepIn (Ja J4 K) (.ref J8) = true)
  (J22 : findIn (Ja J4 K) (.ref Je) "many" = some none)
  (J25 : findIn (Ja J4 K) (.ref Je) "arcs" = some none)
  (J20 : findIn (Ja J4 K) (.ref J8) "net" = some none)
  (J1g : findIn (Ja J4 K) (.ref J8) "prices" = some none)
  (J1s : findIn (Ja J4 K) (.ref J8) "flows" = some none)
  (J1q : findIn (Ja J4 K) (.ref J8) "spare" = some none)
  (J1S : findIn (Ja J4 K) (.ref J8) "ways" = some none)
  (J68 : nsIn (Ja J4 K) mainGlobals "all" = some none)
  (J5S : nsIn (Ja J4 K) mainGlobals "any" = some none)
  (J4A : nsIn (Ja J4 K) mainGlobals "bool" = some none)
  (J1O : nsIn (Ja J4 K) mainGlobals "enumerate" = some none)
  (J5T : nsIn (Ja J4 K) mainGlobals "int" = some none)
  (J1r : nsIn (Ja J4 K) mainGlobals "isinstance" = some none)
  (J5X : nsIn (Ja J4 K) mainGlobals "len" = some none)
  (J4s : nsIn (Ja J4 K) mainGlobals "list" = some none)
  (J66 : nsIn (Ja J4 K) mainGlobals "min" = some none)
  (J3u : nsIn (Ja J4 K) mainGlobals "range" = some none)
  (J5W : nsIn (Ja J4 K) mainGlobals "set" = some none)
  (J69 : nsIn (Ja J4 K) mainGlobals "sum" = some none)
  (J3p : nsIn (Ja J4 K) mainGlobals "tuple" = some none)
  (J64 : nsIn (Ja J4 K) mainGlobals "zip" = some none)
  (JaG : bTab ≠ builtinsNs ∧ bTab ≠ mainGlobals ∧ bTab ≠ J4)
  : ∃ fd : FuncData,(∀ (s : Shared) (v : Value),BindsTo s fd ⟨[v],[]⟩ [("_law_script",v)]) ∧ ∀ base : Heap,(Ja J4 K).In base → base.Ns mainGlobals mg → FnOk l.prog w (Ja J4 K) mg base CX0 12 fa fd ["_law_script"] (J39 J4 (Ja J4 K)):=by
 have e:=hfa.symm.trans (mg_of X G a25)
 cases e
 have T : Tx (Ja J4 K) mg Je J8 J4:=⟨⟨_,_,JJ (st:=J0c) l1T c1T k1T,⟨a1T,i1T,k1T⟩⟩,
  ⟨_,_,JJ (st:=JN) l2T c2T k2T,⟨a2T,i2T,k2T⟩⟩,
  ⟨_,_,JJ (st:=JW) l3T c3T k3T,mg_of (Jl X) G a3T⟩,
  ⟨_,_,JJ (st:=J0m) l4T c4T k4T,mg_of (Jl X) G a4T⟩,
  ⟨_,_,JJ (st:=J0f) l5T c5T k5T,mg_of (Jl X) G a5T⟩,
  ⟨_,_,JJ (st:=J0l) l6T c6T k6T,mg_of (Jl X) G a6T⟩,
  ⟨_,_,JJ (st:=JO) l7T c7T k7T,mg_of (Jl X) G a7T⟩,
  ⟨_,_,JJ (st:=JF) l8T c8T k8T,mg_of (Jl X) G a8T⟩,
  ⟨_,_,JJ (st:=J0h) l9T c9T k9T,mg_of (Jl X) G a9T⟩,
  ⟨_,_,JJ (st:=J0J) Jb9 JbA Jbh,mg_of (Jl X) G JaF⟩,
  ⟨_,_,JJ (st:=J0d) JaD JaK Jbk,mg_of (Jl X) G JaT⟩,
  ⟨_,_,JJ (st:=J0k) JaW JaB JaA,mg_of (Jl X) G JaL⟩,
  ⟨_,_,JJ (st:=J0t) Jb3 JaI Jba,mg_of (Jl X) G Jbc⟩,
  Jcv (st:=JD) (Jl X) G Jbz JaH Jbi JbB hCT bTT lTT JaG,
  ⟨_,_,JJ (st:=J1P) JaY JaJ Jbs,mg_of (Jl X) G Jb1⟩,
  ⟨_,_,JJ (st:=JC) Jb0 JaU JbD,mg_of (Jl X) G Jbt⟩,
  ⟨_,_,JJ (st:=J1t) Jbb Jb7 JaQ,mg_of (Jl X) G JaZ⟩,
  ⟨_,_,JJ (st:=JY) JaV Jbq Jbe,mg_of (Jl X) G Jbg⟩,
  ⟨_,_,JJ (st:=J0o) JbC Jbv JaC,mg_of (Jl X) G Jbo⟩,
  ⟨_,_,JJ (st:=JB) Jaz JaM Jb6,mg_of (Jl X) G Jbl⟩,
  ⟨_,_,JJ (st:=JR) Jby Jbm Jbx,mg_of (Jl X) G JaX⟩,
  ⟨_,_,JJ (st:=J05) JaR JaO Jbu,mg_of (Jl X) G Jb2⟩,
  ⟨_,_,JJ (st:=JZ) Jbj JaE Jb4,mg_of (Jl X) G Jb5⟩,
  ⟨_,_,JJ (st:=J0g) JaP Jbn Jbr,mg_of (Jl X) G Jbw⟩,
  ⟨_,_,JJ (st:=J1e) J9A J9C J9F,mg_of (Jl X) G Jbf⟩,
  ⟨⟨J4B,J4x,J4C,J4D⟩,mg_of (Jl X) G J6b,J4t,J4y⟩,
  ⟨⟨J3s,J3C,J3m,J3j⟩,mg_of (Jl X) G J4w,J3n,J3v⟩,
  J22,
  J25,
  J20,
  J1g,
  J1s,
  J1q,
  J1S,
  mg_none_of (Jl X) G J68,
  mg_none_of (Jl X) G J5S,
  mg_none_of (Jl X) G J4A,
  mg_none_of (Jl X) G J1O,
  mg_none_of (Jl X) G J5T,
  mg_none_of (Jl X) G J1r,
  mg_none_of (Jl X) G J5X,
  mg_none_of (Jl X) G J4s,
  mg_none_of (Jl X) G J66,
  mg_none_of (Jl X) G J3u,
  mg_none_of (Jl X) G J5W,
  mg_none_of (Jl X) G J69,
  mg_none_of (Jl X) G J3p,
  mg_none_of (Jl X) G J64⟩
 refine ⟨fnOf "law" "law" (Jh J1e) (Jf J1e) (J3 J1e) .none kV25 dc25 pm25 an25 cd25 ct25,fun s v=>.of_eq rfl,fun base _ _=>?_⟩
 exact JbW T (JJ (st:=J1e) J9A J9C J9F)
theorem walk {l : PySem.W.OpenLaw} {q : Program} {loose : List Str} {XP : (Str → Option Value) → Heap → Prop} {YP : World → Heap → Prop} {d : DefRec} {K : Params → PySem.W.Frag} {fT cT T : Addr} (hn : l.most = some 63) (hdf : d.params.defaults = [])
  (hY : ∀ (w : World) (h : Heap),YP w h → (K w.params).In h)
  (h1 : ∀ P,PySem.W.nsIn (K P) mainGlobals "nearest_lack" = some (some (.ref fT))) (h2 : ∀ P,J9n (K P) fT cT) (h3 : ∀ P,J6W (K P) cT T) (h4 : ∀ P,(K P).lookup T = some (PySem.W.tabObj #[])) (h5 : ∀ P,PySem.W.codeHdIn (K P) cT T = true)
  (F : ∀ (w : World) (mg : Str → Option Value) (fa : Addr) (h : Heap),(K w.params).In h → h.Ns mainGlobals mg → mg d.name = some (.ref fa) →
   ∃ fd : FuncData,(∀ (s : Shared) (u : Value),BindsTo s fd ⟨[u],[]⟩ [("_law_script",u)]) ∧ ∀ base : Heap,(Ja T (K w.params)).In base → base.Ns mainGlobals mg → FnOk l.prog w (Ja T (K w.params)) mg base CX0 12 fa fd ["_law_script"] (J39 T (Ja T (K w.params)))) :
  PySem.W.WalkO q loose XP YP l.row.toRowW d [] (fun f vs=>PySem.call f vs) :=
 L2.walk_ofT (n:=63) (k:=12) (x:="_law_script") (CX:=CX0) (T:=T) (c:=cT) (sp:=J39 T) hn (by decide) hdf ⟨rfl,by decide,by decide⟩ hY h4 h5 F (fun _ _ a ns hl hO hS=>⟨a,ns,rfl,hS,hl,hO.tab,fun _=>rfl⟩) fun _ _ _ _ z=>z
theorem walkX {q : Program} {loose : List Str} {XP : (Str → Option Value) → Heap → Prop} {K : Params → PySem.W.Frag} {as : List Addr} {n t : Nat} {r : PySem.W.RowW} {d : DefRec} {kwd : List (Str × Expr)} {run : Value → List Value → Sem Value} (e : ∀ P,as = (K P).map (·.1))
  (h : PySem.W.WalkO q loose XP (fun w hp=>(K w.params).In hp) r d kwd run) : PySem.W.WalkX q loose XP (PySem.W.X.obsZ as) (PySem.W.X.valZ K n t) r d kwd run:=by
 intro w s₀ s₁ mg mb G Y a o pm cd doc dV kV h1 h2 h3 h4 h5 h6 args vals as' L p1 p2 p3 p4 p5
 exact h w s₀ s₁ mg mb G (PySem.W.InK.keeps w _ _ (PySem.W.X.z_facts e Y).2.1 L.keeps) a o pm cd doc dV kV h1 h2 h3 h4 h5 h6 args vals as' p1 p2 p3 p4 p5
end K46
open PySem PySem.W PyProof.Rows
set_option maxRecDepth 100000 in
set_option maxHeartbeats 0 in
theorem PySem.Challenge.cw_rotafair_k46_whole_settled_holds : PySem.Challenge.rw_rotafair_k46_whole_settled.Holds := by
 w_on; o_law; z_head; (case hw=>w_witness2)
 k_fill
 refine K46.walkX (fun _=>rfl) ?_
 refine' K46.walk (l:=PySem.Challenge.rw_rotafair_k46_whole_settled) rfl rfl (fun w h Y=>Y) ?h1 ?h2 ?h3 ?h4 ?h5 ?F
 (case h1=>intro P; k_is)
 (case h2=>(intro P; refine' L2.code_mk ?a; (case a=>k_is)))
 (case h3=>(intro P; refine' L2.table_mk ?a ?b; (case a=>k_is); (case b=>rfl)))
 (case h4=>intro P; k_is)
 (case h5=>intro P; kernel_rfl)
 case F =>
  intro w mg fa h KX G hmg
  refine' K46.all_mk KX G hmg ?Jal ?J8e ?a1 ?i1 ?l1 ?c1 ?k1 ?a2 ?i2 ?l2 ?c2 ?k2 ?a3 ?l3 ?c3 ?k3 ?a4 ?l4 ?c4 ?k4 ?a5 ?l5 ?c5 ?k5 ?a6 ?l6 ?c6 ?k6 ?a7 ?l7 ?c7 ?k7 ?a8 ?l8 ?c8 ?k8 ?a9 ?l9 ?c9 ?k9 ?a10 ?l10 ?c10 ?k10 ?a11 ?l11 ?c11 ?k11 ?a12 ?l12 ?c12 ?k12 ?a13 ?l13 ?c13 ?k13 ?a14 ?l14 ?c14 ?k14 ?hC ?bT ?lT ?a15 ?l15 ?c15 ?k15 ?a16 ?l16 ?c16 ?k16 ?a17 ?l17 ?c17 ?k17 ?a18 ?l18 ?c18 ?k18 ?a19 ?l19 ?c19 ?k19 ?a20 ?l20 ?c20 ?k20 ?a21 ?l21 ?c21 ?k21 ?a22 ?l22 ?c22 ?k22 ?a23 ?l23 ?c23 ?k23 ?a24 ?l24 ?c24 ?k24 ?a25 ?l25 ?c25 ?k25 ?J8r ?J8u ?J8p ?J8s ?J8d ?J8b ?J6E ?J6G ?J6I ?J6M ?J6H ?J6K ?JH ?JA ?J0R ?J01 ?JX ?J0e ?J10 ?J3q ?J54 ?J4z ?J1n ?J6L ?JV ?J0C ?J0Q ?J45 ?J0I ?J6F ?J2Y ?J3a ?J2V ?J6b ?J4w ?a1T ?i1T ?l1T ?c1T ?k1T ?a2T ?i2T ?l2T ?c2T ?k2T ?a3T ?l3T ?c3T ?k3T ?a4T ?l4T ?c4T ?k4T ?a5T ?l5T ?c5T ?k5T ?a6T ?l6T ?c6T ?k6T ?a7T ?l7T ?c7T ?k7T ?a8T ?l8T ?c8T ?k8T ?a9T ?l9T ?c9T ?k9T ?JaF ?Jb9 ?JbA ?Jbh ?JaT ?JaD ?JaK ?Jbk ?JaL ?JaW ?JaB ?JaA ?Jbc ?Jb3 ?JaI ?Jba ?Jbz ?JaH ?Jbi ?JbB ?hCT ?bTT ?lTT ?Jb1 ?JaY ?JaJ ?Jbs ?Jbt ?Jb0 ?JaU ?JbD ?JaZ ?Jbb ?Jb7 ?JaQ ?Jbg ?JaV ?Jbq ?Jbe ?Jbo ?JbC ?Jbv ?JaC ?Jbl ?Jaz ?JaM ?Jb6 ?JaX ?Jby ?Jbm ?Jbx ?Jb2 ?JaR ?JaO ?Jbu ?Jb5 ?Jbj ?JaE ?Jb4 ?Jbw ?JaP ?Jbn ?Jbr ?Jbf ?J9A ?J9C ?J9F ?J4B ?J4x ?J4C ?J4D ?J4t ?J4y ?J3s ?J3C ?J3m ?J3j ?J3n ?J3v ?J22 ?J25 ?J20 ?J1g ?J1s ?J1q ?J1S ?J68 ?J5S ?J4A ?J1O ?J5T ?J1r ?J5X ?J4s ?J66 ?J3u ?J5W ?J69 ?J3p ?J64 ?JaG
  (case Jal=>k_is)
  (case J8e=>k_is)
  (case a1=>k_is)
  (case i1=>k_is)
  (case l1=>k_is)
  (case c1=>k_is)
  (case k1=>k_is)
  (case a2=>k_is)
  (case i2=>k_is)
  (case l2=>k_is)
  (case c2=>k_is)
  (case k2=>k_is)
  (case a3=>k_is)
  (case l3=>k_is)
  (case c3=>k_is)
  (case k3=>k_is)
  (case a4=>k_is)
  (case l4=>k_is)
  (case c4=>k_is)
  (case k4=>k_is)
  (case a5=>k_is)
  (case l5=>k_is)
  (case c5=>k_is)
  (case k5=>k_is)
  (case a6=>k_is)
  (case l6=>k_is)
  (case c6=>k_is)
  (case k6=>k_is)
  (case a7=>k_is)
  (case l7=>k_is)
  (case c7=>k_is)
  (case k7=>k_is)
  (case a8=>k_is)
  (case l8=>k_is)
  (case c8=>k_is)
  (case k8=>k_is)
  (case a9=>k_is)
  (case l9=>k_is)
  (case c9=>k_is)
  (case k9=>k_is)
  (case a10=>k_is)
  (case l10=>k_is)
  (case c10=>k_is)
  (case k10=>k_is)
  (case a11=>k_is)
  (case l11=>k_is)
  (case c11=>k_is)
  (case k11=>k_is)
  (case a12=>k_is)
  (case l12=>k_is)
  (case c12=>k_is)
  (case k12=>k_is)
  (case a13=>k_is)
  (case l13=>k_is)
  (case c13=>k_is)
  (case k13=>k_is)
  (case a14=>k_is)
  (case l14=>k_is)
  (case c14=>k_is)
  (case k14=>k_is)
  (case hC=>kernel_rfl)
  (case bT=>k_is)
  (case lT=>k_is)
  (case a15=>k_is)
  (case l15=>k_is)
  (case c15=>k_is)
  (case k15=>k_is)
  (case a16=>k_is)
  (case l16=>k_is)
  (case c16=>k_is)
  (case k16=>k_is)
  (case a17=>k_is)
  (case l17=>k_is)
  (case c17=>k_is)
  (case k17=>k_is)
  (case a18=>k_is)
  (case l18=>k_is)
  (case c18=>k_is)
  (case k18=>k_is)
  (case a19=>k_is)
  (case l19=>k_is)
  (case c19=>k_is)
  (case k19=>k_is)
  (case a20=>k_is)
  (case l20=>k_is)
  (case c20=>k_is)
  (case k20=>k_is)
  (case a21=>k_is)
  (case l21=>k_is)
  (case c21=>k_is)
  (case k21=>k_is)
  (case a22=>k_is)
  (case l22=>k_is)
  (case c22=>k_is)
  (case k22=>k_is)
  (case a23=>k_is)
  (case l23=>k_is)
  (case c23=>k_is)
  (case k23=>k_is)
  (case a24=>k_is)
  (case l24=>k_is)
  (case c24=>k_is)
  (case k24=>k_is)
  (case a25=>k_is)
  (case l25=>k_is)
  (case c25=>k_is)
  (case k25=>k_is)
  (case J8r=>k_is)
  (case J8u=>k_is)
  (case J8p=>k_is)
  (case J8s=>k_is)
  (case J8d=>k_is)
  (case J8b=>k_is)
  (case J6E=>k_is)
  (case J6G=>k_is)
  (case J6I=>k_is)
  (case J6M=>k_is)
  (case J6H=>k_is)
  (case J6K=>k_is)
  (case JH=>k_is)
  (case JA=>k_is)
  (case J0R=>k_is)
  (case J01=>k_is)
  (case JX=>k_is)
  (case J0e=>k_is)
  (case J10=>k_is)
  (case J3q=>k_is)
  (case J54=>k_is)
  (case J4z=>k_is)
  (case J1n=>k_is)
  (case J6L=>k_is)
  (case JV=>k_is)
  (case J0C=>k_is)
  (case J0Q=>k_is)
  (case J45=>k_is)
  (case J0I=>k_is)
  (case J6F=>k_is)
  (case J2Y=>k_is)
  (case J3a=>k_is)
  (case J2V=>k_is)
  (case J6b=>kernel_rfl)
  (case J4w=>kernel_rfl)
  (case a1T=>kernel_rfl)
  (case i1T=>kernel_rfl)
  (case l1T=>kernel_rfl)
  (case c1T=>kernel_rfl)
  (case k1T=>kernel_rfl)
  (case a2T=>kernel_rfl)
  (case i2T=>kernel_rfl)
  (case l2T=>kernel_rfl)
  (case c2T=>kernel_rfl)
  (case k2T=>kernel_rfl)
  (case a3T=>kernel_rfl)
  (case l3T=>kernel_rfl)
  (case c3T=>kernel_rfl)
  (case k3T=>kernel_rfl)
  (case a4T=>kernel_rfl)
  (case l4T=>kernel_rfl)
  (case c4T=>kernel_rfl)
  (case k4T=>kernel_rfl)
  (case a5T=>kernel_rfl)
  (case l5T=>kernel_rfl)
  (case c5T=>kernel_rfl)
  (case k5T=>kernel_rfl)
  (case a6T=>kernel_rfl)
  (case l6T=>kernel_rfl)
  (case c6T=>kernel_rfl)
  (case k6T=>kernel_rfl)
  (case a7T=>kernel_rfl)
  (case l7T=>kernel_rfl)
  (case c7T=>kernel_rfl)
  (case k7T=>kernel_rfl)
  (case a8T=>kernel_rfl)
  (case l8T=>kernel_rfl)
  (case c8T=>kernel_rfl)
  (case k8T=>kernel_rfl)
  (case a9T=>kernel_rfl)
  (case l9T=>kernel_rfl)
  (case c9T=>kernel_rfl)
  (case k9T=>kernel_rfl)
  (case JaF=>kernel_rfl)
  (case Jb9=>kernel_rfl)
  (case JbA=>kernel_rfl)
  (case Jbh=>kernel_rfl)
  (case JaT=>kernel_rfl)
  (case JaD=>kernel_rfl)
  (case JaK=>kernel_rfl)
  (case Jbk=>kernel_rfl)
  (case JaL=>kernel_rfl)
  (case JaW=>kernel_rfl)
  (case JaB=>kernel_rfl)
  (case JaA=>kernel_rfl)
  (case Jbc=>kernel_rfl)
  (case Jb3=>kernel_rfl)
  (case JaI=>kernel_rfl)
  (case Jba=>kernel_rfl)
  (case Jbz=>kernel_rfl)
  (case JaH=>kernel_rfl)
  (case Jbi=>kernel_rfl)
  (case JbB=>kernel_rfl)
  (case hCT=>kernel_rfl)
  (case bTT=>kernel_rfl)
  (case lTT=>kernel_rfl)
  (case Jb1=>kernel_rfl)
  (case JaY=>kernel_rfl)
  (case JaJ=>kernel_rfl)
  (case Jbs=>kernel_rfl)
  (case Jbt=>kernel_rfl)
  (case Jb0=>kernel_rfl)
  (case JaU=>kernel_rfl)
  (case JbD=>kernel_rfl)
  (case JaZ=>kernel_rfl)
  (case Jbb=>kernel_rfl)
  (case Jb7=>kernel_rfl)
  (case JaQ=>kernel_rfl)
  (case Jbg=>kernel_rfl)
  (case JaV=>kernel_rfl)
  (case Jbq=>kernel_rfl)
  (case Jbe=>kernel_rfl)
  (case Jbo=>kernel_rfl)
  (case JbC=>kernel_rfl)
  (case Jbv=>kernel_rfl)
  (case JaC=>kernel_rfl)
  (case Jbl=>kernel_rfl)
  (case Jaz=>kernel_rfl)
  (case JaM=>kernel_rfl)
  (case Jb6=>kernel_rfl)
  (case JaX=>kernel_rfl)
  (case Jby=>kernel_rfl)
  (case Jbm=>kernel_rfl)
  (case Jbx=>kernel_rfl)
  (case Jb2=>kernel_rfl)
  (case JaR=>kernel_rfl)
  (case JaO=>kernel_rfl)
  (case Jbu=>kernel_rfl)
  (case Jb5=>kernel_rfl)
  (case Jbj=>kernel_rfl)
  (case JaE=>kernel_rfl)
  (case Jb4=>kernel_rfl)
  (case Jbw=>kernel_rfl)
  (case JaP=>kernel_rfl)
  (case Jbn=>kernel_rfl)
  (case Jbr=>kernel_rfl)
  (case Jbf=>kernel_rfl)
  (case J9A=>kernel_rfl)
  (case J9C=>kernel_rfl)
  (case J9F=>kernel_rfl)
  (case J4B=>kernel_rfl)
  (case J4x=>kernel_rfl)
  (case J4C=>kernel_rfl)
  (case J4D=>kernel_rfl)
  (case J4t=>kernel_rfl)
  (case J4y=>kernel_rfl)
  (case J3s=>kernel_rfl)
  (case J3C=>kernel_rfl)
  (case J3m=>kernel_rfl)
  (case J3j=>kernel_rfl)
  (case J3n=>kernel_rfl)
  (case J3v=>kernel_rfl)
  (case J22=>kernel_rfl)
  (case J25=>kernel_rfl)
  (case J20=>kernel_rfl)
  (case J1g=>kernel_rfl)
  (case J1s=>kernel_rfl)
  (case J1q=>kernel_rfl)
  (case J1S=>kernel_rfl)
  (case J68=>kernel_rfl)
  (case J5S=>kernel_rfl)
  (case J4A=>kernel_rfl)
  (case J1O=>kernel_rfl)
  (case J5T=>kernel_rfl)
  (case J1r=>kernel_rfl)
  (case J5X=>kernel_rfl)
  (case J4s=>kernel_rfl)
  (case J66=>kernel_rfl)
  (case J3u=>kernel_rfl)
  (case J5W=>kernel_rfl)
  (case J69=>kernel_rfl)
  (case J3p=>kernel_rfl)
  (case J64=>kernel_rfl)
  (case JaG=>exact ⟨by decide,by decide,by decide⟩)
#print axioms PySem.Challenge.cw_rotafair_k46_whole_settled_holds
