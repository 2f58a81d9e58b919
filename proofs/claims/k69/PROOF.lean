import PyProof.Rows.All
import Wide.All
import OpenK.AllK
import Wide.FinOn
import Lean
import PyProof.EqAt
import PyProof.EqKinds
import PyProof.TupleCall
import KE.KIntText
import PyProof.ListRange
import PyProof.Rows.StrMul
import PyProof.Rows.StrCountLaw
import PyProof.Rows.StrLen
import PyProof.ToksMono
import PyProof.Rows.StrJoinRep
import PySem.Challenge.RW_rotafair_k69_nobody
set_option Elab.async false
set_option linter.all false
set_option maxRecDepth 100000
namespace L2
open PySem PySem.Spec PyProof.Rows
noncomputable abbrev Key:=Sum Int Str
noncomputable def J6P : Key → Value → Bool
 | .inl k,v=>Value.isInt k v
 | .inr x,v=>Value.isStrOf x v
noncomputable def keyH (w : World) : Key → Int
 | .inl k=>hashInt k
 | .inr x=>hashStr w x
theorem J0o : ∀ {k : Key} {v : Value},J6P k v = true → (∃ i t,k = Sum.inl i ∧ v = Value.int i t) ∨ (∃ x t,k = Sum.inr x ∧ v = Value.str x t)
 | .inl i,v,h=>by
  obtain ⟨t,e⟩:=Value.isInt_shape (k:=i) (v:=v) h
  exact .inl ⟨i,t,rfl,e⟩
 | .inr x,v,h=>by
  obtain ⟨t,e⟩:=Value.isStrOf_shape (x:=x) (v:=v) h
  exact .inr ⟨x,t,rfl,e⟩
theorem Jad (i : Int) (t : Tok) : J6P (.inl i) (.int i t) = true:=by simp [J6P,Value.isInt]
theorem Jat (x : Str) (t : Tok) : J6P (.inr x) (.str x t) = true:=by simp [J6P,Value.isStrOf]
theorem Jdk (a b : Int) : decide ((Sum.inl a : Key) = Sum.inl b) = (a == b):=by
 by_cases e : a = b
 ·subst e; simp
 ·have h : ¬ (Sum.inl a : Key) = Sum.inl b:=fun q=>e (Sum.inl.inj q)
  rw [decide_eq_false h]
  exact (beq_eq_false_iff_ne.mpr e).symm
theorem Jdt (a b : Str) : decide ((Sum.inr a : Key) = Sum.inr b) = decide (a = b):=by
 by_cases e : a = b
 ·subst e; simp
 ·have h : ¬ (Sum.inr a : Key) = Sum.inr b:=fun q=>e (Sum.inr.inj q)
  rw [decide_eq_false h,decide_eq_false e]
theorem JdL (a : Int) (b : Str) : decide ((Sum.inl a : Key) = Sum.inr b) = false:=decide_eq_false (fun q=>nomatch q)
theorem JdF (a : Str) (b : Int) : decide ((Sum.inr a : Key) = Sum.inl b) = false:=decide_eq_false (fun q=>nomatch q)
noncomputable def J04 (prog : Program) (w : World) : PySem.KeyKind prog w Key where
 is:=J6P
 hash:=keyH w
 inj:=fun v a b ha hb=>by
  rcases J0o ha with ⟨i,t,rfl,rfl⟩ | ⟨x,t,rfl,rfl⟩
  ·rcases J0o hb with ⟨j,u,rfl,e⟩ | ⟨y,u,rfl,e⟩
   ·injection e with e1 _; rw [e1]
   ·exact nomatch e
  ·rcases J0o hb with ⟨j,u,rfl,e⟩ | ⟨y,u,rfl,e⟩
   ·exact nomatch e
   ·injection e with e1 _; rw [e1]
 byValue:=fun k v h=>by
  rcases J0o h with ⟨i,t,rfl,rfl⟩ | ⟨x,t,rfl,rfl⟩ <;> rfl
 pyHash:=fun hv h=>by
  rcases J0o hv with ⟨i,t,rfl,rfl⟩ | ⟨x,t,rfl,rfl⟩
  ·exact wpAny_pyHash_int h
  ·exact wpAny_pyHash_str h
 eqBool:=fun hu hv h=>by
  rcases J0o hu with ⟨i,t,rfl,rfl⟩ | ⟨x,t,rfl,rfl⟩
  ·rcases J0o hv with ⟨j,u,rfl,rfl⟩ | ⟨y,u,rfl,rfl⟩
   ·rw [Jdk] at h; exact wpAny_eqBool_int h
   ·rw [JdL] at h; exact SeqAt.EqAt.int_str i t y u _ _ _ _ h
  ·rcases J0o hv with ⟨j,u,rfl,rfl⟩ | ⟨y,u,rfl,rfl⟩
   ·rw [JdF] at h; exact SeqAt.EqAt.str_int x t j u _ _ _ _ h
   ·rw [Jdt] at h; exact wpAny_eqBool_str h
 «strs»:=fun k x t v h=>by
  rcases J0o h with ⟨i,u,rfl,e⟩ | ⟨y,u,rfl,e⟩
  ·exact nomatch e
  ·injection e with e1 _
   subst e1
   cases v <;> rfl
theorem J8u (prog : Program) (w : World) (i : Int) (t : Tok) : (J04 prog w).is (.inl i) (.int i t) = true:=Jad i t
theorem J8s (prog : Program) (w : World) (x : Str) (t : Tok) : (J04 prog w).is (.inr x) (.str x t) = true:=Jat x t
end L2
namespace L2
open PySem PySem.Spec PyProof.Rows
inductive V where
 | non | bl (b : Bool) | int (i : Int) | str (x : Str) | byt (b : Array UInt8) | flt (b : UInt64) | ref (a : Addr) | ty (n : String)
 deriving DecidableEq
noncomputable def RelV : V → Value → Prop
 | .non,u=>u = Value.none
 | .bl b,u=>u = Value.bool b
 | .int i,u=>∃ t,u = Value.int i t
 | .str x,u=>∃ t,u = Value.str x t
 | .byt b,u=>∃ t,u = Value.bytes b t
 | .flt b,u=>∃ t,u = Value.float b t
 | .ref a,u=>u = Value.ref a
 | .ty n,u=>u = Value.type n
noncomputable abbrev Vals : List V → List Value → Prop:=Paired RelV
theorem Vals.length {xs : List V} {us : List Value} (r : Vals xs us) : xs.length = us.length:=Paired.length r
theorem Vals.get : ∀ {xs : List V} {us : List Value} {i : Nat} {x : V},Vals xs us → xs[i]? = some x → ∃ u,us[i]? = some u ∧ RelV x u
 | _,_,_,_,.nil,e=>by simp at e
 | _,_,0,_,.cons r _,e=>by simp at e; subst e; exact ⟨_,rfl,r⟩
 | _,_,i + 1,x,.cons _ t,e=>by
  obtain ⟨u,h1,h2⟩:=Vals.get (i:=i) (x:=x) t (by simpa using e)
  exact ⟨u,by simpa using h1,h2⟩
theorem Vals.append : ∀ {xs ys : List V} {us ws : List Value},Vals xs us → Vals ys ws → Vals (xs ++ ys) (us ++ ws)
 | _,_,_,_,.nil,s=>s
 | _,_,_,_,.cons r t,s=>.cons r (Vals.append t s)
theorem Vals.take : ∀ {xs : List V} {us : List Value} (n : Nat),Vals xs us → Vals (xs.take n) (us.take n)
 | _,_,0,_=>.nil
 | _,_,_ + 1,.nil=>.nil
 | _,_,n + 1,.cons r t=>.cons r (Vals.take n t)
theorem Vals.drop : ∀ {xs : List V} {us : List Value} (n : Nat),Vals xs us → Vals (xs.drop n) (us.drop n)
 | _,_,0,r=>r
 | _,_,_ + 1,.nil=>.nil
 | _,_,n + 1,.cons _ t=>Vals.drop n t
noncomputable def RelO : Option V → Option Value → Prop
 | some v,some u=>RelV v u
 | none,none=>True
 | _,_=>False
noncomputable def KV {κ : Type} : List (κ × V) → List (κ × Value) → Prop:=Paired fun (p : κ × V) (q : κ × Value)=>p.1 = q.1 ∧ RelV p.2 q.2
noncomputable def kV : Key → V
 | .inl i=>.int i
 | .inr x=>.str x
inductive HO where
 | lst (xs : List V)
 | tup (xs : List V)
 | dK (kvs : List (Key × V)) | dT (kvs : List (List Key × V))
 | set (S : Int → Bool) (n : Nat)
 | ins (C dx : Addr) (fs : List (Str × V))
 | own (x : Addr)
 | xd (fs : List (Str × V))
 | met (f x : Addr)
 | rng (lo hi : Int)
 | frz (o : Obj) (u : HO)
 | tbl (ps : Array Value)
 | ext (φ : Heap → Prop)
noncomputable abbrev Hp:=Addr → Option HO
noncomputable def upd (H : Hp) (a : Addr) (o : HO) : Hp:=fun b=>if b = a then some o else H b
theorem Jd {H : Hp} {a : Addr} {o : HO} : upd H a o a = some o:=by unfold upd; rw [if_pos rfl]
theorem Ja {H : Hp} {a b : Addr} {o : HO} (h : b ≠ a) : upd H a o b = H b:=by unfold upd; rw [if_neg h]
theorem J2f {H : Hp} {a b : Addr} {o u : HO} (h : H a = some o) (h' : H b = some u) (d : o ≠ u) : a ≠ b:=by
 intro e; subst e; rw [h] at h'; exact d (Option.some.inj h')
theorem J9 {H : Hp} {a b : Addr} {o : HO} (h : H a = some o) (h' : H b = none) : a ≠ b:=by
 intro e; subst e; rw [h] at h'; cases h'
section
variable (P : Program) (w : World)
noncomputable def J07 (H : Hp) (h : Heap) (a : Addr) : HO → Prop
 | .lst xs=>xs.length ≤ sizeLine ∧ ∃ (its : List Value) (n : Nat),Vals xs its ∧ h.get? a = some { cls:=.type "list",data:=.seq its.toArray n }
 | .tup xs=>xs.length ≤ sizeLine ∧ ∃ its : List Value,Vals xs its ∧ IsTup h a its.toArray
 | .dK kvs=>kvs.length ≤ sizeLine ∧ (a == sysModules) = false ∧ ∃ vs,KV kvs vs ∧ h.DictOf (J04 P w) a vs
 | .dT kvs=>kvs.length ≤ sizeLine ∧ (a == sysModules) = false ∧ ∃ xs : List (List Key × Addr × Value),
   Paired (fun (p : List Key × V) (q : List Key × Addr × Value)=>p.1 = q.1 ∧ H q.2.1 = some (.tup (p.1.map kV)) ∧ RelV p.2 q.2.2) kvs xs ∧
   ∃ o es ep,h.get? a = some o ∧ o.ExactDict ∧ o.data = .dict es ep ∧ es.toList = xs.map (entryOfKey (tupleKind (J04 P w))) ∧ (xs.map (·.1)).Nodup
 | .set S n=>h.SetOf (intKind P w) a S n
 | .ins C dx fs=>H dx = some (.own a) ∧ fs.length ≤ 1000 ∧ dx ≠ a ∧ h.get? a = some (PySem.W.instObj C dx) ∧
   ∃ mA,h.Ns1 dx mA ∧ (∀ f,RelO (fs.lookup f) (mA f)) ∧ PySem.Within mA (fs.map (·.1))
 | .own _=>∃ o,h.get? a = some o
 | .xd fs=>∃ mA,h.Ns1 a mA ∧ ∀ f,RelO (fs.lookup f) (mA f)
 | .rng lo hi=>∃ t u v,h.get? a = some { cls:=.type "range",data:=.fields #[.int lo t,.int hi u,.int 1 v] }
 | .frz o u=>h.get? a = some o ∧ J07 H h a u
 | .tbl ps=>h.get? a = some { cls:=.none,data:=.fields ps }
 | .met f x=>h.get? a = some (PySem.W.methodObj (.ref f) (.ref x))
 | .ext φ=>φ h ∧ (∃ o,h.get? a = some o) ∧ ∀ h1 h2 : Heap,φ h1 → (∀ o,h1.get? a = some o → h2.get? a = some o) → φ h2
noncomputable def HOk (H : Hp) (h : Heap) : Prop:=∀ a o,H a = some o → J07 P w H h a o
end
section
variable {P : Program} {w : World} {H H' : Hp} {h h' : Heap} {a : Addr} {o : HO}
theorem J07.lt (x : J07 P w H h a o) : a < h.objs.size:=by
 cases o with
 | lst xs=>obtain ⟨_,_,_,_,e⟩:=x; exact Heap.lt_size e
 | tup xs=>obtain ⟨_,_,_,p⟩:=x; exact p.lt
 | dK kvs=>obtain ⟨_,_,_,_,o,_,_,e,_⟩:=x; exact Heap.lt_size e
 | dT kvs=>obtain ⟨_,_,_,_,o,_,_,e,_⟩:=x; exact Heap.lt_size e
 | set S n=>obtain ⟨o,_,_,_,e,_⟩:=x; exact Heap.lt_size e
 | ins C dx fs=>obtain ⟨_,_,_,e,_⟩:=x; exact Heap.lt_size e
 | own y=>obtain ⟨_,e⟩:=x; exact Heap.lt_size e
 | xd fs=>obtain ⟨_,⟨_,_,_,e,_⟩,_⟩:=x; exact Heap.lt_size e
 | rng lo hi=>obtain ⟨_,_,_,e⟩:=x; exact Heap.lt_size e
 | frz ob u=>obtain ⟨e,_⟩:=x; exact Heap.lt_size e
 | tbl ps=>exact Heap.lt_size (show h.get? a = some _ from x)
 | met f y=>exact Heap.lt_size (show h.get? a = some _ from x)
 | ext φ=>obtain ⟨_,⟨_,e⟩,_⟩:=x; exact Heap.lt_size e
theorem Paired.mapP {α β : Type} {F G : α → β → Prop} : ∀ {l₁ : List α} {l₂ : List β},Paired F l₁ l₂ → (∀ a b,F a b → G a b) → Paired G l₁ l₂
 | _,_,.nil,_=>.nil
 | _,_,.cons r t,f=>.cons (f _ _ r) (Paired.mapP t f)
theorem J07.stay (x : J07 P w H h a o) (k : ∀ b u,(b = a ∨ H b = some (.own a)) → h.get? b = some u → h'.get? b = some u)
  (ho : ∀ b,H b = some (.own a) → H' b = some (.own a)) (ht : ∀ b xs,H b = some (.tup xs) → H' b = some (.tup xs)) : J07 P w H' h' a o:=by
 induction o with
 | lst xs=>obtain ⟨z,its,n,r,e⟩:=x; exact ⟨z,its,n,r,k _ _ (.inl rfl) e⟩
 | tup xs=>obtain ⟨z,its,r,ob,e,c⟩:=x; exact ⟨z,its,r,ob,k _ _ (.inl rfl) e,c⟩
 | dK kvs=>obtain ⟨z,y,vs,r,ob,es,ep,e,c⟩:=x; exact ⟨z,y,vs,r,ob,es,ep,k _ _ (.inl rfl) e,c⟩
 | dT kvs =>
  obtain ⟨z,y,xs,r,ob,es,ep,e,c⟩:=x
  exact ⟨z,y,xs,Paired.mapP r fun p q z=>⟨z.1,ht _ _ z.2.1,z.2.2⟩,ob,es,ep,k _ _ (.inl rfl) e,c⟩
 | set S n=>obtain ⟨ob,es,ep,t,e,c⟩:=x; exact ⟨ob,es,ep,t,k _ _ (.inl rfl) e,c⟩
 | ins C dx fs =>
  obtain ⟨d,z,ne,e,mA,⟨od,es,ep,e2,c⟩,r⟩:=x
  exact ⟨ho _ d,z,ne,k _ _ (.inl rfl) e,mA,⟨od,es,ep,k _ _ (.inr d) e2,c⟩,r⟩
 | own y=>obtain ⟨ob,e⟩:=x; exact ⟨ob,k _ _ (.inl rfl) e⟩
 | xd fs=>obtain ⟨mA,⟨od,es,ep,e,c⟩,r⟩:=x; exact ⟨mA,⟨od,es,ep,k _ _ (.inl rfl) e,c⟩,r⟩
 | rng lo hi=>obtain ⟨t,u,v,e⟩:=x; exact ⟨t,u,v,k _ _ (.inl rfl) e⟩
 | frz ob u ih=>obtain ⟨e,q⟩:=x; exact ⟨k _ _ (.inl rfl) e,ih q⟩
 | tbl ps =>
  have e : h.get? a = some { cls:=.none,data:=.fields ps }:=x
  show h'.get? a = some { cls:=.none,data:=.fields ps }
  exact k a _ (.inl rfl) e
 | met f y =>
  have e : h.get? a = some (PySem.W.methodObj (.ref f) (.ref y)):=x
  show h'.get? a = some (PySem.W.methodObj (.ref f) (.ref y))
  exact k a _ (.inl rfl) e
 | ext φ=>obtain ⟨p,⟨o,e⟩,st⟩:=x; exact ⟨st _ _ p fun o q=>k _ _ (.inl rfl) q,⟨o,k _ _ (.inl rfl) e⟩,st⟩
theorem HOk.lt (x : HOk P w H h) (e : H a = some o) : a < h.objs.size:=(x a o e).lt
theorem HOk.fresh (x : HOk P w H h) (e : h.objs.size ≤ a) : H a = none:=by
 cases q : H a with
 | none=>rfl
 | some u=>exact absurd (Nat.lt_of_lt_of_le (x.lt q) e) (Nat.lt_irrefl _)
theorem HOk.kept (x : HOk P w H h) (k : ∀ b u,h.get? b = some u → h'.get? b = some u) : HOk P w H h':=fun a o e =>
 (x a o e).stay (fun b u _ q=>k b u q) (fun _ q=>q) fun _ _ q=>q
theorem HOk.laid (x : HOk P w H h) (k : ∀ b u,h.get? b = some u → h'.get? b = some u) (hp : h.objs.size ≤ a) (new : J07 P w (upd H a o) h' a o) : HOk P w (upd H a o) h':=fun b u e=>by
 have hn:=x.fresh hp
 by_cases hb : b = a
 ·subst hb; rw [Jd] at e; cases e; exact new
 ·rw [Ja hb] at e
  exact (x b u e).stay (fun c v _ q=>k c v q) (fun c q=>by rw [Ja (J9 q hn)]; exact q) fun c xs q=>by rw [Ja (J9 q hn)]; exact q
end
noncomputable def Rd (H : Hp) (a : Addr) (u : HO) : Prop:=H a = some u ∨ ∃ o,H a = some (.frz o u)
theorem Rd.ok {P : Program} {w : World} {H : Hp} {h : Heap} {a : Addr} {u : HO} (r : Rd H a u) (x : HOk P w H h) : J07 P w H h a u:=by
 rcases r with r | ⟨o,r⟩
 ·exact x a u r
 ·obtain ⟨_,q⟩:=x a _ r
  exact q
noncomputable def Mut : Option HO → Prop
 | some (.lst _)=>True
 | some (.dK _)=>True
 | some (.dT _)=>True
 | some (.set _ _)=>True
 | some (.ins _ _ _)=>True
 | some (.ext _)=>True
 | _=>False
section
variable {P : Program} {w : World} {H : Hp} {h h' : Heap} {x e : Addr} {o' : HO}
theorem HOk.write (ok : HOk P w H h) (mu : Mut (H x)) (he : e = x ∨ H e = some (.own x)) (k : ∀ b u,b ≠ e → h.get? b = some u → h'.get? b = some u) (heo : ∃ u,h'.get? e = some u)
  (new : J07 P w (upd H x o') h' x o') : HOk P w (upd H x o') h':=fun b u q=>by
 have nown : ∀ c y,H c = some (.own y) → c ≠ x:=fun c y r z=>by subst z; rw [r] at mu; exact mu
 have ntup : ∀ c xs,H c = some (.tup xs) → c ≠ x:=fun c xs r z=>by subst z; rw [r] at mu; exact mu
 by_cases hb : b = x
 ·subst hb; rw [Jd] at q; cases q; exact new
 ·rw [Ja hb] at q
  by_cases hbe : b = e
  ·have q' : H b = some (.own x):=by
    rcases he with z | z
    ·exact absurd (hbe.trans z) hb
    ·rw [hbe]; exact z
   rw [q] at q'; cases q'
   obtain ⟨v,hv⟩:=heo
   exact ⟨v,by rw [hbe]; exact hv⟩
  ·refine (ok b u q).stay (fun c v hc r=>k c v ?_ r) (fun c r=>by rw [Ja (nown c b r)]; exact r) fun c xs r=>by rw [Ja (ntup c xs r)]; exact r
   rcases hc with rfl | hc
   ·exact hbe
   ·rintro rfl
    rcases he with z | z
    ·exact nown c b hc z
    ·rw [hc] at z; cases z; exact hb rfl
end
structure Un (fs ex : List Addr) (H H' : Hp) (h h' : Heap) : Prop where
 keep : ∀ b o,h.get? b = some o → H b = none → b ∉ fs → b ∉ ex → h'.get? b = some o
 slot : ∀ b o,h.get? b = some o → H b = none → b ∈ fs → b ∉ ex → ∃ sl,h'.get? b = some { o with slots:=sl }
 free : ∀ b o,h.get? b = some o → H b = none → b ∉ ex → H' b = none
 there : ∀ b o,h.get? b = some o → b ∉ ex → ∃ o',h'.get? b = some o'
 tups : ∀ b xs,H b = some (.tup xs) → H' b = some (.tup xs)
 frzs : ∀ b o u,H b = some (.frz o u) → H' b = some (.frz o u)
 tbls : ∀ b ps,H b = some (.tbl ps) → ∃ more,H' b = some (.tbl (ps ++ more))
section
variable {fs fs' ex ex' : List Addr} {H H1 H2 : Hp} {h h1 h2 h' : Heap} {a x e : Addr} {o : HO}
theorem Un.any (u : Un fs ex H H1 h h1) {b : Addr} {ob : Obj} (q : h.get? b = some ob) (n : H b = none) (hx : b ∉ ex) : ∃ sl,h1.get? b = some { ob with slots:=sl }:=by
 by_cases hb : b ∈ fs
 ·exact u.slot b ob q n hb hx
 ·exact ⟨ob.slots,u.keep b ob q n hb hx⟩
theorem Un.kept (k : ∀ b u,h.get? b = some u → h'.get? b = some u) : Un fs ex H H h h' :=
 ⟨fun b ob q _ _ _=>k b ob q,fun b ob q _ _ _=>⟨ob.slots,k b ob q⟩,fun _ _ _ n _=>n,fun b ob q _=>⟨ob,k b ob q⟩,fun _ _ q=>q,fun _ _ _ q=>q,fun _ ps q=>⟨#[],by rw [q]; simp⟩⟩
theorem Un.refl : Un fs ex H H h h:=Un.kept fun _ _ q=>q
theorem Un.laid (k : ∀ b u,h.get? b = some u → h'.get? b = some u) (hp : h.objs.size ≤ a) (hn : H a = none) : Un fs ex H (upd H a o) h h' where
 keep:=fun b u q _ _ _=>k b u q
 slot:=fun b u q _ _ _=>⟨u.slots,k b u q⟩
 free:=fun b u q n _=>by rw [Ja (Nat.ne_of_lt (Nat.lt_of_lt_of_le (Heap.lt_size q) hp))]; exact n
 there:=fun b u q _=>⟨u,k b u q⟩
 tups:=fun b xs q=>by rw [Ja (J9 q hn)]; exact q
 frzs:=fun b u xs q=>by rw [Ja (J9 q hn)]; exact q
 tbls:=fun b ps q=>⟨#[],by rw [Ja (J9 q hn),q]; simp⟩
theorem Un.write (mu : Mut (H x)) (he : e = x ∨ H e = some (.own x)) (k : ∀ b u,b ≠ e → h.get? b = some u → h'.get? b = some u) (heo : ∃ u,h'.get? e = some u) : Un fs ex H (upd H x o) h h':=by
 have hx : ∀ b,H b = none → b ≠ x:=fun b n z=>by subst z; rw [n] at mu; exact mu
 have hb : ∀ b,H b = none → b ≠ e:=fun b n z=>by
  subst z
  rcases he with r | r
  ·exact hx b n r
  ·rw [n] at r; cases r
 have hm : ∀ b u,H b = some u → ¬ Mut (some u) → b ≠ x:=fun b u q nm z=>by subst z; rw [q] at mu; exact nm mu
 refine ⟨fun b u q n _ _=>k b u (hb b n) q,fun b u q n _ _=>⟨u.slots,k b u (hb b n) q⟩,fun b u q n _=>by rw [Ja (hx b n)]; exact n,fun b u q _=>?_,
  fun b xs q=>by rw [Ja (hm b _ q fun z=>z)]; exact q,fun b u xs q=>by rw [Ja (hm b _ q fun z=>z)]; exact q,fun b ps q=>⟨#[],by rw [Ja (hm b _ q fun z=>z),q]; simp⟩⟩
 by_cases hbe : b = e
 ·subst hbe; exact heo
 ·exact ⟨u,k b u hbe q⟩
end
noncomputable def trk (h : Heap) (H : Hp) : List Addr:=(List.range h.objs.size).filter fun a=>(H a).isSome
noncomputable def hidT (h : Heap) (H : Hp) : Heap:=PySem.W.hideAll h (trk h H)
theorem Jaf (h : Heap) (H : Hp) : (hidT h H).objs.size = h.objs.size:=PySem.W.hideAll_size _ _
theorem JbJ {h : Heap} {H : Hp} {b : Addr} {o : Obj} (e : h.get? b = some o) (n : H b = none) : (hidT h H).get? b = some o :=
 PySem.W.hideAll_get _ e fun hm=>by
  have q : (H b).isSome = true:=(List.mem_filter.mp hm).2
  rw [n] at q; simp at q
theorem Jch {h : Heap} {H : Hp} {b : Addr} {o : Obj} (e : (hidT h H).get? b = some o) : h.get? b = some o ∧ H b = none:=by
 have e' : h.get? b = some o:=PySem.W.of_hideAll (trk h H) e
 refine ⟨e',?_⟩
 cases q : H b with
 | none=>rfl
 | some x =>
  have hm : b ∈ trk h H:=List.mem_filter.mpr ⟨List.mem_range.mpr (Heap.lt_size e'),by simp [q]⟩
  have z : (hidT h H).get? b = none:=PySem.W.hideAll_none (trk h H) hm
  rw [z] at e; cases e
end L2
namespace L2
open PySem PySem.Spec PyProof.Rows
structure Mod (K : PySem.W.Frag) (mg : Str → Option Value) (base : Heap) : Prop where
 kin : K.In base
 glob : base.Ns mainGlobals mg
 blt : ∃ mb,base.Ns builtinsNs mb ∧ ∀ x : Str,x ≠ "__name__" → mb x = bootBuiltins x
 nolimit : base.NoLimit
structure Cx where
 prog : Program
 w : World
 K : PySem.W.Frag
 mg : Str → Option Value
 base : Heap
 A : Around
 N : List Str
 s₀ : Shared
 H₀ : Hp
 env : Env
 outer : List Env
 stack : List Env
 ex : List Addr
 fn : Str → Bool
 calm : Bool
 pn : List (Addr × Obj)
 xe : Value → Shared → Prop
noncomputable def frs (l : List Env) : List Addr:=l.filterMap (·.frame)
noncomputable abbrev Cx.fs (X : Cx) : List Addr:=frs X.outer
noncomputable def Vis (sc : Scope) (x : Str) : Prop:=sc.names.lookup x = some .local ∨ sc.names.lookup x = some .cell ∨ sc.names.lookup x = some .free
noncomputable def Loc (sc : Scope) (x : Str) : Prop:=sc.names.lookup x = some .local ∨ sc.names.lookup x = some .cell
noncomputable def Look (env : Env) (h : Heap) (m : Str → Option Value) (x : Str) (u : Value) : Prop :=
 (env.kindOf x = some .local ∧ m x = some u) ∨ ((env.kindOf x = some .cell ∨ env.kindOf x = some .free) ∧ ∃ c,env.cells.lookup x = some c ∧ h.IsCell c (some u))
structure Cx.Ok (X : Cx) : Prop where
 mod : Mod X.K X.mg X.base
 kind : X.env.scope.kind = .function
 glob : X.env.globals = mainGlobals
 blt : X.env.builtins = builtinsNs
 above : X.s₀.heap.objs.size ≤ X.env.locals
 inj : ∀ x y c,X.env.cells.lookup x = some c → X.env.cells.lookup y = some c → x = y
 has : ∀ x,(X.env.kindOf x = some .cell ∨ X.env.kindOf x = some .free) → ∃ c,X.env.cells.lookup x = some c
 cab : ∀ x c,X.fn x = true → X.env.cells.lookup x = some c → X.s₀.heap.objs.size ≤ c
 hd : X.calm = true → X.A.handled = none
 frames : X.A.frames = some X.stack
 stk : X.stack = X.outer ∨ (X.stack = X.env :: X.outer ∧ X.env.frame = some X.env.locals)
 exf : ∀ b ∈ X.ex,b ≠ X.env.locals ∧ ∀ x c,X.env.cells.lookup x = some c → c ≠ b
 bs : ∀ b o,X.base.get? b = some o → X.s₀.heap.get? b = some o ∧ X.H₀ b = none
 bsz : X.base.objs.size ≤ X.s₀.heap.objs.size
 noex : ∀ b o,X.base.get? b = some o → b ∉ X.ex
 exfs : ∀ b ∈ X.ex,b ∉ X.fs
 funs : X.s₀.heap.FunFrames X.base X.outer
 frf : ∀ b ∈ X.fs,X.H₀ b = none
structure Inv (X : Cx) (pins : List (Addr × Obj)) (σ : List (Option V)) (H : Hp) (s : Shared) : Prop where
 ok : X.Ok
 os : s.os = X.s₀.os
 bare : AllBare s.gens
 base : Un X.fs X.ex X.H₀ H X.s₀.heap s.heap
 loc : ∃ m,s.heap.Ns X.env.locals m ∧ ∀ (i : Nat) (x : Str) (v : V),X.N[i]? = some x → σ[i]? = some (some v) → Vis X.env.scope x → ∃ u,RelV v u ∧ Look X.env s.heap m x u
 cell : ∀ x c,X.env.cells.lookup x = some c → ∃ v,s.heap.IsCell c v
 free : H X.env.locals = none
 freeC : ∀ x c,X.env.cells.lookup x = some c → H c = none
 pin : ∀ p ∈ X.pn ++ pins,s.heap.get? p.1 = some p.2 ∧ H p.1 = none ∧ p.1 ≠ X.env.locals ∧ p.1 ∉ X.fs ∧ ∀ v,p.2.data ≠ .cell v
 hok : HOk X.prog X.w H s.heap
 len : σ.length = X.N.length
section
variable {X : Cx} {pins : List (Addr × Obj)} {σ : List (Option V)} {H H' : Hp} {s : Shared} {h' : Heap}
theorem Cx.Ok.nofr (ok : X.Ok) {b : Addr} {o : Obj} (e : X.base.get? b = some o) : b ∉ X.fs:=fun hb=>by
 have:=(ok.funs.mem hb).1
 rw [e] at this; cases this
theorem Inv.bs (I : Inv X pins σ H s) : ∀ b o,X.base.get? b = some o → s.heap.get? b = some o ∧ H b = none:=fun b o e =>
 ⟨I.base.keep b o (I.ok.bs b o e).1 (I.ok.bs b o e).2 (I.ok.nofr e) (I.ok.noex b o e),I.base.free b o (I.ok.bs b o e).1 (I.ok.bs b o e).2 (I.ok.noex b o e)⟩
theorem Inv.bk (I : Inv X pins σ H s) : ∀ b o,X.base.get? b = some o → s.heap.get? b = some o:=fun b o e=>(I.bs b o e).1
theorem Inv.mod (I : Inv X pins σ H s) : Mod X.K X.mg X.base:=I.ok.mod
theorem Inv.kIn (I : Inv X pins σ H s) : X.K.In s.heap:=I.ok.mod.kin.keeps I.bk
theorem Inv.lt (I : Inv X pins σ H s) : X.env.locals < s.heap.objs.size:=let ⟨_,hn,_⟩:=I.loc; hn.lt
theorem Inv.sz (I : Inv X pins σ H s) : X.s₀.heap.objs.size ≤ s.heap.objs.size:=Nat.le_trans I.ok.above (Nat.le_of_lt I.lt)
theorem Inv.nofs (I : Inv X pins σ H s) {a : Addr} (h : s.heap.objs.size ≤ a) : a ∉ X.fs:=fun hb=>by
 obtain ⟨_,o,ho,_⟩:=I.ok.funs.mem hb
 exact absurd (Nat.lt_of_lt_of_le (Heap.lt_size ho) (Nat.le_trans I.sz h)) (Nat.lt_irrefl _)
theorem Inv.cne (I : Inv X pins σ H s) : ∀ x c,X.env.cells.lookup x = some c → c ≠ X.env.locals:=fun x c e z=>by
 obtain ⟨v,o,ho,hd⟩:=I.cell x c e
 obtain ⟨m,⟨o',es,ep,ho',hd',_⟩,_⟩:=I.loc
 rw [z,ho'] at ho; cases ho; rw [hd'] at hd; cases hd
theorem Inv.funs (I : Inv X pins σ H s) : s.heap.FunFrames X.base X.outer:=by
 have all : ∀ (l : List Env),(∀ b ∈ frs l,b ∈ X.fs) → X.s₀.heap.FunFrames X.base l → s.heap.FunFrames X.base l:=by
  intro l
  induction l with
  | nil=>intro _ _; trivial
  | cons env r ih =>
   intro hs hl
   obtain ⟨hk,⟨L,o,hf,hn,ho,hd⟩,hr⟩:=hl
   have hL : L ∈ X.fs:=hs L (by unfold frs; rw [List.filterMap_cons,hf]; exact List.mem_cons_self)
   obtain ⟨sl,e⟩:=I.base.slot L o ho (I.ok.frf L hL) hL fun z=>I.ok.exfs L z hL
   exact ⟨hk,⟨L,_,hf,hn,e,hd⟩,ih (fun b hb=>hs b (by unfold frs; rw [List.filterMap_cons,hf]; exact List.mem_cons_of_mem _ hb)) hr⟩
 exact all X.outer (fun _ hb=>hb) I.ok.funs
theorem Inv.stack (I : Inv X pins σ H s) : s.heap.FunFrames X.base X.stack:=by
 rcases I.ok.stk with e | ⟨e,hf⟩
 ·rw [e]; exact I.funs
 ·rw [e]
  obtain ⟨m,hn,_⟩:=I.loc
  refine .cons (by rw [I.ok.kind]; decide) hf hn ?_ I.funs
  exact Heap.get?_none_of_le (Nat.le_trans I.ok.bsz I.ok.above)
theorem Inv.stkSub (I : Inv X pins σ H s) : ∀ b ∈ frs X.stack,b ∈ X.env.locals :: X.fs:=fun b hb=>by
 rcases I.ok.stk with e | ⟨e,hf⟩
 ·rw [e] at hb; exact List.mem_cons_of_mem _ hb
 ·rw [e] at hb
  unfold frs at hb
  rw [List.filterMap_cons,hf] at hb
  exact hb
theorem Inv.stkFree (I : Inv X pins σ H s) : ∀ b ∈ frs X.stack,H b = none:=fun b hb=>by
 rcases List.mem_cons.mp (I.stkSub b hb) with e | hb
 ·rw [e]; exact I.free
 ·obtain ⟨_,o,ho,_⟩:=I.ok.funs.mem hb
  exact I.base.free b o ho (I.ok.frf b hb) fun z=>I.ok.exfs b z hb
theorem Inv.step {g' : Array GenState} {t' : Nat} {d' : Drawn} {ch : List Addr} (I : Inv X pins σ H s)
  (hch : ∀ b ∈ ch,(b ∈ X.ex ∨ X.s₀.heap.objs.size ≤ b) ∧ b ≠ X.env.locals ∧ (∀ x c,X.env.cells.lookup x = some c → c ≠ b) ∧ ∀ p ∈ X.pn ++ pins,p.1 ≠ b)
  (keep : ∀ b o,b ≠ X.env.locals → b ∉ X.fs → b ∉ ch → s.heap.get? b = some o → H b = none → h'.get? b = some o)
  (slot : ∀ b o,b ≠ X.env.locals → b ∈ X.fs → b ∉ ch → s.heap.get? b = some o → H b = none → ∃ sl,h'.get? b = some { o with slots:=sl }) (free : ∀ b o,b ∉ ch → s.heap.get? b = some o → H b = none → H' b = none)
  (there : ∀ b o,b ∉ ch → s.heap.get? b = some o → ∃ o',h'.get? b = some o')
  (tups : ∀ b xs,H b = some (.tup xs) → H' b = some (.tup xs)) (frzs : ∀ b o u,H b = some (.frz o u) → H' b = some (.frz o u)) (tbls : ∀ b ps,H b = some (.tbl ps) → ∃ more,H' b = some (.tbl (ps ++ more)))
  (ns : ∀ m,s.heap.Ns X.env.locals m → h'.Ns X.env.locals m) (hok : HOk X.prog X.w H' h') (hg : AllBare g') :
  Inv X pins σ H' { s with heap:=h',gens:=g',drawn:=d',toks:=t' }:=by
 have neL : ∀ b o,X.s₀.heap.get? b = some o → b ≠ X.env.locals:=fun b o e=>Nat.ne_of_lt (Nat.lt_of_lt_of_le (Heap.lt_size e) I.ok.above)
 have neC : ∀ b o,X.s₀.heap.get? b = some o → b ∉ X.ex → b ∉ ch:=fun b o e hx hb=>by
  rcases (hch b hb).1 with z | z
  ·exact hx z
  ·exact absurd (Nat.lt_of_lt_of_le (Heap.lt_size e) z) (Nat.lt_irrefl _)
 have cellK : ∀ x c,X.env.cells.lookup x = some c → ∀ v,s.heap.IsCell c v → h'.IsCell c v:=fun x c e v ⟨o,ho,hd⟩=>by
  have nch : c ∉ ch:=fun z=>(hch c z).2.2.1 x c e rfl
  by_cases hc : c ∈ X.fs
  ·obtain ⟨sl,q⟩:=slot c o (I.cne x c e) hc nch ho (I.freeC x c e)
   exact ⟨_,q,hd⟩
  ·exact ⟨o,keep c o (I.cne x c e) hc nch ho (I.freeC x c e),hd⟩
 refine ⟨I.ok,I.os,hg,⟨fun b o e n hb hx=>?_,fun b o e n hb hx=>?_,fun b o e n hx=>?_,fun b o e hx=>?_,fun b xs e=>tups b xs (I.base.tups b xs e),fun b o xs e=>frzs b o xs (I.base.frzs b o xs e),fun b ps e=>?_⟩,?_,fun x c e=>?_,?_,fun x c e=>?_,fun p hp=>?_,hok,I.len⟩
 ·exact keep b o (neL b o e) hb (neC b o e hx) (I.base.keep b o e n hb hx) (I.base.free b o e n hx)
 ·obtain ⟨sl,e1⟩:=I.base.slot b o e n hb hx
  obtain ⟨sl',e2⟩:=slot b _ (neL b o e) hb (neC b o e hx) e1 (I.base.free b o e n hx)
  exact ⟨sl',e2⟩
 ·obtain ⟨o',e1⟩:=I.base.there b o e hx
  exact free b o' (neC b o e hx) e1 (I.base.free b o e n hx)
 ·obtain ⟨o',e1⟩:=I.base.there b o e hx
  exact there b o' (neC b o e hx) e1
 ·obtain ⟨m1,e1⟩:=I.base.tbls b ps e
  obtain ⟨m2,e2⟩:=tbls b _ e1
  exact ⟨m1 ++ m2,by rw [e2,Array.append_assoc]⟩
 ·obtain ⟨m,hn,hl⟩:=I.loc
  refine ⟨m,ns m hn,fun i x v e1 e2 e3=>?_⟩
  obtain ⟨u,r,l⟩:=hl i x v e1 e2 e3
  refine ⟨u,r,?_⟩
  rcases l with l | ⟨k,c,e,z⟩
  ·exact .inl l
  ·exact .inr ⟨k,c,e,cellK x c e _ z⟩
 ·obtain ⟨v,z⟩:=I.cell x c e
  exact ⟨v,cellK x c e v z⟩
 ·obtain ⟨m,⟨o,_,_,ho,_⟩,_⟩:=I.loc
  exact free _ o (fun z=>(hch _ z).2.1 rfl) ho I.free
 ·obtain ⟨v,o,ho,hd⟩:=I.cell x c e
  exact free c o (fun z=>(hch c z).2.2.1 x c e rfl) ho (I.freeC x c e)
 ·obtain ⟨e,n,ne,nf,d⟩:=I.pin p hp
  have nch : p.1 ∉ ch:=fun z=>(hch p.1 z).2.2.2 p hp rfl
  exact ⟨keep p.1 p.2 ne nf nch e n,free p.1 p.2 nch e n,ne,nf,d⟩
theorem Inv.un {t' : Nat} (I : Inv X pins σ H s) (u : Un X.fs [] H H' s.heap h') (hok : HOk X.prog X.w H' h') : Inv X pins σ H' { s with heap:=h',toks:=t' }:=by
 obtain ⟨m,⟨o,es,ep,ho,r⟩,_⟩:=id I.loc
 obtain ⟨sl,hL⟩:=u.any ho I.free (by simp)
 exact I.step (g':=s.gens) (d':=s.drawn) (ch:=[]) (fun _ z=>nomatch z) (fun b o _ hb _ e n=>u.keep b o e n hb (by simp)) (fun b o _ hb _ e n=>u.slot b o e n hb (by simp)) (fun b o _ e n=>u.free b o e n (by simp)) (fun b o _ e=>u.there b o e (by simp)) u.tups u.frzs u.tbls (fun m' hm=>by
  obtain ⟨o',es',ep',ho',r'⟩:=hm
  rw [ho] at ho'; cases ho'
  exact ⟨_,es',ep',hL,r'⟩) hok I.bare
theorem Inv.call {g' : Array GenState} {t' : Nat} {d' : Drawn} {ch : List Addr} (I : Inv X pins σ H s) (u : Un (frs X.stack) ch H H' s.heap h') (hok : HOk X.prog X.w H' h') (hg : AllBare g')
  (hch : ∀ b ∈ ch,(b ∈ X.ex ∨ X.s₀.heap.objs.size ≤ b) ∧ b ≠ X.env.locals ∧ (∀ x c,X.env.cells.lookup x = some c → c ≠ b) ∧ ∀ p ∈ X.pn ++ pins,p.1 ≠ b) :
  Inv X pins σ H' { s with heap:=h',gens:=g',drawn:=d',toks:=t' }:=by
 obtain ⟨m,⟨o,es,ep,ho,r⟩,_⟩:=id I.loc
 obtain ⟨sl,hL⟩:=u.any ho I.free fun z=>(hch _ z).2.1 rfl
 exact I.step (ch:=ch) hch (fun b o hL hb hc e n=>u.keep b o e n (fun z=>(List.mem_cons.mp (I.stkSub b z)).elim hL hb) hc) (fun b o _ _ hc e n=>u.any e n hc) (fun b o hc e n=>u.free b o e n hc) (fun b o hc e=>u.there b o e hc) u.tups u.frzs u.tbls (fun m' hm=>by
  obtain ⟨o',es',ep',ho',r'⟩:=hm
  rw [ho] at ho'; cases ho'
  exact ⟨_,es',ep',hL,r'⟩) hok hg
theorem Inv.turned {t' : Nat} {it : Addr} (I : Inv X pins σ H s) (k : ∀ b o,b ≠ it → s.heap.get? b = some o → h'.get? b = some o) (hn : H it = none) (hL : it ≠ X.env.locals)
  (h1 : it ∈ X.ex ∨ X.s₀.heap.objs.size ≤ it) (h2 : ∀ x c,X.env.cells.lookup x = some c → c ≠ it) (h3 : ∀ p ∈ X.pn ++ pins,p.1 ≠ it) : Inv X pins σ H { s with heap:=h',toks:=t' }:=by
 have nit : ∀ b u,H b = some u → b ≠ it:=fun b u e z=>by rw [z,hn] at e; cases e
 refine I.step (g':=s.gens) (d':=s.drawn) (ch:=[it]) (fun b hb=>?_) (fun b o _ _ hc e _=>k b o (fun z=>hc (by simp [z])) e) (fun b o _ _ hc e _=>⟨o.slots,k b o (fun z=>hc (by simp [z])) e⟩) (fun _ _ _ _ n=>n)
  (fun b o hc e=>⟨o,k b o (fun z=>hc (by simp [z])) e⟩) (fun _ _ e=>e) (fun _ _ _ e=>e) (fun b ps e=>⟨#[],by rw [e]; simp⟩) (fun m hm=>?_) (fun b u e=>?_) I.bare
 ·have e : b = it:=by simpa using hb
  subst e
  exact ⟨h1,hL,h2,h3⟩
 ·obtain ⟨o,es,ep,ho,r⟩:=hm
  exact ⟨o,es,ep,k _ o (Ne.symm hL) ho,r⟩
 ·refine (I.hok b u e).stay (fun c v hc q=>k c v ?_ q) (fun _ q=>q) fun _ _ q=>q
  rcases hc with z | z
  ·rw [z]; exact nit b u e
  ·exact nit c _ z
theorem Inv.tok (I : Inv X pins σ H s) (t : Nat) : Inv X pins σ H { s with toks:=t }:=I.un (h':=s.heap) (t':=t) Un.refl I.hok
theorem Inv.kept {t' : Nat} (I : Inv X pins σ H s) (k : ∀ b u,s.heap.get? b = some u → h'.get? b = some u) : Inv X pins σ H { s with heap:=h',toks:=t' }:=I.un (Un.kept k) (I.hok.kept k)
theorem Inv.laid {a : Addr} {o : HO} {t' : Nat} (I : Inv X pins σ H s) (k : ∀ b u,s.heap.get? b = some u → h'.get? b = some u) (hp : s.heap.objs.size ≤ a) (new : J07 X.prog X.w (upd H a o) h' a o) :
  Inv X pins σ (upd H a o) { s with heap:=h',toks:=t' }:=I.un (Un.laid k hp (I.hok.fresh hp)) (I.hok.laid k hp new)
theorem Inv.write {x e : Addr} {o : HO} {t' : Nat} (I : Inv X pins σ H s) (mu : Mut (H x)) (he : e = x ∨ H e = some (.own x)) (k : ∀ b u,b ≠ e → s.heap.get? b = some u → h'.get? b = some u) (heo : ∃ u,h'.get? e = some u)
  (new : J07 X.prog X.w (upd H x o) h' x o) : Inv X pins σ (upd H x o) { s with heap:=h',toks:=t' }:=I.un (Un.write mu he k heo) (I.hok.write mu he k heo new)
theorem Inv.pins_of {pins' : List (Addr × Obj)} (I : Inv X pins σ H s) (h : ∀ p ∈ pins',s.heap.get? p.1 = some p.2 ∧ H p.1 = none ∧ p.1 ≠ X.env.locals ∧ p.1 ∉ X.fs ∧ ∀ v,p.2.data ≠ .cell v) : Inv X pins' σ H s :=
 ⟨I.ok,I.os,I.bare,I.base,I.loc,I.cell,I.free,I.freeC,fun p hp=>(List.mem_append.mp hp).elim (fun z=>I.pin p (List.mem_append_left _ z)) (h p),I.hok,I.len⟩
theorem J8t {N : List Str} (hN : N.Nodup) {i j : Nat} {x : Str} (a : N[i]? = some x) (b : N[j]? = some x) : i = j:=by
 obtain ⟨h1,e1⟩:=List.getElem?_eq_some_iff.mp a
 obtain ⟨h2,e2⟩:=List.getElem?_eq_some_iff.mp b
 exact (List.getElem_inj hN).mp (e1.trans e2.symm)
theorem Jam {M : Model} {A : Around} {E : Value → Shared → Prop} {i : Nat} {x : Str} {v : V} {u : Value} {Q : Unit → Shared → Prop} (I : Inv X pins σ H s) (hN : X.N.Nodup) (hi : X.N[i]? = some x) (hx : Loc X.env.scope x) (r : RelV v u)
  (h : ∀ s',Inv X pins (σ.set i (some v)) H s' → (∃ a,Heap.SameBut a s.heap s'.heap ∧ (a = X.env.locals ∨ X.env.cells.lookup x = some a)) → Q () s') (hf : X.fn x = true ∨ X.env.scope.names.lookup x = some .local:=by first | exact .inl rfl | exact .inr rfl | assumption) : wpAny M A (storeName X.env x u) Q E s:=by
 obtain ⟨m,hn,hl⟩:=id I.loc
 have hcls : (X.env.scope.kind == .class || (X.env.scope.kind == .module && X.env.locals != X.env.globals)) = false:=by rw [I.ok.kind]; rfl
 have hiσ : i < σ.length:=by rw [I.len]; exact (List.getElem?_eq_some_iff.mp hi).1
 have cne:=I.cne
 have tracked : ∀ {a : Addr} {h' : Heap},(∃ o,s.heap.get? a = some o ∧ H a = none) → Heap.SameBut a s.heap h' → HOk X.prog X.w H h':=fun {a h'} ha hs b ob e=>by
  obtain ⟨_,_,hfree⟩:=ha
  refine (I.hok b ob e).stay (fun c w' hc q=>(hs.2 c ?_).trans q) (fun _ q=>q) fun _ _ q=>q
  rintro rfl
  rcases hc with rfl | hc
  ·rw [hfree] at e; cases e
  ·rw [hfree] at hc; cases hc
 rcases hx with hk | hk
 ·refine wpAny_storeName_local hk hn (fun h' hn' hs=>?_) hcls
  obtain ⟨oL,_,_,hoL,_⟩:=id hn
  refine h _ ⟨I.ok,I.os,I.bare,⟨fun b o e n hb hx=>?_,fun b o e n hb hx=>?_,I.base.free,fun b o e hx=>?_,I.base.tups,I.base.frzs,I.base.tbls⟩,⟨_,hn',fun j y v' e1 e2 e3=>?_⟩,fun y c e=>?_,I.free,I.freeC,fun p hp=>?_,tracked ⟨oL,hoL,I.free⟩ hs,by simpa using I.len⟩ ⟨_,hs,.inl rfl⟩
  ·exact (hs.2 b (Nat.ne_of_lt (Nat.lt_of_lt_of_le (Heap.lt_size e) I.ok.above))).trans (I.base.keep b o e n hb hx)
  ·obtain ⟨sl,e1⟩:=I.base.slot b o e n hb hx
   exact ⟨sl,(hs.2 b (Nat.ne_of_lt (Nat.lt_of_lt_of_le (Heap.lt_size e) I.ok.above))).trans e1⟩
  ·obtain ⟨o',e1⟩:=I.base.there b o e hx
   exact ⟨o',(hs.2 b (Nat.ne_of_lt (Nat.lt_of_lt_of_le (Heap.lt_size e) I.ok.above))).trans e1⟩
  ·by_cases hj : j = i
   ·subst hj
    rw [hi] at e1; cases e1
    rw [List.getElem?_set_self hiσ] at e2
    cases e2
    exact ⟨u,r,.inl ⟨hk,by simp⟩⟩
   ·rw [List.getElem?_set_ne (Ne.symm hj)] at e2
    obtain ⟨u',r',q⟩:=hl j y v' e1 e2 e3
    refine ⟨u',r',?_⟩
    rcases q with ⟨k,e⟩ | ⟨k,c,e,z⟩
    ·refine .inl ⟨k,?_⟩
     have : y ≠ x:=fun e=>hj (J8t hN e1 (e ▸ hi))
     simp [this,e]
    ·exact .inr ⟨k,c,e,z.sameBut hs (cne y c e)⟩
  ·obtain ⟨w',z⟩:=I.cell y c e
   exact ⟨w',z.sameBut hs (cne y c e)⟩
  ·obtain ⟨e,n,ne,nf,d⟩:=I.pin p hp
   exact ⟨(hs.2 p.1 ne).trans e,n,ne,nf,d⟩
 ·have hfn : X.fn x = true:=by
   rcases hf with z | z
   ·exact z
   ·rw [z] at hk; cases hk
  obtain ⟨c,hc⟩:=I.ok.has x (.inl hk)
  obtain ⟨w',z⟩:=I.cell x c hc
  refine wpAny_storeName_cell I.ok.kind hk hc z (fun h' hc' hs=>?_)
  obtain ⟨oc,hoc,hocd⟩:=id z
  refine h { s with heap:=h' } ⟨I.ok,I.os,I.bare,⟨fun b o e n hb hx=>?_,fun b o e n hb hx=>?_,I.base.free,fun b o e hx=>?_,I.base.tups,I.base.frzs,I.base.tbls⟩,⟨m,hn.sameBut hs (Ne.symm (cne x c hc)),fun j y v' e1 e2 e3=>?_⟩,fun y c' e=>?_,I.free,I.freeC,fun p hp=>?_,tracked ⟨oc,hoc,I.freeC x c hc⟩ hs,by simpa using I.len⟩ ⟨c,hs,.inr hc⟩
  ·exact (hs.2 b (Nat.ne_of_lt (Nat.lt_of_lt_of_le (Heap.lt_size e) (I.ok.cab x c hfn hc)))).trans (I.base.keep b o e n hb hx)
  ·obtain ⟨sl,e1⟩:=I.base.slot b o e n hb hx
   exact ⟨sl,(hs.2 b (Nat.ne_of_lt (Nat.lt_of_lt_of_le (Heap.lt_size e) (I.ok.cab x c hfn hc)))).trans e1⟩
  ·obtain ⟨o',e1⟩:=I.base.there b o e hx
   exact ⟨o',(hs.2 b (Nat.ne_of_lt (Nat.lt_of_lt_of_le (Heap.lt_size e) (I.ok.cab x c hfn hc)))).trans e1⟩
  ·by_cases hj : j = i
   ·subst hj
    rw [hi] at e1; cases e1
    rw [List.getElem?_set_self hiσ] at e2
    cases e2
    exact ⟨u,r,.inr ⟨.inl hk,c,hc,hc'⟩⟩
   ·rw [List.getElem?_set_ne (Ne.symm hj)] at e2
    obtain ⟨u',r',q⟩:=hl j y v' e1 e2 e3
    refine ⟨u',r',?_⟩
    rcases q with q | ⟨k,c',e,z'⟩
    ·exact .inl q
    ·refine .inr ⟨k,c',e,z'.sameBut hs ?_⟩
     rintro rfl
     exact hj (J8t hN e1 (I.ok.inj _ _ _ e hc ▸ hi))
  ·by_cases hcc : c' = c
   ·subst hcc; exact ⟨_,hc'⟩
   ·obtain ⟨w2,z2⟩:=I.cell y c' e
    exact ⟨w2,z2.sameBut hs hcc⟩
  ·obtain ⟨e,n,ne,nf,d⟩:=I.pin p hp
   refine ⟨(hs.2 p.1 ?_).trans e,n,ne,nf,d⟩
   intro q
   rw [q,hoc] at e
   have q' : oc = p.2:=Option.some.inj e
   exact d w' (by rw [← q']; exact hocd)
theorem J4w {M : Model} {A : Around} {E : Value → Shared → Prop} {i : Nat} {x : Str} {v : V} {u : Value} {Q : Unit → Shared → Prop} (I : Inv X pins σ H s) (hN : X.N.Nodup) (hi : X.N[i]? = some x) (hx : Loc X.env.scope x) (r : RelV v u)
  (h : ∀ s',Inv X pins (σ.set i (some v)) H s' → Q () s') (hf : X.fn x = true ∨ X.env.scope.names.lookup x = some .local:=by first | exact .inl rfl | exact .inr rfl | assumption) : wpAny M A (storeName X.env x u) Q E s :=
 Jam I hN hi hx r (fun s' I' _=>h s' I') hf
theorem Inv.call' {s' : Shared} {ch : List Addr} (I : Inv X pins σ H s) (ho : s'.os = s.os) (u : Un (frs X.stack) ch H H' s.heap s'.heap) (hok : HOk X.prog X.w H' s'.heap) (hg : AllBare s'.gens)
  (hch : ∀ b ∈ ch,(b ∈ X.ex ∨ X.s₀.heap.objs.size ≤ b) ∧ b ≠ X.env.locals ∧ (∀ x c,X.env.cells.lookup x = some c → c ≠ b) ∧ ∀ p ∈ X.pn ++ pins,p.1 ≠ b) : Inv X pins σ H' s':=by
 obtain ⟨h',g',d',t',o'⟩:=s'
 have e : o' = s.os:=ho
 subst e
 exact I.call (g':=g') (t':=t') (d':=d') u hok hg hch
end
noncomputable abbrev XK:=Value → Option Addr → Hp → Prop
noncomputable abbrev St:=List (Option V)
noncomputable abbrev VK:=V → Hp → Prop
noncomputable abbrev TE:=St → Hp → VK → Prop
noncomputable abbrev TT:=St → Hp → (Bool → Hp → Prop) → Prop
noncomputable abbrev TA:=St → Hp → (List V → Hp → Prop) → Prop
structure Ends where
 nx : St → Hp → Prop
 rt : VK
 bk : St → Hp → Prop:=fun _ _=>False
 ct : St → Hp → Prop:=fun _ _=>False
noncomputable abbrev TS:=Ends → St → Hp → Prop
noncomputable def EP (X : Cx) (pins : List (Addr × Obj)) (σ : St) (Q : VK) (u : Value) (s' : Shared) : Prop:=∃ v H',Inv X pins σ H' s' ∧ RelV v u ∧ Q v H'
noncomputable def TP (X : Cx) (pins : List (Addr × Obj)) (σ : St) (Q : Bool → Hp → Prop) (b : Bool) (s' : Shared) : Prop:=∃ H',Inv X pins σ H' s' ∧ Q b H'
noncomputable def AP (X : Cx) (pins : List (Addr × Obj)) (σ : St) (Q : List V → Hp → Prop) (us : List Value) (s' : Shared) : Prop:=∃ vs H',Inv X pins σ H' s' ∧ Vals vs us ∧ Q vs H'
noncomputable def SP (X : Cx) (pins : List (Addr × Obj)) (D : Ends) (f : Flow) (s' : Shared) : Prop :=
 match f with
 | .next=>∃ σ' H',Inv X pins σ' H' s' ∧ D.nx σ' H'
 | .brk=>∃ σ' H',Inv X pins σ' H' s' ∧ D.bk σ' H'
 | .cont=>∃ σ' H',Inv X pins σ' H' s' ∧ D.ct σ' H'
 | .ret u=>∃ v σ' H',Inv X pins σ' H' s' ∧ RelV v u ∧ D.rt v H'
noncomputable def PE (X : Cx) (e : Expr) (t : TE) : Prop :=
 ∀ (pins : List (Addr × Obj)) (s : Shared) (σ : St) (H : Hp) (Q : VK),Inv X pins σ H s → t σ H Q → wpAny (model X.prog X.w) X.A (eval e X.env) (EP X pins σ Q) X.xe s
noncomputable def PT (X : Cx) (e : Expr) (t : TT) : Prop :=
 ∀ (pins : List (Addr × Obj)) (s : Shared) (σ : St) (H : Hp) (Q : Bool → Hp → Prop),Inv X pins σ H s → t σ H Q → wpAny (model X.prog X.w) X.A (isTrue e X.env (eval e X.env)) (TP X pins σ Q) X.xe s
noncomputable def PW (X : Cx) (e : Expr) (t : TT) : Prop :=
 ∀ (whole : Sem Value) (pins : List (Addr × Obj)) (s : Shared) (σ : St) (H : Hp) (Q : Bool → Hp → Prop),Inv X pins σ H s → t σ H Q → wpAny (model X.prog X.w) X.A (isTrue e X.env whole) (TP X pins σ Q) X.xe s
theorem PW.pt {X : Cx} {e : Expr} {t : TT} (h : PW X e t) : PT X e t:=h _
noncomputable def PA (X : Cx) (es : List Expr) (t : TA) : Prop :=
 ∀ (pos : Pos) (pins : List (Addr × Obj)) (s : Shared) (σ : St) (H : Hp) (Q : List V → Hp → Prop),Inv X pins σ H s → t σ H Q → wpAny (model X.prog X.w) X.A (spliced (backTo pos (starEach es X.env))) (AP X pins σ Q) X.xe s
noncomputable def PS (X : Cx) (st : Stmt) (t : TS) : Prop :=
 ∀ (pins : List (Addr × Obj)) (s : Shared) (σ : St) (H : Hp) (D : Ends),Inv X pins σ H s → t D σ H → wpAny (model X.prog X.w) X.A (exec st X.env) (SP X pins D) X.xe s
noncomputable def PSs (X : Cx) (st : List Stmt) (t : TS) : Prop :=
 ∀ (pins : List (Addr × Obj)) (s : Shared) (σ : St) (H : Hp) (D : Ends),Inv X pins σ H s → t D σ H → wpAny (model X.prog X.w) X.A (execs st X.env) (SP X pins D) X.xe s
theorem thn {α : Type} {t : Sem α} {Q Q' : α → Shared → Prop} {M : Model} {A : Around} {E : Value → Shared → Prop} {s : Shared} (h : wpAny M A t Q E s) (hQ : ∀ a s,Q a s → Q' a s) : wpAny M A t Q' E s:=wpAny_mono h hQ fun _ _ x=>x
end L2
namespace L2
open PySem PySem.Spec PyProof.Rows
section
variable {X : Cx}
noncomputable def tVar (i : Nat) : TE:=fun σ H Q=>∃ v,σ[i]? = some (some v) ∧ Q v H
noncomputable def tC (v : V) : TE:=fun _ H Q=>Q v H
theorem Jdj {i : Nat} {x : Str} {pos : Pos} (hN : X.N[i]? = some x) (hv : Vis X.env.scope x) (hd : (x == ("__debug__" : Str)) = false:=by decide) (hcd : (x == ("__classdict__" : Str)) = false:=by decide) : PE X (.Name x pos) (tVar i):=by
 intro pins s σ H Q I h
 obtain ⟨v,e,h⟩:=h
 obtain ⟨m,hn,hl⟩:=I.loc
 obtain ⟨u,r,l⟩:=hl i x v hN e hv
 have fin : EP X pins σ Q u s:=⟨v,H,I,r,h⟩
 rcases l with ⟨hk,hm⟩ | ⟨hk,c,hc,hcell⟩
 ·exact wpAny_Name (wpAny_loadName_local I.ok.kind hk hn hm fin) hd
 ·rcases hk with hk | hk
  ·exact wpAny_Name (wpAny_loadName_cell I.ok.kind hk hc hcell fin) hd
  ·exact wpAny_Name (wpAny_loadName_free I.ok.kind hk hc hcell fin hcd) hd
theorem Je {i j pos} : PE X (.Constant (.int i) j pos) (tC (.int i)):=fun _ _ _ H _ I h=>wpAny_Constant_int ⟨.int i,H,I.tok _,⟨_,rfl⟩,h⟩
theorem J3A {b j pos} : PE X (.Constant (.bool b) j pos) (tC (.bl b)):=fun _ _ _ H _ I h=>Constant_bool ⟨.bl b,H,I,rfl,h⟩
theorem J5Y {j pos} : PE X (.Constant .none j pos) (tC .non):=fun _ _ _ H _ I h=>Constant_none ⟨.non,H,I,rfl,h⟩
theorem JdQ {x j pos} : PE X (.Constant (.str x) j pos) (tC (.str x)):=fun _ _ _ H _ I h=>Calls.Constant_str ⟨.str x,H,I.tok _,⟨_,rfl⟩,h⟩
noncomputable def Gl (X : Cx) (x : Str) : Prop:=X.env.kindOf x = some .globalImplicit
theorem J5c {E : Value → Shared → Prop} {pins : List (Addr × Obj)} {s : Shared} {σ : St} {H : Hp} {x : Str} {u : Value} {pos : Pos} {Q : Value → Shared → Prop} (I : Inv X pins σ H s) (hg : Gl X x) (hm : X.mg x = some u) (h : Q u s)
  (hd : (x == ("__debug__" : Str)) = false:=by decide) : wpAny (model X.prog X.w) X.A (eval (.Name x pos) X.env) Q E s :=
 Calls.Name_function_global I.ok.kind hg (Calls.loadGlobal_global (by rw [I.ok.glob]; exact I.mod.glob.keeps I.bk) hm h) hd
theorem J2q {E : Value → Shared → Prop} {pins : List (Addr × Obj)} {s : Shared} {σ : St} {H : Hp} {x : Str} {u : Value} {pos : Pos} {Q : Value → Shared → Prop} (I : Inv X pins σ H s) (hg : Gl X x) (hm : X.mg x = none) (hv : bootBuiltins x = some u) (h : Q u s)
  (hn : x ≠ "__name__":=by decide) (hd : (x == ("__debug__" : Str)) = false:=by decide) : wpAny (model X.prog X.w) X.A (eval (.Name x pos) X.env) Q E s:=by
 obtain ⟨mb,h1,h2⟩:=I.mod.blt
 exact Calls.Name_function_global I.ok.kind hg (Calls.loadGlobal_builtin (by rw [I.ok.glob]; exact I.mod.glob.keeps I.bk) hm (by rw [I.ok.blt]; exact h1.keeps I.bk) ((h2 x hn).trans hv) h) hd
theorem J5h {x : Str} {v : V} {u : Value} {pos : Pos} (hg : Gl X x) (hm : X.mg x = some u) (r : RelV v u) (hd : (x == ("__debug__" : Str)) = false:=by decide) : PE X (.Name x pos) (tC v) :=
 fun _ _ _ H _ I h=>J5c I hg hm ⟨v,H,I,r,h⟩ hd
theorem Jcc {x : Str} {v : V} {u : Value} {pos : Pos} (hg : Gl X x) (hm : X.mg x = none) (hv : bootBuiltins x = some u) (r : RelV v u) (hn : x ≠ "__name__":=by decide) (hd : (x == ("__debug__" : Str)) = false:=by decide) : PE X (.Name x pos) (tC v) :=
 fun _ _ _ H _ I h=>J2q I hg hm hv ⟨v,H,I,r,h⟩ hn hd
variable {a b : Expr} {ta tb : TE} {pos : Pos}
noncomputable def PC (X : Cx) (op : CmpOp) (a b : Expr) (t : TE) : Prop :=
 ∀ (pins : List (Addr × Obj)) (s : Shared) (σ : St) (H : Hp) (Q : VK),Inv X pins σ H s → t σ H Q →
  wpAny (model X.prog X.w) X.A (eval a X.env) (fun v s₁=>wpAny (model X.prog X.w) X.A (eval b X.env) (fun u s₂=>wpAny (model X.prog X.w) X.A (compareOp op v u) (EP X pins σ Q) X.xe s₂) X.xe s₁) X.xe s
noncomputable def tB (t : TE) : TT:=fun σ H Q=>t σ H fun x H1=>∃ c,x = .bl c ∧ Q c H1
theorem JdD {op : CmpOp} {t : TE} (h : PC X op a b t) (h1 : behindInMarks op b = false:=by first | exact nobehind _ (by decide) (by decide) | rfl) : PE X (.Compare a [op] [b] pos) t:=fun pins s σ H Q I hw=>wpAny_Compare1 (h pins s σ H Q I hw) h1
theorem JdO {op : CmpOp} {t : TE} (h : PC X op a b t) (h1 : behindInMarks op b = false:=by first | exact nobehind _ (by decide) (by decide) | rfl) : PT X (.Compare a [op] [b] pos) (tB t):=by
 intro pins s σ H Q I hw
 refine wpAny_isTrue_Compare1 (thn (h pins s σ H _ I hw) fun v s1 h1=>thn h1 fun u s2 h2=>thn h2 fun c s3 ⟨x,H1,I1,r1,q1⟩=>?_) h1
 obtain ⟨d,rfl,q⟩:=q1
 cases r1
 exact wpAny_truthy_bool ⟨H1,I1,q⟩
theorem J3i {e : Expr} {t : TE} (h : PE X e t) (he : ∀ whole,isTrue e X.env whole = (do let v ← whole; standAt e.pos; holding [v] (truthy v)):=by intro _; rfl) : PT X e (tB t):=by
 intro pins s σ H Q I hw
 refine isTrue_plain (thn (h pins s σ H _ I hw) fun v s1 ⟨x,H1,I1,r1,q1⟩=>?_) (he _)
 obtain ⟨d,rfl,q⟩:=q1
 cases r1
 exact wpAny_truthy_bool ⟨H1,I1,q⟩
variable {tA tB' : TT} {rest : List Expr}
noncomputable def tAnd (t u : TT) : TT:=fun σ H Q=>t σ H fun c H1=>if c = true then u σ H1 Q else Q false H1
noncomputable def tOr (t u : TT) : TT:=fun σ H Q=>t σ H fun c H1=>if c = true then Q true H1 else u σ H1 Q
noncomputable def tNot (t : TT) : TT:=fun σ H Q=>t σ H fun c H1=>Q (!c) H1
theorem J82 (ha : PT X a tA) : PW X (.BoolOp .And [a] pos) tA:=by
 intro wh pins s σ H Q I h
 refine isTrue_and (thn (ha pins s σ H Q I h) fun c s1 e=>?_)
 cases c with
 | true=>exact isTrue_and_nil e
 | false=>exact e
theorem J48 (ha : PT X a tA) : PW X (.BoolOp .Or [a] pos) tA:=by
 intro wh pins s σ H Q I h
 refine isTrue_or (thn (ha pins s σ H Q I h) fun c s1 e=>?_)
 cases c with
 | false=>exact isTrue_or_nil e
 | true=>exact e
theorem J9q (ha : PT X a tA) (hb : PW X (.BoolOp .And (b :: rest) pos) tB') : PW X (.BoolOp .And (a :: b :: rest) pos) (tAnd tA tB'):=by
 intro wh pins s σ H Q I h
 refine isTrue_and (thn (ha pins s σ H _ I h) fun c s1 ⟨H1,I1,q1⟩=>?_)
 cases c with
 | true=>exact hb wh pins s1 σ H1 Q I1 q1
 | false=>exact ⟨H1,I1,q1⟩
theorem J4v (ha : PT X a tA) (hb : PW X (.BoolOp .Or (b :: rest) pos) tB') : PW X (.BoolOp .Or (a :: b :: rest) pos) (tOr tA tB'):=by
 intro wh pins s σ H Q I h
 refine isTrue_or (thn (ha pins s σ H _ I h) fun c s1 ⟨H1,I1,q1⟩=>?_)
 cases c with
 | true=>exact ⟨H1,I1,q1⟩
 | false=>exact hb wh pins s1 σ H1 Q I1 q1
theorem J3z (ha : PT X a tA) : PT X (.UnaryOp .Not a pos) (tNot tA):=by
 intro pins s σ H Q I h
 exact isTrue_not (ha pins s σ H (fun c H1=>Q (!c) H1) I h)
noncomputable def Jed (ta tb : TE) : TE:=fun σ H Q=>ta σ H fun x H1=>∃ c,x = .bl c ∧ if c = true then tb σ H1 Q else Q (.bl false) H1
noncomputable def Jep (ta : TE) : TE:=fun σ H Q=>ta σ H fun x H1=>∃ c,x = .bl c ∧ Q (.bl (!c)) H1
theorem J9n {op} {t : TE} (h : PE X a t) : PE X (.BoolOp op [a] pos) t:=fun pins s σ H Q I hw=>BoolOp_one (h pins s σ H Q I hw)
theorem J83 (ha : PE X a ta) (hb : PE X (.BoolOp .And (b :: rest) pos) tb) : PE X (.BoolOp .And (a :: b :: rest) pos) (Jed ta tb):=by
 intro pins s σ H Q I h
 refine BoolOp_and (thn (ha pins s σ H _ I h) fun v s1 ⟨x,H1,I1,r1,q1⟩=>?_)
 obtain ⟨c,rfl,q1⟩:=q1
 cases r1
 refine wpAny_truthy_bool ?_
 cases c with
 | true=>exact hb pins s1 σ H1 Q I1 q1
 | false=>exact ⟨.bl false,H1,I1,rfl,q1⟩
theorem JdS (ha : PE X a ta) : PE X (.UnaryOp .Not a pos) (Jep ta):=by
 intro pins s σ H Q I h
 refine UnaryOp_ (thn (ha pins s σ H _ I h) fun v s1 ⟨x,H1,I1,r1,q1⟩=>?_)
 obtain ⟨c,rfl,q1⟩:=q1
 cases r1
 exact not_of (wpAny_truthy_bool ⟨.bl (!c),H1,I1,rfl,q1⟩)
noncomputable def tIf (t : TT) (ta tb : TE) : TE:=fun σ H Q=>t σ H fun c H1=>if c = true then ta σ H1 Q else tb σ H1 Q
theorem JaW {c : Expr} (hc : PT X c tA) (ha : PE X a ta) (hb : PE X b tb) : PE X (.IfExp c a b pos) (tIf tA ta tb):=by
 intro pins s σ H Q I h
 refine wpAny_IfExp (thn (hc pins s σ H _ I h) fun d s1 ⟨H1,I1,q1⟩=>?_)
 cases d with
 | true=>exact ha pins s1 σ H1 Q I1 q1
 | false=>exact hb pins s1 σ H1 Q I1 q1
end
end L2
namespace L2
open PySem PySem.Spec PyProof.Rows
noncomputable def SqL (K : PySem.W.Frag) (H : Hp) (a : Addr) (xs : List V) : Prop :=
 Rd H a (.lst xs) ∨
  ∃ (o : Obj) (its : Array Value) (n : Nat),K.lookup a = some o ∧ o.cls = .type "list" ∧ o.dict = none ∧ o.data = .seq its n ∧ its.size ≤ sizeLine ∧ Vals xs its.toList
noncomputable def SqT (K : PySem.W.Frag) (H : Hp) (a : Addr) (xs : List V) : Prop :=
 Rd H a (.tup xs) ∨
  ∃ (o : Obj) (its : Array Value) (n : Nat),K.lookup a = some o ∧ o.cls = .type "tuple" ∧ o.data = .seq its n ∧ its.size ≤ sizeLine ∧ Vals xs its.toList
noncomputable def absV : Value → Option V
 | .none=>some .non
 | .bool b=>some (.bl b)
 | .int i _=>some (.int i)
 | .str x _=>some (.str x)
 | .bytes b _=>some (.byt b)
 | .float b _=>some (.flt b)
 | .ref a=>some (.ref a)
 | .type n=>some (.ty n)
 | _=>none
theorem RelV.abs {x : V} {u : Value} (r : RelV x u) : absV u = some x:=by
 cases x with
 | non=>cases r; rfl
 | bl _=>cases r; rfl
 | int _=>obtain ⟨t,rfl⟩:=r; rfl
 | str _=>obtain ⟨t,rfl⟩:=r; rfl
 | byt _=>obtain ⟨t,rfl⟩:=r; rfl
 | flt _=>obtain ⟨t,rfl⟩:=r; rfl
 | ref _=>cases r; rfl
 | ty _=>cases r; rfl
theorem RelV.inj {x y : V} {u : Value} (r : RelV x u) (q : RelV y u) : x = y:=Option.some.inj (r.abs.symm.trans q.abs)
theorem Vals.inj : ∀ {xs ys : List V} {us : List Value},Vals xs us → Vals ys us → xs = ys
 | _,_,_,.nil,.nil=>rfl
 | _,_,_,.cons r t,.cons r' t'=>by rw [r.inj r',Vals.inj t t']
section
variable {X : Cx} {pins : List (Addr × Obj)} {σ : St} {H : Hp} {s : Shared} {a : Addr} {xs ys : List V}
theorem SqL.of {K : PySem.W.Frag} (h : H a = some (.lst xs)) : SqL K H a xs:=.inl (.inl h)
theorem SqT.of {K : PySem.W.Frag} (h : H a = some (.tup xs)) : SqT K H a xs:=.inl (.inl h)
theorem Inv.list (I : Inv X pins σ H s) (h : SqL X.K H a xs) : ∃ its : List Value,Vals xs its ∧ PlainL s.heap a its.toArray ∧ xs.length ≤ sizeLine:=by
 rcases h with h | ⟨o,its,n,hk,hc,hd,hs,hz,r⟩
 ·obtain ⟨z,its,n,r,e⟩:=h.ok I.hok
  exact ⟨its,r,⟨_,n,e,rfl,rfl,rfl⟩,z⟩
 ·refine ⟨its.toList,r,⟨o,n,I.kIn a o hk,hc,hd,by simpa using hs⟩,?_⟩
  have e:=r.length
  simp only [Array.length_toList] at e
  omega
theorem Inv.tuple (I : Inv X pins σ H s) (h : SqT X.K H a xs) : ∃ its : List Value,Vals xs its ∧ IsTup s.heap a its.toArray ∧ xs.length ≤ sizeLine:=by
 rcases h with h | ⟨o,its,n,hk,hc,hs,hz,r⟩
 ·obtain ⟨z,its,r,p⟩:=h.ok I.hok
  exact ⟨its,r,p,z⟩
 ·refine ⟨its.toList,r,⟨o,I.kIn a o hk,hc,n,by simpa using hs⟩,?_⟩
  have e:=r.length
  simp only [Array.length_toList] at e
  omega
theorem Inv.list_inj (I : Inv X pins σ H s) (h : SqL X.K H a xs) (h' : SqL X.K H a ys) : xs = ys:=by
 obtain ⟨its,r,⟨o,n,e,_,_,d⟩,_⟩:=I.list h
 obtain ⟨its',r',⟨o',n',e',_,_,d'⟩,_⟩:=I.list h'
 rw [e] at e'; cases e'
 rw [d] at d'
 injection d' with d1 _
 have : its = its':=by simpa using congrArg Array.toList d1
 subst this
 exact r.inj r'
theorem Inv.tuple_inj (I : Inv X pins σ H s) (h : SqT X.K H a xs) (h' : SqT X.K H a ys) : xs = ys:=by
 obtain ⟨its,r,⟨o,e,_,n,d⟩,_⟩:=I.tuple h
 obtain ⟨its',r',⟨o',e',_,n',d'⟩,_⟩:=I.tuple h'
 rw [e] at e'; cases e'
 rw [d] at d'
 injection d' with d1 _
 have : its = its':=by simpa using congrArg Array.toList d1
 subst this
 exact r.inj r'
end
noncomputable abbrev Cx.wish (X : Cx) (E : Value → Shared → Prop) : Cx:={ X with xe:=E }
noncomputable abbrev Cx.nox (X : Cx) : Cx:=X.wish fun _ _=>False
theorem Cx.Ok.wish {X : Cx} (ok : X.Ok) (E : Value → Shared → Prop) : (X.wish E).Ok :=
 ⟨ok.mod,ok.kind,ok.glob,ok.blt,ok.above,ok.inj,ok.has,ok.cab,ok.hd,ok.frames,ok.stk,ok.exf,ok.bs,ok.bsz,ok.noex,ok.exfs,ok.funs,ok.frf⟩
theorem Cx.Ok.unwish {X : Cx} {E : Value → Shared → Prop} (ok : (X.wish E).Ok) : X.Ok :=
 ⟨ok.mod,ok.kind,ok.glob,ok.blt,ok.above,ok.inj,ok.has,ok.cab,ok.hd,ok.frames,ok.stk,ok.exf,ok.bs,ok.bsz,ok.noex,ok.exfs,ok.funs,ok.frf⟩
section
variable {X : Cx} {pins : List (Addr × Obj)} {σ : St} {H : Hp} {s : Shared} {E : Value → Shared → Prop}
theorem Inv.wish (I : Inv X pins σ H s) (E : Value → Shared → Prop) : Inv (X.wish E) pins σ H s:=⟨I.ok.wish E,I.os,I.bare,I.base,I.loc,I.cell,I.free,I.freeC,I.pin,I.hok,I.len⟩
theorem Inv.unwish (I : Inv (X.wish E) pins σ H s) : Inv X pins σ H s:=⟨I.ok.unwish,I.os,I.bare,I.base,I.loc,I.cell,I.free,I.freeC,I.pin,I.hok,I.len⟩
theorem SP.unwish {D : Ends} {f : Flow} {s' : Shared} (h : SP (X.wish E) pins D f s') : SP X pins D f s':=by
 cases f with
 | next=>obtain ⟨σ',H',I,q⟩:=h; exact ⟨σ',H',I.unwish,q⟩
 | brk=>obtain ⟨σ',H',I,q⟩:=h; exact ⟨σ',H',I.unwish,q⟩
 | cont=>obtain ⟨σ',H',I,q⟩:=h; exact ⟨σ',H',I.unwish,q⟩
 | ret u=>obtain ⟨v,σ',H',I,r,q⟩:=h; exact ⟨v,σ',H',I.unwish,r,q⟩
theorem PSs.nox {st : List Stmt} {t : TS} (h : PSs X.nox st t) : PSs X st t:=fun pins s σ H D I hw =>
 wpAny_mono (h pins s σ H D (I.wish _) hw) (fun _ _ q=>q.unwish) fun _ _ z=>False.elim z
end
section
variable {X : Cx} {st : Stmt} {rest : List Stmt} {t u : TS} {e : Expr} {te : TE} {pos : Pos}
noncomputable def Je6 : TS:=fun D σ H=>D.nx σ H
noncomputable def tSeq (t u : TS) : TS:=fun D σ H=>t { D with nx:=u D } σ H
theorem JB : PSs X [] Je6:=fun _ _ σ H _ I h=>wpAny_execs_nil ⟨σ,H,I,h⟩
theorem J7 (h1 : PS X st t) (h2 : PSs X rest u) : PSs X (st :: rest) (tSeq t u):=by
 intro pins s σ H D I h
 refine wpAny_execs_cons (thn (h1 pins s σ H { D with nx:=u D } I h) fun f s1 q=>?_)
 cases f with
 | next =>
  obtain ⟨σ',H',I',q⟩:=q
  exact h2 pins s1 σ' H' D I' q
 | ret v=>exact q
 | brk=>exact q
 | cont=>exact q
theorem Jc (h1 : PS X st t) : PSs X [st] t:=by
 intro pins s σ H D I h
 refine wpAny_execs_cons (thn (h1 pins s σ H D I h) fun f s1 q=>?_)
 cases f with
 | next=>exact wpAny_execs_nil q
 | ret v=>exact q
 | brk=>exact q
 | cont=>exact q
noncomputable def Jdm : TS:=fun D σ H=>D.bk σ H
theorem JbO : PS X (.Break pos) Jdm:=fun _ _ σ H _ I h=>wpAny_Break ⟨σ,H,I,h⟩
theorem Inv.quiet {pins : List (Addr × Obj)} {σ : St} {H : Hp} {s : Shared} (I : Inv X pins σ H s) : interactive X.env = false:=by simp [interactive,I.ok.kind]
noncomputable def Jea (te : TE) : TS:=fun D σ H=>te σ H fun _ H1=>D.nx σ H1
theorem J5e (he : PE X e te) (hs : swapsWith e none pos.line X.env = pure false:=by rfl) : PS X (.Expr e pos) (Jea te):=by
 intro pins s σ H D I h
 exact wpAny_Expr_any (thn (he pins s σ H _ I h) fun v s1 ⟨x,H1,I1,r1,q1⟩=>⟨σ,H1,I1,q1⟩) I.quiet hs
noncomputable def tRet (te : TE) : TS:=fun D σ H=>te σ H D.rt
theorem Jo (he : PE X e te) : PS X (.Return (some e) pos) (tRet te):=by
 intro pins s σ H D I h
 exact wpAny_Return_some (thn (he pins s σ H _ I h) fun v s1 ⟨x,H1,I1,r1,q1⟩=>⟨x,σ,H1,I1,r1,q1⟩)
noncomputable def tIfS (c : TT) (t u : TS) : TS:=fun D σ H=>c σ H fun b H1=>if b = true then t D σ H1 else u D σ H1
theorem J0A {c : Expr} {a b : List Stmt} {tc : TT} (hc : PT X c tc) (ha : PSs X a t) (hb : PSs X b u) : PS X (.If c a b pos) (tIfS tc t u):=by
 intro pins s σ H D I h
 refine wpAny_If (thn (hc pins s σ H _ I h) fun d s1 ⟨H1,I1,q1⟩=>?_)
 cases d with
 | true=>exact ha pins s1 σ H1 D I1 q1
 | false=>exact hb pins s1 σ H1 D I1 q1
noncomputable def Jbs : TS:=fun _ _ _=>False
theorem J8J : PS X st Jbs:=fun _ _ _ _ _ _ h=>h.elim
end
noncomputable abbrev TG:=V → St → Hp → (St → Hp → Prop) → Prop
noncomputable abbrev TGs:=List V → St → Hp → (St → Hp → Prop) → Prop
noncomputable def PG (X : Cx) (target : Expr) (t : TG) : Prop :=
 ∀ (pins : List (Addr × Obj)) (s : Shared) (σ : St) (H : Hp) (v : V) (u : Value) (Q : St → Hp → Prop),Inv X pins σ H s → RelV v u → t v σ H Q →
  wpAny (model X.prog X.w) X.A (assign target X.env u) (fun _ s'=>∃ σ' H',Inv X pins σ' H' s' ∧ Q σ' H') X.xe s
noncomputable def PGs (X : Cx) (ts : List Expr) (t : TGs) : Prop :=
 ∀ (pins : List (Addr × Obj)) (s : Shared) (σ : St) (H : Hp) (vs : List V) (us : List Value) (Q : St → Hp → Prop),Inv X pins σ H s → Vals vs us → t vs σ H Q →
  wpAny (model X.prog X.w) X.A (assignInOrder ((assignEach ts X.env).map (·.2)) us) (fun _ s'=>∃ σ' H',Inv X pins σ' H' s' ∧ Q σ' H') X.xe s
noncomputable abbrev TIp:=V → V → Hp → VK → Prop
noncomputable def PIp (X : Cx) (op : Operator) (t : TIp) : Prop :=
 ∀ (pins : List (Addr × Obj)) (s : Shared) (σ : St) (H : Hp) (x y : V) (v u : Value) (Q : VK),Inv X pins σ H s → RelV x v → RelV y u → t x y H Q →
  wpAny (model X.prog X.w) X.A (inplaceOp op v u) (EP X pins σ Q) X.xe s
section
variable {X : Cx} {pos : Pos}
noncomputable def J3V (i : Nat) : TG:=fun v σ H Q=>Q (σ.set i (some v)) H
theorem Jk {i : Nat} {x : Str} (hN : X.N.Nodup) (hi : X.N[i]? = some x) (hx : Loc X.env.scope x) (hf : X.fn x = true ∨ X.env.scope.names.lookup x = some .local:=by first | exact .inl rfl | exact .inr rfl | assumption) : PG X (.Name x pos) (J3V i):=by
 intro pins s σ H v u Q I r h
 exact wpAny_assign_Name (J4w I hN hi hx r (fun s' I'=>⟨_,H,I',h⟩) hf)
noncomputable def gNil : TGs:=fun vs σ H Q=>vs = [] ∧ Q σ H
noncomputable def J8Q (t : TG) (u : TGs) : TGs:=fun vs σ H Q=>∃ v r,vs = v :: r ∧ t v σ H fun σ' H'=>u r σ' H' Q
theorem J0Y : PGs X [] gNil:=by
 intro pins s σ H vs us Q I r h
 obtain ⟨e,h⟩:=h
 subst e
 cases r
 exact assignInOrder_nil ⟨σ,H,I,h⟩
theorem Jp {e : Expr} {es : List Expr} {t : TG} {u : TGs} (h1 : PG X e t) (h2 : PGs X es u)
  (hs : (assignEach (e :: es) X.env).map (·.2) = assign e X.env :: (assignEach es X.env).map (·.2):=by rfl) : PGs X (e :: es) (J8Q t u):=by
 intro pins s σ H vs us Q I r h
 obtain ⟨v,vr,e1,h⟩:=h
 subst e1
 cases r with
 | cons r rr =>
  rw [hs]
  refine assignInOrder_cons (thn (h1 pins s σ H _ _ _ I r h) fun _ s1 ⟨σ1,H1,I1,q1⟩=>?_)
  exact h2 pins s1 σ1 H1 _ _ Q I1 rr q1
noncomputable def gTup (K : PySem.W.Frag) (n : Nat) (t : TGs) : TG:=fun v σ H Q=>∃ a xs,v = .ref a ∧ SqT K H a xs ∧ xs.length = n ∧ t xs σ H Q
theorem J1Y {es : List Expr} {k : Nat} {t : TGs} {n : Nat} (hc : X.calm = true) (h : PGs X es t)
  (hn : (assignEach es X.env).length = n:=by rfl) (hst : (assignEach es X.env).findIdx? (·.1) = none:=by rfl) : PG X (.Tuple es k pos) (gTup X.K n t):=by
 intro pins s σ H v u Q I r hw
 obtain ⟨a,xs,e1,hq,hl,hw⟩:=hw
 subst e1
 cases r
 obtain ⟨its,rv,ht,hz⟩:=I.tuple hq
 refine assign_Tuple_tuple (I.ok.hd hc) ht (by simp [hn,← hl,rv.length]) hst fun h' hx=>?_
 have I1 : Inv X pins σ H { s with heap:=h' }:=I.kept (t':=s.toks) fun b o e=>hx b o (Nat.ne_of_lt (Heap.lt_size e)) e
 exact h pins _ σ H xs _ Q I1 (by simpa using rv) hw
noncomputable def tAsg (te : TE) (g : TG) : TS:=fun D σ H=>te σ H fun x H1=>g x σ H1 D.nx
theorem Jq {i : Nat} {x : Str} {e : Expr} {te : TE} {pos' : Pos} (hN : X.N.Nodup) (hi : X.N[i]? = some x) (hx : Loc X.env.scope x) (he : PE X e te) (hs : swapsWith e (some (.Name x pos')) pos.line X.env = pure false:=by rfl) (hf : X.fn x = true ∨ X.env.scope.names.lookup x = some .local:=by first | exact .inl rfl | exact .inr rfl | assumption) :
  PS X (.Assign [.Name x pos'] e pos) (tAsg te (J3V i)):=by
 intro pins s σ H D I h
 refine wpAny_Assign_Name (thn (he pins s σ H _ I h) fun v s1 ⟨y,H1,I1,r1,q1⟩=>?_) hs
 exact J4w I1 hN hi hx r1 (fun s2 I2=>⟨_,H1,I2,q1⟩) hf
noncomputable def tAug (i : Nat) (te : TE) (ti : TIp) : TS:=fun D σ H=>∃ x,σ[i]? = some (some x) ∧ te σ H fun y H1=>ti x y H1 fun z H2=>D.nx (σ.set i (some z)) H2
theorem J4P {i : Nat} {x : Str} {e : Expr} {te : TE} {op : Operator} {ti : TIp} {pos' : Pos} (hN : X.N.Nodup) (hi : X.N[i]? = some x) (hx : Loc X.env.scope x) (he : PE X e te) (ho : PIp X op ti) (hf : X.fn x = true ∨ X.env.scope.names.lookup x = some .local:=by first | exact .inl rfl | exact .inr rfl | assumption) :
  PS X (.AugAssign (.Name x pos') op e pos) (tAug i te ti):=by
 intro pins s σ H D I h
 obtain ⟨v,e1,h⟩:=h
 obtain ⟨m,hn,hl⟩:=I.loc
 have vis : Vis X.env.scope x:=by rcases hx with k | k; exact .inl k; exact .inr (.inl k)
 obtain ⟨u,r,l⟩:=hl i x v hi e1 vis
 refine wpAny_AugAssign_Name ?_
 have go : wpAny (model X.prog X.w) X.A (eval e X.env) (fun w s₂=>wpAny (model X.prog X.w) X.A (inplaceOp op u w) (fun r s₃=>wpAny (model X.prog X.w) X.A (storeName X.env x r) (fun _=>SP X pins D .next) X.xe s₃) X.xe s₂) X.xe s:=by
  refine thn (he pins s σ H _ I h) fun w s1 ⟨y,H1,I1,r1,q1⟩=>?_
  refine thn (ho pins s1 σ H1 v y u w _ I1 r r1 q1) fun z s2 ⟨zv,H2,I2,r2,q2⟩=>?_
  exact J4w I2 hN hi hx r2 (fun s3 I3=>⟨_,H2,I3,q2⟩) hf
 rcases l with ⟨hk,hm⟩ | ⟨hk,c,hc,hcell⟩
 ·exact wpAny_loadName_local I.ok.kind hk hn hm go
 ·rcases hk with hk | hk
  ·exact wpAny_loadName_cell I.ok.kind hk hc hcell go
  ·rcases hx with k | k
   ·have : X.env.scope.names.lookup x = some .free:=hk
    rw [k] at this; cases this
   ·have : X.env.scope.names.lookup x = some .free:=hk
    rw [k] at this; cases this
end
section
variable {X : Cx} {pos : Pos}
end
structure It where
 go : Nat → Hp → Prop
 yld : Nat → Hp → V → Hp → Prop
 stop : Nat → Hp → Prop
noncomputable def FpOk (X : Cx) (pins : List (Addr × Obj)) (H : Hp) (b : Addr) : Prop :=
 H b = none ∧ b ≠ X.env.locals ∧ b ∉ X.fs ∧ (b ∈ X.ex ∨ X.s₀.heap.objs.size ≤ b) ∧ (∀ x c,X.env.cells.lookup x = some c → c ≠ b) ∧ ∀ p ∈ X.pn ++ pins,p.1 ≠ b
theorem Inv.fpOk {X : Cx} {pins : List (Addr × Obj)} {σ : St} {H H' : Hp} {s : Shared} {b : Addr} (I : Inv X pins σ H s) (hb : s.heap.objs.size ≤ b) (hn : H' b = none) : FpOk X pins H' b:=by
 refine ⟨hn,Nat.ne_of_gt (Nat.lt_of_lt_of_le I.lt hb),I.nofs hb,.inr (Nat.le_trans I.sz hb),fun x c e z=>?_,fun p hp z=>?_⟩
 ·obtain ⟨v,q⟩:=I.cell x c e
  exact absurd (Nat.lt_of_lt_of_le q.lt (by rw [z]; exact hb)) (Nat.lt_irrefl _)
 ·exact absurd (Nat.lt_of_lt_of_le (Heap.lt_size (I.pin p hp).1) (by rw [z]; exact hb)) (Nat.lt_irrefl _)
structure Turn (P : Program) (w : World) (K : PySem.W.Frag) (tg : Expr) (J : It) (fp : List Addr) (it : Addr) (tn : Nat → Heap → Prop) : Prop where
 mem : it ∈ fp
 obj : ∀ i h,tn i h → ∀ b ∈ fp,∃ o,h.get? b = some o ∧ ∀ v,o.data ≠ .cell v
 keep : ∀ i h h',tn i h → (∀ b ∈ fp,∀ o,h.get? b = some o → h'.get? b = some o) → tn i h'
 item : ∀ (X : Cx),X.prog = P → X.w = w → X.K = K → X.calm = true → ∀ (i : Nat) (pins : List (Addr × Obj)) (s : Shared) (σ : St) (H : Hp) (E : Value → Shared → Prop),Inv X pins σ H s → (∀ b ∈ fp,FpOk X pins H b) → tn i s.heap → J.go i H →
  wpAny (model P w) X.A (pyNext (.ref it)) (fun r s1=>∃ u,r = some u ∧
   wpAny (model P w) X.A (letOwnedTupleGo tg (.ref it) u) (fun _ s2=>∃ x H',Inv X pins σ H' s2 ∧ RelV x u ∧ J.yld i H x H' ∧ tn (i + 1) s2.heap ∧ ∀ b ∈ fp,H' b = none) E s1) E s
 done : ∀ (X : Cx),X.prog = P → X.w = w → X.K = K → X.calm = true → ∀ (i : Nat) (pins : List (Addr × Obj)) (s : Shared) (σ : St) (H : Hp) (E : Value → Shared → Prop),Inv X pins σ H s → (∀ b ∈ fp,FpOk X pins H b) → tn i s.heap → J.stop i H →
  wpAny (model P w) X.A (pyNext (.ref it)) (fun r s1=>r = none ∧ Inv X pins σ H s1) E s
 self : ∀ (A : Around) (i : Nat) (s : Shared) (Q : Value → Shared → Prop) (E : Value → Shared → Prop),tn i s.heap → Q (.ref it) s → wpAny (model P w) A (pyIter (.ref it)) Q E s
noncomputable abbrev TI:=St → Hp → (It → Hp → Prop) → Prop
noncomputable def PIE (X : Cx) (pins : List (Addr × Obj)) (σ : St) (tg : Expr) (R : It → Hp → Prop) (itv : Value) (s2 : Shared) : Prop :=
 ∃ (it : Addr) (fp : List Addr) (tn : Nat → Heap → Prop) (J : It) (H' : Hp),itv = .ref it ∧ Inv X pins σ H' s2 ∧ Turn X.prog X.w X.K tg J fp it tn ∧ tn 0 s2.heap ∧ (∀ b ∈ fp,FpOk X pins H' b) ∧ R J H'
noncomputable def PI (X : Cx) (tg iter : Expr) (wi : TI) : Prop :=
 ∀ (pins : List (Addr × Obj)) (s : Shared) (σ : St) (H : Hp) (R : It → Hp → Prop),Inv X pins σ H s → wi σ H R →
  wpAny (model X.prog X.w) X.A (eval iter X.env) (fun v s1=>wpAny (model X.prog X.w) X.A (pyIter v) (PIE X pins σ tg R) X.xe s1) X.xe s
theorem J9H {M : Model} {A : Around} {E : Value → Shared → Prop} {s : Shared} {tg : Expr} {it : Addr} {u : Value} {o : Obj} {n : String} {vs : Array Value} {Q : Unit → Shared → Prop} (ho : s.heap.get? it = some o) (hc : o.cls = .type n) (hd : o.data = .fields vs)
    (hn : ["enumerate","zip","dict_itemiterator","dict_reverseitemiterator","odict_iterator","itertools.zip_longest","itertools.pairwise"].contains n = false) (hQ : Q () s) : wpAny M A (letOwnedTupleGo tg (.ref it) u) Q E s:=by
  unfold letOwnedTupleGo
  cases tg <;> first
    | exact wpAny_pure hQ
    | (cases u <;> first
        | exact wpAny_pure hQ
        | (refine wpAny_bind (wpAny_load ho ?_)
           rw [hc,hd]
           show wpAny M A (if (["enumerate","zip","dict_itemiterator","dict_reverseitemiterator","odict_iterator","itertools.zip_longest","itertools.pairwise"].contains n && vs[0]? == some (rawInt _)) = true then _ else _) Q E s
           rw [if_neg (by intro h; rw [hn,Bool.false_and] at h; cases h)]
           exact wpAny_pure hQ))
noncomputable def Itl (K : PySem.W.Frag) (a : Addr) : It :=
 ⟨fun i H=>∃ xs x,SqL K H a xs ∧ xs[i]? = some x,fun i H x H'=>H' = H ∧ ∀ xs,SqL K H a xs → xs[i]? = some x,fun i H=>∃ xs,SqL K H a xs ∧ xs.length ≤ i⟩
noncomputable def Itr (lo : Int) (n : Nat) : It:=⟨fun i _=>i < n,fun i H x H'=>H' = H ∧ x = .int (lo + i),fun i _=>n ≤ i⟩
theorem Jan {P : Program} {w : World} {K : PySem.W.Frag} {tg : Expr} (a it : Addr) : Turn P w K tg (Itl K a) [it] it (fun i h=>h.IsListIter it a i) where
 mem:=by simp
 obj:=fun i h st b hb=>by
  have e : b = it:=by simpa using hb
  subst e
  obtain ⟨o,e,c,d⟩:=st
  exact ⟨o,e,fun v z=>by rw [d] at z; cases z⟩
 keep:=fun i h h' st k=>st.at fun o e=>k it (by simp) o e
 item:=by
  intro X hP hw hK hc i pins s σ H E I hf st hg
  subst hP hw hK
  obtain ⟨xs,x,hq,hx⟩:=hg
  obtain ⟨its,rv,p,hz⟩:=I.list hq
  obtain ⟨u,hu,ru⟩:=rv.get hx
  obtain ⟨f0,f1,f2,f3,f4,f5⟩:=hf it (by simp)
  refine wpAny_pyNext_list_item st p.isList (x:=u) (by simpa using hu) fun h' st' sb=>?_
  have I1 : Inv X pins σ H { s with heap:=h' }:=I.turned (t':=s.toks) (fun b o hb e=>(sb.2 b hb).trans e) f0 f1 f3 f4 f5
  obtain ⟨o,e,c,d⟩:=id st'
  exact ⟨u,rfl,J9H (s:={ s with heap:=h' }) e c d (by decide) ⟨x,H,I1,ru,⟨rfl,fun ys hy=>by rw [I.list_inj hy hq]; exact hx⟩,st',fun b hb=>(hf b hb).1⟩⟩
 done:=by
  intro X hP hw hK hc i pins s σ H E I hf st hg
  subst hP hw hK
  obtain ⟨xs,hq,hx⟩:=hg
  obtain ⟨its,rv,p,hz⟩:=I.list hq
  obtain ⟨f0,f1,f2,f3,f4,f5⟩:=hf it (by simp)
  have hl:=rv.length
  exact wpAny_pyNext_list_end (I.ok.hd hc) st p.isList (by simp; omega) fun h' eb=>⟨rfl,I.turned (t':=s.toks) (fun b o hb e=>eb b o hb e) f0 f1 f3 f4 f5⟩
 self:=fun _ _ _ _ _ st h=>wpAny_pyIter_listiter st h
theorem J9u {P : Program} {w : World} {K : PySem.W.Frag} {tg : Expr} (it : Addr) (lo : Int) (n : Nat) : Turn P w K tg (Itr lo n) [it] it (fun i h=>IsRangeIter h it (lo + (i : Nat) * 1) ((n : Int) - (i : Nat)) 1) where
 mem:=by simp
 obj:=fun i h st b hb=>by
  have e : b = it:=by simpa using hb
  subst e
  exact ⟨_,st,fun v z=>by
   have z' : Data.fields _ = Data.cell v:=z
   cases z'⟩
 keep:=fun i h h' st k=>k it (by simp) _ st
 item:=by
  intro X hP hw hK hc i pins s σ H E I hf st hg
  subst hP hw hK
  obtain ⟨f0,f1,f2,f3,f4,f5⟩:=hf it (by simp)
  have W:=Walks.range (prog:=X.prog) (w:=X.w) (I.ok.hd hc) it lo 1 n
  refine W.item i s _ _ hg st fun v h' tk hv st' kk=>?_
  obtain ⟨t,rfl⟩:=hv
  have I1 : Inv X pins σ H { s with heap:=h',toks:=tk }:=I.turned (fun b o hb e=>kk b o (by simpa using hb) e) f0 f1 f3 f4 f5
  refine ⟨_,rfl,J9H (s:={ s with heap:=h',toks:=tk }) (n:="range_iterator") st' rfl rfl (by decide) ⟨.int (lo + i),H,I1,⟨t,?_⟩,⟨rfl,rfl⟩,st',fun b hb=>(hf b hb).1⟩⟩
  rw [Int.mul_one]
 done:=by
  intro X hP hw hK hc i pins s σ H E I hf st hg
  subst hP hw hK
  obtain ⟨f0,f1,f2,f3,f4,f5⟩:=hf it (by simp)
  exact wpAny_pyNext_range_end (I.ok.hd hc) st (by have : n ≤ i:=hg; omega) fun h' eb=>⟨rfl,I.turned (t':=s.toks) (fun b o hb e=>eb b o hb e) f0 f1 f3 f4 f5⟩
 self:=fun _ _ _ _ _ st h=>wpAny_pyIter_rangeiter st h
end L2
namespace L2
open PySem PySem.Spec PyProof.Rows
section
variable {X : Cx} {tg : Expr}
noncomputable def JcI (K : PySem.W.Frag) (tl : TE) : TI:=fun σ H R=>tl σ H fun x H1=>∃ a,x = .ref a ∧ (∃ xs,SqL K H1 a xs) ∧ R (Itl K a) H1
theorem Jc7 {l : Expr} {tl : TE} (hl : PE X l tl) : PI X tg l (JcI X.K tl):=by
 intro pins s σ H R I h
 refine thn (hl pins s σ H _ I h) fun v s1 ⟨x,H1,I1,r1,q1⟩=>?_
 obtain ⟨a,e,⟨xs,hq⟩,q⟩:=q1
 subst e
 cases r1
 obtain ⟨its,rv,p,hz⟩:=I1.list hq
 refine wpAny_pyIter_list p.isList ?_
 refine ⟨s1.heap.objs.size,[s1.heap.objs.size],_,_,H1,rfl,I1.kept (t':=s1.toks) fun b o e=>Heap.get?_push_of_some _ e,Jan a _,⟨_,Heap.get?_push_size _ rfl,rfl,rfl⟩,fun b hb=>?_,q⟩
 have e : b = s1.heap.objs.size:=by simpa using hb
 subst e
 exact I1.fpOk (Nat.le_refl _) (I1.hok.fresh (Nat.le_refl _))
theorem JbQ {pins : List (Addr × Obj)} {σ : St} {H : Hp} {s : Shared} {R : It → Hp → Prop} {E : Value → Shared → Prop} {lo hi : Int} {t u v : Tok} {tk : Nat} (I : Inv X pins σ H s) (h1 : -(2 ^ 62) ≤ lo) (h2 : lo < 2 ^ 62) (h3 : -(2 ^ 62) ≤ hi) (h4 : hi < 2 ^ 62)
  (q : R (Itr lo (hi - lo).toNat) H) : wpAny (model X.prog X.w) X.A (pyIter (.ref s.heap.objs.size)) (PIE X pins σ tg R) E { s with heap:=s.heap.push { cls:=.type "range",data:=.fields #[.int lo t,.int hi u,.int 1 v] },toks:=tk }:=by
 refine wpAny_pyIter_range (IsRange.new ..) (small_one h1 h2 h3 h4) ?_
 have I1 : Inv X pins σ H { s with heap:=s.heap.push { cls:=.type "range",data:=.fields #[.int lo t,.int hi u,.int 1 v] },toks:=tk }:=I.kept fun b o e=>Heap.get?_push_of_some _ e
 refine ⟨(s.heap.push { cls:=.type "range",data:=.fields #[.int lo t,.int hi u,.int 1 v] }).objs.size,[(s.heap.push { cls:=.type "range",data:=.fields #[.int lo t,.int hi u,.int 1 v] }).objs.size],_,_,H,rfl,
  I1.kept (t':=tk) fun b o e=>Heap.get?_push_of_some _ e,J9u _ lo (hi - lo).toNat,?_,fun b hb=>?_,q⟩
 ·have e1 : lo + ((0 : Nat) : Int) * 1 = lo:=by simp
  have e2 : (((hi - lo).toNat : Nat) : Int) - ((0 : Nat) : Int) = Builtin.Range.rangeSize lo hi 1:=by rw [rangeSize_one]; split <;> omega
  show IsRangeIter _ _ (lo + ((0 : Nat) : Int) * 1) ((((hi - lo).toNat : Nat) : Int) - ((0 : Nat) : Int)) 1
  rw [e1,e2]
  exact Heap.get?_push_size _ rfl
 ·have e : b = (s.heap.push { cls:=.type "range",data:=.fields #[.int lo t,.int hi u,.int 1 v] }).objs.size:=by simpa using hb
  subst e
  exact I1.fpOk (Nat.le_refl _) (I1.hok.fresh (Nat.le_refl _))
noncomputable def Jeg (ta : TA) : TI:=fun σ H R=>ta σ H fun vs H1=>∃ j : Int,vs = [.int j] ∧ -(2 ^ 62) ≤ j ∧ j < 2 ^ 62 ∧ R (Itr 0 j.toNat) H1
theorem J0X {a : Expr} {ta : TA} {p pos : Pos} (hg : Gl X "range") (hm : X.mg "range" = none) (ha : PA X [a] ta) (hs : starEach [a] X.env = [(false,eval a X.env)]:=by rfl) : PI X tg (.Call (.Name "range" p) [a] [] pos) (Jeg ta):=by
 intro pins s σ H R I h
 refine Call_ (J2q I hg hm boot_range (PyProof.Rows.callWith_type1 (thn (ha pos pins s σ H _ I h) fun us s1 ⟨vs,H1,I1,r1,q1⟩=>?_) hs rfl))
 obtain ⟨j,e,q1,q2,q⟩:=q1
 subst e
 cases r1 with
 | cons r rr =>
  cases rr
  obtain ⟨t,rfl⟩:=r
  exact call_range_1 (JbQ I1 (by omega) (by omega) q1 q2 (by simpa using q))
noncomputable def tFor (wi : TI) (g : TG) (tb : TS) : TS:=fun D σ H=>wi σ H fun J H1=>∃ W : Nat → Nat → St → Hp → Prop,(∃ m,W 0 m σ H1) ∧ ∀ i m σ H,W i m σ H →
 (J.stop i H ∧ D.nx σ H) ∨ (J.go i H ∧ ∃ N : St → Hp → Prop,(∀ σ' H',N σ' H' → ∃ m',m' < m ∧ W (i + 1) m' σ' H') ∧ ∀ x H',J.yld i H x H' → g x σ H' fun σ2 H2=>tb { D with nx:=N,ct:=N,bk:=D.nx } σ2 H2)
noncomputable def J4O (fp : List Addr) (h : Heap) : List (Addr × Obj):=fp.filterMap fun b=>(h.get? b).map fun o=>(b,o)
theorem J1t {fp : List Addr} {h : Heap} {b : Addr} {o : Obj} (hb : b ∈ fp) (e : h.get? b = some o) : (b,o) ∈ J4O fp h:=List.mem_filterMap.mpr ⟨b,hb,by rw [e]; rfl⟩
theorem Jaw {fp : List Addr} {h : Heap} {p : Addr × Obj} (hp : p ∈ J4O fp h) : p.1 ∈ fp ∧ h.get? p.1 = some p.2:=by
 obtain ⟨b,hb,e⟩:=List.mem_filterMap.mp hp
 cases q : h.get? b with
 | none=>rw [q] at e; cases e
 | some o =>
  rw [q] at e
  have e' : (b,o) = p:=Option.some.inj e
  subst e'
  exact ⟨hb,q⟩
theorem Inv.pinned {pins : List (Addr × Obj)} {σ : St} {H : Hp} {s : Shared} {fp : List Addr} (I : Inv X pins σ H s) (hf : ∀ b ∈ fp,FpOk X pins H b) (ho : ∀ b ∈ fp,∃ o,s.heap.get? b = some o ∧ ∀ v,o.data ≠ .cell v) : Inv X (pins ++ J4O fp s.heap) σ H s :=
 I.pins_of fun p hp=>(List.mem_append.mp hp).elim (fun z=>I.pin p (List.mem_append_right _ z)) fun z=>by
  obtain ⟨hb,e⟩:=Jaw z
  obtain ⟨f0,f1,f2,_⟩:=hf p.1 hb
  obtain ⟨o,e',d⟩:=ho p.1 hb
  rw [e] at e'; cases e'
  exact ⟨e,f0,f1,f2,d⟩
theorem Inv.unpinned {pins pl : List (Addr × Obj)} {σ : St} {H : Hp} {s : Shared} (I : Inv X (pins ++ pl) σ H s) : Inv X pins σ H s:=I.pins_of fun p hp=>I.pin p (List.mem_append_right _ (List.mem_append_left _ hp))
theorem J03 {iter : Expr} {body : List Stmt} {wi : TI} {g : TG} {tb : TS} {pos : Pos} (hp : PassesOwn (model X.prog X.w) X.A X.env X.xe) (hc : X.calm = true) (hi : PI X tg iter wi) (hg : PG X tg g) (hb : PSs X body tb)
  (hs : ∀ x,foldedSetIterable iter X.env x = pure x:=by intro _; rfl) : PS X (.For tg iter body [] pos) (tFor wi g tb):=by
 intro pins s σ H D I h
 refine wpAny_For (thn (hi pins s σ H _ I h) fun v s1 h1=>thn h1 fun itv s2 h2=>?_) hs
 obtain ⟨it,fp,tn,J,H2,e,I2,T,st2,f2,W,⟨m0,w0⟩,turn⟩:=h2
 subst e
 have stat : ∀ {H' : Hp},(∀ b ∈ fp,H' b = none) → ∀ b ∈ fp,FpOk X pins H' b:=fun hn b hb=>⟨hn b hb,(f2 b hb).2⟩
 refine codeAny_forLoop_any (fun n s'=>∃ i σ' H',Inv X pins σ' H' s' ∧ tn i s'.heap ∧ (∀ b ∈ fp,H' b = none) ∧ W i n σ' H') ?_ m0 ⟨0,σ,H2,I2,st2,fun b hb=>(f2 b hb).1,w0⟩
 rintro n s3 ⟨i,σ3,H3,I3,st3,fr3,w3⟩
 rcases turn i n σ3 H3 w3 with ⟨stop,qn⟩ | ⟨go,N,hN,step⟩
 ·refine wpAny_passesOwn hp (thn (T.done X rfl rfl rfl hc i pins s3 σ3 H3 X.xe I3 (stat fr3) st3 stop) fun r s4 ⟨hr,I4⟩=>?_)
  subst hr
  exact wpAny_execs_nil ⟨σ3,H3,I4,qn⟩
 ·refine wpAny_passesOwn hp (thn (T.item X rfl rfl rfl hc i pins s3 σ3 H3 X.xe I3 (stat fr3) st3 go) fun r s4 ⟨u,hr,h4⟩=>?_)
  subst hr
  refine wpAny_passesOwn hp (thn h4 fun _ s5 ⟨x,H5,I5,r5,y5,st5,fr5⟩=>?_)
  have I5':=I5.pinned (stat fr5) (T.obj _ _ st5)
  refine wpAny_passesOwn hp (thn (hg _ s5 σ3 H5 x u _ I5' r5 (step x H5 y5)) fun _ s6 ⟨σ6,H6,I6,q6⟩=>?_)
  refine wpAny_passesOwn hp (thn (hb _ s6 σ6 H6 _ I6 q6) fun f s7 q7=>?_)
  have again : ∀ {σ7 : St} {H7 : Hp},Inv X (pins ++ J4O fp s5.heap) σ7 H7 s7 → N σ7 H7 → ∃ m,m < n ∧ ∃ i σ' H',Inv X pins σ' H' s7 ∧ tn i s7.heap ∧ (∀ b ∈ fp,H' b = none) ∧ W i m σ' H':=fun {σ7 H7} I7 n7=>by
   obtain ⟨m',hm,w7⟩:=hN σ7 H7 n7
   refine ⟨m',hm,i + 1,σ7,H7,I7.unpinned,T.keep _ _ _ st5 fun b hb o e=>(I7.pin (b,o) (List.mem_append_right _ (List.mem_append_right _ (J1t hb e)))).1,fun b hb=>?_,w7⟩
   obtain ⟨o,e,d⟩:=T.obj _ _ st5 b hb
   exact (I7.pin (b,o) (List.mem_append_right _ (List.mem_append_right _ (J1t hb e)))).2.1
  cases f with
  | next=>obtain ⟨σ7,H7,I7,n7⟩:=q7; exact again I7 n7
  | cont=>obtain ⟨σ7,H7,I7,n7⟩:=q7; exact again I7 n7
  | brk=>obtain ⟨σ7,H7,I7,q7⟩:=q7; exact ⟨σ7,H7,I7.unpinned,q7⟩
  | ret v=>obtain ⟨x7,σ7,H7,I7,r7,q7⟩:=q7; exact ⟨x7,σ7,H7,I7.unpinned,r7,q7⟩
end
theorem J6b {K : PySem.W.Frag} {a : Addr} {xs : List V} {g : TG} {tb : TS} {D : Ends} {σ : St} {H : Hp} (Pv : Nat → St → Hp → Prop) (h0 : Pv 0 σ H) (hl : ∀ i σ H,i ≤ xs.length → Pv i σ H → SqL K H a xs)
  (hs : ∀ i x σ H,xs[i]? = some x → Pv i σ H → g x σ H fun σ2 H2=>tb { D with nx:=Pv (i + 1),ct:=Pv (i + 1),bk:=D.nx } σ2 H2) (hd : ∀ σ H,Pv xs.length σ H → D.nx σ H) :
  ∃ W : Nat → Nat → St → Hp → Prop,(∃ m,W 0 m σ H) ∧ ∀ i m σ H,W i m σ H →
   ((Itl K a).stop i H ∧ D.nx σ H) ∨ ((Itl K a).go i H ∧ ∃ N : St → Hp → Prop,(∀ σ' H',N σ' H' → ∃ m',m' < m ∧ W (i + 1) m' σ' H') ∧ ∀ x H',(Itl K a).yld i H x H' → g x σ H' fun σ2 H2=>tb { D with nx:=N,ct:=N,bk:=D.nx } σ2 H2):=by
 refine ⟨fun i m σ H=>m = xs.length - i ∧ i ≤ xs.length ∧ Pv i σ H,⟨xs.length,by simp,Nat.zero_le _,h0⟩,?_⟩
 rintro i m σ H ⟨rfl,hi,p⟩
 have q:=hl i σ H hi p
 by_cases hlt : i < xs.length
 ·refine .inr ⟨⟨xs,xs[i],q,by simp [hlt]⟩,Pv (i + 1),fun σ' H' p'=>⟨xs.length - (i + 1),by omega,rfl,hlt,p'⟩,fun x H' y=>?_⟩
  obtain ⟨e,y⟩:=y
  subst e
  exact hs i x σ _ (y xs q) p
 ·have e : i = xs.length:=by omega
  subst e
  exact .inl ⟨⟨xs,q,Nat.le_refl _⟩,hd σ H p⟩
theorem J2U {lo : Int} {n : Nat} {g : TG} {tb : TS} {D : Ends} {σ : St} {H : Hp} (Pv : Nat → St → Hp → Prop) (h0 : Pv 0 σ H)
  (hs : ∀ i σ H,i < n → Pv i σ H → g (.int (lo + i)) σ H fun σ2 H2=>tb { D with nx:=Pv (i + 1),ct:=Pv (i + 1),bk:=D.nx } σ2 H2) (hd : ∀ σ H,Pv n σ H → D.nx σ H) :
  ∃ W : Nat → Nat → St → Hp → Prop,(∃ m,W 0 m σ H) ∧ ∀ i m σ H,W i m σ H →
   ((Itr lo n).stop i H ∧ D.nx σ H) ∨ ((Itr lo n).go i H ∧ ∃ N : St → Hp → Prop,(∀ σ' H',N σ' H' → ∃ m',m' < m ∧ W (i + 1) m' σ' H') ∧ ∀ x H',(Itr lo n).yld i H x H' → g x σ H' fun σ2 H2=>tb { D with nx:=N,ct:=N,bk:=D.nx } σ2 H2):=by
 refine ⟨fun i m σ H=>m = n - i ∧ i ≤ n ∧ Pv i σ H,⟨n,by simp,Nat.zero_le _,h0⟩,?_⟩
 rintro i m σ H ⟨rfl,hi,p⟩
 by_cases hlt : i < n
 ·refine .inr ⟨hlt,Pv (i + 1),fun σ' H' p'=>⟨n - (i + 1),by omega,rfl,hlt,p'⟩,fun x H' y=>?_⟩
  obtain ⟨e,y⟩:=y
  subst e y
  exact hs i σ _ hlt p
 ·have e : i = n:=by omega
  subst e
  exact .inl ⟨Nat.le_refl _,hd σ H p⟩
end L2
namespace L2
open PySem PySem.Spec PyProof.Rows
noncomputable abbrev R2:=V → V → Hp → VK → Prop
noncomputable def OpR (X : Cx) (f : Value → Value → Sem Value) (r : R2) : Prop :=
 ∀ (pins : List (Addr × Obj)) (s : Shared) (σ : St) (H : Hp) (x y : V) (v u : Value) (Q : VK),Inv X pins σ H s → RelV x v → RelV y u → r x y H Q →
  wpAny (model X.prog X.w) X.A (f v u) (EP X pins σ Q) X.xe s
noncomputable def UnR (X : Cx) (f : Value → Sem Value) (r : V → Hp → VK → Prop) : Prop :=
 ∀ (pins : List (Addr × Obj)) (s : Shared) (σ : St) (H : Hp) (x : V) (v : Value) (Q : VK),Inv X pins σ H s → RelV x v → r x H Q →
  wpAny (model X.prog X.w) X.A (f v) (EP X pins σ Q) X.xe s
noncomputable def J1p (X : Cx) (f : Value) (r : List V → Hp → VK → Prop) : Prop :=
 ∀ (pins : List (Addr × Obj)) (s : Shared) (σ : St) (H : Hp) (xs : List V) (us : List Value) (Q : VK),Inv X pins σ H s → Vals xs us → r xs H Q →
  wpAny (model X.prog X.w) X.A (call f us) (EP X pins σ Q) X.xe s
noncomputable def TruR (X : Cx) (r : V → Hp → (Bool → Hp → Prop) → Prop) : Prop :=
 ∀ (pins : List (Addr × Obj)) (s : Shared) (σ : St) (H : Hp) (x : V) (v : Value) (Q : Bool → Hp → Prop),Inv X pins σ H s → RelV x v → r x H Q →
  wpAny (model X.prog X.w) X.A (truthy v) (TP X pins σ Q) X.xe s
noncomputable def tOp (r : R2) (ta tb : TE) : TE:=fun σ H Q=>ta σ H fun x H1=>tb σ H1 fun y H2=>r x y H2 Q
noncomputable def tUn (r : V → Hp → VK → Prop) (ta : TE) : TE:=fun σ H Q=>ta σ H fun x H1=>r x H1 Q
noncomputable def rI (C : Int → Int → Prop) (g : Int → Int → V) : R2:=fun x y H Q=>∃ i j,x = .int i ∧ y = .int j ∧ C i j ∧ Q (g i j) H
noncomputable def rI0 (g : Int → Int → V) : R2:=fun x y H Q=>∃ i j,x = .int i ∧ y = .int j ∧ Q (g i j) H
noncomputable def rU (g : Int → V) : V → Hp → VK → Prop:=fun x H Q=>∃ i,x = .int i ∧ Q (g i) H
section
variable {X : Cx} {a b c : Expr} {ta tb tc : TE} {pos : Pos}
theorem binT (ha : PE X a ta) (hb : PE X b tb) {pins : List (Addr × Obj)} {s : Shared} {σ : St} {H : Hp} {R : V → V → Hp → Prop} (I : Inv X pins σ H s)
  (h : ta σ H fun x H1=>tb σ H1 fun y H2=>R x y H2) {Q : Value → Shared → Prop} {f : Value → Value → Sem Value}
  (hf : ∀ v u s2 x y H2,Inv X pins σ H2 s2 → RelV x v → RelV y u → R x y H2 → wpAny (model X.prog X.w) X.A (f v u) Q X.xe s2) :
  wpAny (model X.prog X.w) X.A (eval a X.env) (fun v s₁=>wpAny (model X.prog X.w) X.A (eval b X.env) (fun u s₂=>wpAny (model X.prog X.w) X.A (f v u) Q X.xe s₂) X.xe s₁) X.xe s:=by
 refine thn (ha pins s σ H _ I h) fun v s1 ⟨x,H1,I1,r1,q1⟩=>?_
 refine thn (hb pins s1 σ H1 _ I1 q1) fun u s2 ⟨y,H2,I2,r2,q2⟩=>?_
 exact hf v u s2 x y H2 I2 r1 r2 q2
theorem JI {op : Operator} {r : R2} (ho : OpR X (binaryOp op) r) (ha : PE X a ta) (hb : PE X b tb) : PE X (.BinOp a op b pos) (tOp r ta tb):=by
 intro pins s σ H Q I h
 exact wpAny_BinOp (binT ha hb I h fun v u s2 x y H2 I2 rx ry q=>ho pins s2 σ H2 x y v u Q I2 rx ry q)
theorem JcR {op : UnaryOp} {r : V → Hp → VK → Prop} (ho : UnR X (unaryOp op) r) (ha : PE X a ta) : PE X (.UnaryOp op a pos) (tUn r ta):=by
 intro pins s σ H Q I h
 exact UnaryOp_ (thn (ha pins s σ H _ I h) fun v s1 ⟨x,H1,I1,r1,q1⟩=>ho pins s1 σ H1 x v Q I1 r1 q1)
theorem opI {f : Value → Value → Sem Value} {C : Int → Int → Prop} {g : Int → Int → Int}
  (rule : ∀ (i j : Int) (t u : Tok) (s : Shared) (Q : Value → Shared → Prop) (E : Value → Shared → Prop),C i j → Q (.int (g i j) s.toks) { s with toks:=s.toks + 1 } → wpAny (model X.prog X.w) X.A (f (.int i t) (.int j u)) Q E s) :
  OpR X f (rI C fun i j=>.int (g i j)):=by
 intro pins s σ H x y v u Q I rx ry h
 obtain ⟨i,j,rfl,rfl,hc,q⟩:=h
 obtain ⟨t,rfl⟩:=rx
 obtain ⟨t',rfl⟩:=ry
 exact rule i j t t' s _ _ hc ⟨.int (g i j),H,I.tok _,⟨_,rfl⟩,q⟩
theorem opI0 {f : Value → Value → Sem Value} {g : Int → Int → Int}
  (rule : ∀ (i j : Int) (t u : Tok) (s : Shared) (Q : Value → Shared → Prop) (E : Value → Shared → Prop),Q (.int (g i j) s.toks) { s with toks:=s.toks + 1 } → wpAny (model X.prog X.w) X.A (f (.int i t) (.int j u)) Q E s) :
  OpR X f (rI0 fun i j=>.int (g i j)):=by
 intro pins s σ H x y v u Q I rx ry h
 obtain ⟨i,j,rfl,rfl,q⟩:=h
 obtain ⟨t,rfl⟩:=rx
 obtain ⟨t',rfl⟩:=ry
 exact rule i j t t' s _ _ ⟨.int (g i j),H,I.tok _,⟨_,rfl⟩,q⟩
theorem opB0 {f : Value → Value → Sem Value} {g : Int → Int → Bool}
  (rule : ∀ (i j : Int) (t u : Tok) (s : Shared) (Q : Value → Shared → Prop) (E : Value → Shared → Prop),Q (.bool (g i j)) s → wpAny (model X.prog X.w) X.A (f (.int i t) (.int j u)) Q E s) :
  OpR X f (rI0 fun i j=>.bl (g i j)):=by
 intro pins s σ H x y v u Q I rx ry h
 obtain ⟨i,j,rfl,rfl,q⟩:=h
 obtain ⟨t,rfl⟩:=rx
 obtain ⟨t',rfl⟩:=ry
 exact rule i j t t' s _ _ ⟨.bl (g i j),H,I,rfl,q⟩
noncomputable def CDiv (i j : Int) : Prop:=0 < j ∧ j < 1073741824
noncomputable def CMul (i j : Int) : Prop:=(-(2 ^ 64) < i ∧ i < 2 ^ 64) ∨ (-(2 ^ 64) < j ∧ j < 2 ^ 64)
theorem CMul.ok {i j : Int} (h : CMul i j) : IntMulOk i j:=by
 rcases h with ⟨h1,h2⟩ | ⟨h1,h2⟩
 ·exact .of_left (intBits_le_64 h1 h2)
 ·exact .of_right (intBits_le_64 h1 h2)
theorem J1s : OpR X (binaryOp .Add) (rI0 fun i j=>.int (i + j)):=opI0 fun _ _ _ _ _ _ _ q=>add_int q
theorem Jb6 : OpR X (binaryOp .Mult) (rI CMul fun i j=>.int (i * j)):=opI fun _ _ _ _ _ _ _ hc q=>mul_int q hc.ok
theorem J3d : OpR X (binaryOp .FloorDiv) (rI CDiv fun i j=>.int (i / j)):=opI fun i j _ _ _ _ _ hc q=>by
 have h1 : (0 : Int) < j:=hc.1
 have h2 : j < 1073741824:=hc.2
 exact floordiv_int (by omega) (by rw [Int.fdiv_eq_ediv_of_nonneg i (by omega)]; exact q) (.inl (PyProof.noPylong_small (by omega)))
theorem J1X : OpR X (binaryOp .Mod) (rI (fun _ j=>0 < j) fun i j=>.int (i % j)):=opI fun i j _ _ _ _ _ hc q=>by
 have h1 : (0 : Int) < j:=hc
 exact mod_int' (by omega) (by rw [Int.fmod_eq_emod_of_nonneg i (by omega)]; exact q)
theorem unI {f : Value → Sem Value} {g : Int → Int}
  (rule : ∀ (i : Int) (t : Tok) (s : Shared) (Q : Value → Shared → Prop) (E : Value → Shared → Prop),Q (.int (g i) s.toks) { s with toks:=s.toks + 1 } → wpAny (model X.prog X.w) X.A (f (.int i t)) Q E s) :
  UnR X f (rU fun i=>.int (g i)):=by
 intro pins s σ H x v Q I rx h
 obtain ⟨i,rfl,q⟩:=h
 obtain ⟨t,rfl⟩:=rx
 exact rule i t s _ _ ⟨.int (g i),H,I.tok _,⟨_,rfl⟩,q⟩
theorem Jba : UnR X (unaryOp .USub) (rU fun i=>.int (-i)):=unI fun _ _ _ _ _ q=>neg_int q
end
noncomputable def scal : V → V → Bool
 | .non,.non=>true | .non,.int _=>true | .int _,.non=>true | .non,.bl _=>true | .bl _,.non=>true | .non,.str _=>true | .str _,.non=>true
 | .int _,.int _=>true | .bl _,.bl _=>true | .str _,.str _=>true | .byt _,.byt _=>true
 | .int _,.str _=>true | .str _,.int _=>true | .bl _,.str _=>true | .str _,.bl _=>true
 | _,_=>false
noncomputable def rEq : R2:=fun x y H Q=>scal x y = true ∧ Q (.bl (decide (x = y))) H
noncomputable def rNe : R2:=fun x y H Q=>scal x y = true ∧ Q (.bl (!decide (x = y))) H
theorem J9P {i j : Int} : decide (V.int i = V.int j) = (i == j):=by
 rw [Bool.eq_iff_iff]
 simp
theorem Jbc {i j : Bool} : decide (V.bl i = V.bl j) = (i == j):=by
 rw [Bool.eq_iff_iff]
 simp
theorem J9K {i j : Str} : decide (V.str i = V.str j) = (i == j):=by
 rw [Bool.eq_iff_iff]
 simp
theorem J9S {i j : Array UInt8} : decide (V.byt i = V.byt j) = (i.toList == j.toList):=by
 rw [Bool.eq_iff_iff]
 cases i
 cases j
 simp
section
variable {X : Cx} {a b c : Expr} {ta tb tc : TE} {pos : Pos}
theorem JF {pins : List (Addr × Obj)} {σ : St} {H : Hp} {s : Shared} {Q : VK} {k k' : Bool} (I : Inv X pins σ H s) (q : Q (.bl k) H) (e : k = k') : EP X pins σ Q (.bool k') s:=by
 subst e
 exact ⟨.bl k,H,I,rfl,q⟩
theorem J2v : OpR X (compareOp .Eq) rEq:=by
 intro pins s σ H x y v u Q I rx ry h
 obtain ⟨hs,q⟩:=h
 cases x with
 | non =>
  cases rx
  cases y with
  | non=>cases ry; exact PySem.EqNone.eq_none_none (JF I q (by simp))
  | bl j=>cases ry; exact PySem.EqNone.eq_none_bool (JF I q (by simp))
  | int j=>obtain ⟨t',rfl⟩:=ry; exact PySem.EqNone.eq_none_int (JF I q (by simp))
  | str j=>obtain ⟨t',rfl⟩:=ry; exact PySem.EqNone.eq_none_str (JF I q (by simp))
  | _=>exact absurd (show false = true from hs) Bool.false_ne_true
 | bl i =>
  cases rx
  cases y with
  | non=>cases ry; exact PySem.EqNone.eq_bool_none (JF I q (by simp))
  | bl j=>cases ry; exact eq_bool (JF I q Jbc)
  | str j=>obtain ⟨t',rfl⟩:=ry; exact PySem.EqMixed.eq_bool_str (JF I q (by simp))
  | _=>exact absurd (show false = true from hs) Bool.false_ne_true
 | int i =>
  obtain ⟨t,rfl⟩:=rx
  cases y with
  | non=>cases ry; exact PySem.EqNone.eq_int_none (JF I q (by simp))
  | int j=>obtain ⟨t',rfl⟩:=ry; exact eq_int (JF I q J9P)
  | str j=>obtain ⟨t',rfl⟩:=ry; exact PySem.EqMixed.eq_int_str (JF I q (by simp))
  | _=>exact absurd (show false = true from hs) Bool.false_ne_true
 | str i =>
  obtain ⟨t,rfl⟩:=rx
  cases y with
  | non=>cases ry; exact PySem.EqNone.eq_str_none (JF I q (by simp))
  | bl j=>cases ry; exact PySem.EqMixed.eq_str_bool (JF I q (by simp))
  | int j=>obtain ⟨t',rfl⟩:=ry; exact PySem.EqMixed.eq_str_int (JF I q (by simp))
  | str j=>obtain ⟨t',rfl⟩:=ry; exact eq_str (JF I q J9K)
  | _=>exact absurd (show false = true from hs) Bool.false_ne_true
 | byt i =>
  obtain ⟨t,rfl⟩:=rx
  cases y with
  | byt j=>obtain ⟨t',rfl⟩:=ry; exact PySem.W.eq_bytes (JF I q J9S)
  | _=>exact absurd (show false = true from hs) Bool.false_ne_true
 | _=>cases y <;> exact absurd (show false = true from hs) Bool.false_ne_true
theorem JcY : OpR X (compareOp .NotEq) rNe:=by
 intro pins s σ H x y v u Q I rx ry h
 obtain ⟨hs,q⟩:=h
 cases x with
 | non =>
  cases rx
  cases y with
  | non=>cases ry; exact PySem.EqNone.ne_none_none (JF I q (by simp))
  | bl j=>cases ry; exact PySem.EqNone.ne_none_bool (JF I q (by simp))
  | int j=>obtain ⟨t',rfl⟩:=ry; exact PySem.EqNone.ne_none_int (JF I q (by simp))
  | str j=>obtain ⟨t',rfl⟩:=ry; exact PySem.EqNone.ne_none_str (JF I q (by simp))
  | _=>exact absurd (show false = true from hs) Bool.false_ne_true
 | bl i =>
  cases rx
  cases y with
  | non=>cases ry; exact PySem.EqNone.ne_bool_none (JF I q (by simp))
  | bl j=>cases ry; exact ne_bool (JF I q (congrArg not Jbc))
  | str j=>obtain ⟨t',rfl⟩:=ry; exact PySem.EqMixed.ne_bool_str (JF I q (by simp))
  | _=>exact absurd (show false = true from hs) Bool.false_ne_true
 | int i =>
  obtain ⟨t,rfl⟩:=rx
  cases y with
  | non=>cases ry; exact PySem.EqNone.ne_int_none (JF I q (by simp))
  | int j=>obtain ⟨t',rfl⟩:=ry; exact ne_int (JF I q (congrArg not J9P))
  | str j=>obtain ⟨t',rfl⟩:=ry; exact PySem.EqMixed.ne_int_str (JF I q (by simp))
  | _=>exact absurd (show false = true from hs) Bool.false_ne_true
 | str i =>
  obtain ⟨t,rfl⟩:=rx
  cases y with
  | non=>cases ry; exact PySem.EqNone.ne_str_none (JF I q (by simp))
  | bl j=>cases ry; exact PySem.EqMixed.ne_str_bool (JF I q (by simp))
  | int j=>obtain ⟨t',rfl⟩:=ry; exact PySem.EqMixed.ne_str_int (JF I q (by simp))
  | str j=>obtain ⟨t',rfl⟩:=ry; exact ne_str (JF I q (congrArg not J9K))
  | _=>exact absurd (show false = true from hs) Bool.false_ne_true
 | byt i =>
  obtain ⟨t,rfl⟩:=rx
  cases y with
  | byt j=>obtain ⟨t',rfl⟩:=ry; exact PySem.W.ne_bytes (JF I q (congrArg not J9S))
  | _=>exact absurd (show false = true from hs) Bool.false_ne_true
 | _=>cases y <;> exact absurd (show false = true from hs) Bool.false_ne_true
theorem J5X : OpR X (compareOp .Lt) (rI0 fun i j=>.bl (decide (i < j))):=opB0 fun _ _ _ _ _ _ _ q=>lt_int q
theorem JbM : OpR X (compareOp .LtE) (rI0 fun i j=>.bl (decide (i ≤ j))):=opB0 fun _ _ _ _ _ _ _ q=>le_int q
theorem J6X : OpR X (compareOp .Gt) (rI0 fun i j=>.bl (decide (j < i))):=opB0 fun _ _ _ _ _ _ _ q=>gt_int q
theorem Jbu : OpR X (compareOp .Is) (fun x y H Q=>y = .non ∧ Q (.bl (decide (x = .non))) H):=by
 intro pins s σ H x y v u Q I rx ry h
 obtain ⟨rfl,q⟩:=h
 cases ry
 refine is_none_gen (JF I q ?_)
 cases x <;> first
  | (cases rx; rfl)
  | (obtain ⟨t,rfl⟩:=rx; rfl)
theorem Jy (b : Expr) {op : CmpOp} (h : op ≠ .In:=by decide) (h2 : op ≠ .NotIn:=by decide) : behindInMarks op b = false:=by
 have e1 : (op == CmpOp.In) = false:=by cases op <;> first | rfl | exact absurd rfl h
 have e2 : (op == CmpOp.NotIn) = false:=by cases op <;> first | rfl | exact absurd rfl h2
 cases b <;> simp [behindInMarks,e1,e2]
theorem J2E {op : CmpOp} {r : R2} (ho : OpR X (compareOp op) r) (ha : PE X a ta) (hb : PE X b tb) (hm : behindInMarks op b = false) : PE X (.Compare a [op] [b] pos) (tOp r ta tb):=by
 intro pins s σ H Q I h
 exact wpAny_Compare1 (binT ha hb I h fun v u s2 x y H2 I2 rx ry q=>ho pins s2 σ H2 x y v u Q I2 rx ry q) hm
noncomputable def JcQ (t : TE) : TT:=fun σ H Q=>t σ H fun x H'=>∃ k,x = .bl k ∧ Q k H'
theorem Jx {op : CmpOp} {r : R2} (ho : OpR X (compareOp op) r) (ha : PE X a ta) (hb : PE X b tb) (hm : behindInMarks op b = false) : PT X (.Compare a [op] [b] pos) (JcQ (tOp r ta tb)):=by
 intro pins s σ H Q I h
 refine wpAny_isTrue_Compare1 (thn (ha pins s σ H _ I h) fun v s1 ⟨x,H1,I1,r1,q1⟩=>thn (hb pins s1 σ H1 _ I1 q1) fun u s2 ⟨y,H2,I2,r2,q2⟩ =>
  thn (ho pins s2 σ H2 x y v u _ I2 r1 r2 q2) fun c s3 ⟨z,H3,I3,r3,k,e,q3⟩=>?_) hm
 subst e
 cases r3
 exact wpAny_truthy_bool ⟨H3,I3,q3⟩
noncomputable def JdA (r r' : R2) (ta tb tc : TE) : TE:=fun σ H Q=>ta σ H fun x H1=>tb σ H1 fun y H2=>r x y H2 fun z H3=>∃ k,z = .bl k ∧
 (if k = true then tc σ H3 fun w' H4=>r' y w' H4 Q else Q (.bl false) H3)
theorem Jbp {op op' : CmpOp} {r r' : R2} (ho : OpR X (compareOp op) r) (ho' : OpR X (compareOp op') r') (ha : PE X a ta) (hb : PE X b tb) (hc : PE X c tc)
  (hm : lastMarks [op,op'] [b,c] = false:=by with_unfolding_all rfl) : PT X (.Compare a [op,op'] [b,c] pos) (JcQ (JdA r r' ta tb tc)):=by
 intro pins s σ H Q I h
 refine isTrue_chain (thn (ha pins s σ H _ I h) fun v s1 ⟨x,H1,I1,r1,q1⟩=>test_link (thn (hb pins s1 σ H1 _ I1 q1) fun u s2 ⟨y,H2,I2,r2,q2⟩ =>
  thn (ho pins s2 σ H2 x y v u _ I2 r1 r2 q2) fun d s3 ⟨z,H3,I3,r3,k,e,q3⟩=>?_)) hm
 subst e
 cases r3
 refine wpAny_truthy_bool ?_
 cases k with
 | false =>
  obtain ⟨k',e',q'⟩:=q3
  cases e'
  exact ite_ff ⟨H3,I3,q'⟩
 | true =>
  refine ite_tt (test_last (thn (hc pins s3 σ H3 _ I3 q3) fun w' s4 ⟨z',H4,I4,r4,q4⟩=>thn (ho' pins s4 σ H4 y z' u w' _ I4 r2 r4 q4) fun d' s5 ⟨z2,H5,I5,r5,k2,e2,q5⟩=>?_))
  subst e2
  cases r5
  exact wpAny_truthy_bool ⟨H5,I5,q5⟩
noncomputable def TruV (K : PySem.W.Frag) (x : V) (H : Hp) (k : Bool) : Prop :=
 match x with
 | .non=>k = false
 | .bl b=>k = b
 | .int i=>k = (i != 0)
 | .str y=>y.length ≤ sizeLine ∧ k = ((y.length : Int) != 0)
 | .byt y=>y.size ≤ sizeLine ∧ k = ((y.size : Int) != 0)
 | .ref p=>(∃ xs,SqL K H p xs ∧ k = !xs.isEmpty) ∨ (∃ xs,SqT K H p xs ∧ k = !xs.isEmpty) ∨ ∃ kvs,H p = some (.dK kvs) ∧ k = !kvs.isEmpty
 | _=>False
theorem J9r {κ : Type} {kvs : List (κ × V)} {vs : List (κ × Value)} (r : KV kvs vs) : (!vs.isEmpty) = !kvs.isEmpty:=by
 cases r <;> rfl
theorem J62 {xs : List V} {its : List Value} (r : Vals xs its) : (!its.toArray.isEmpty) = !xs.isEmpty:=by
 cases r <;> simp
theorem J4N : (sizeLine : Nat) < 2 ^ 63:=by rw [sizeLine_eq]; decide
theorem Jdi : TruR X (fun x H Q=>∃ k,TruV X.K x H k ∧ Q k H):=by
 intro pins s σ H x v Q I rx h
 obtain ⟨k,e,q⟩:=h
 have hl:=J4N
 have hs : sizeLine = 16777216:=sizeLine_eq
 cases x with
 | non =>
  cases rx
  have e' : k = false:=e
  subst e'
  exact truthy_none ⟨H,I,q⟩
 | bl b =>
  cases rx
  have e' : k = b:=e
  subst e'
  exact wpAny_truthy_bool ⟨H,I,q⟩
 | int i =>
  obtain ⟨t,rfl⟩:=rx
  have e' : k = (i != 0):=e
  subst e'
  exact PySem.P.truthy_int ⟨H,I,q⟩
 | str y =>
  obtain ⟨t,rfl⟩:=rx
  obtain ⟨hy,e'⟩ : y.length ≤ sizeLine ∧ k = ((y.length : Int) != 0):=e
  subst e'
  exact PySem.P.truthy_str (by omega) ⟨H,I.tok _,q⟩
 | byt y =>
  obtain ⟨t,rfl⟩:=rx
  obtain ⟨hy,e'⟩ : y.size ≤ sizeLine ∧ k = ((y.size : Int) != 0):=e
  subst e'
  exact PySem.W.truthy_bytes (by omega) ⟨H,I.tok _,q⟩
 | ref p =>
  cases rx
  have e' : (∃ xs,SqL X.K H p xs ∧ k = !xs.isEmpty) ∨ (∃ xs,SqT X.K H p xs ∧ k = !xs.isEmpty) ∨ ∃ kvs,H p = some (.dK kvs) ∧ k = !kvs.isEmpty:=e
  rcases e' with ⟨xs,hx,e'⟩ | ⟨xs,hx,e'⟩ | ⟨kvs,hx,e'⟩
  ·subst e'
   obtain ⟨its,r,pl,hz⟩:=I.list hx
   have hlen:=r.length
   exact wpAny_truthy_list pl.isList (by simp only [List.size_toArray]; omega) ⟨H,I.tok _,by rw [J62 r]; exact q⟩
  ·subst e'
   obtain ⟨its,r,pl,hz⟩:=I.tuple hx
   have hlen:=r.length
   exact truthy_tuple pl (by simp only [List.size_toArray]; omega) ⟨H,I.tok _,by rw [J62 r]; exact q⟩
  ·subst e'
   obtain ⟨hz,hS,vs,r,m⟩ : kvs.length ≤ sizeLine ∧ (p == sysModules) = false ∧ ∃ vs,KV kvs vs ∧ s.heap.DictOf (J04 X.prog X.w) p vs:=I.hok p _ hx
   have hlen : kvs.length = vs.length:=Paired.length r
   exact wpAny_truthy_dict hS m (by omega) ⟨H,I.tok _,by rw [J9r r]; exact q⟩
 | _=>exact (show False from e).elim
theorem JbD (ha : PE X a ta) (he : ∀ whole,isTrue a X.env whole = (do let v ← whole; standAt a.pos; holding [v] (truthy v))) :
  PT X a (fun σ H Q=>ta σ H fun x H'=>∃ k,TruV X.K x H' k ∧ Q k H'):=by
 intro pins s σ H Q I h
 exact isTrue_plain (thn (ha pins s σ H _ I h) fun v s1 ⟨x,H1,I1,r1,q1⟩=>Jdi pins s1 σ H1 x v Q I1 r1 q1) (he _)
theorem J4D {x : V} {us : List Value} (r : Vals [x] us) : ∃ u,us = [u] ∧ RelV x u:=by
 cases r with
 | cons r1 r2=>cases r2; exact ⟨_,rfl,r1⟩
theorem Je9 {x y : V} {us : List Value} (r : Vals [x,y] us) : ∃ u w',us = [u,w'] ∧ RelV x u ∧ RelV y w':=by
 cases r with
 | cons r1 r2 =>
  cases r2 with
  | cons r3 r4=>cases r4; exact ⟨_,_,rfl,r1,r3⟩
theorem J6Y (hc : X.calm = true) : J1p X (.builtin "min") (fun xs H Q=>∃ i j,xs = [.int i,.int j] ∧ Q (.int (if j < i then j else i)) H):=by
 intro pins s σ H xs us Q I r h
 obtain ⟨i,j,rfl,q⟩:=h
 obtain ⟨u,w',rfl,⟨t,rfl⟩,⟨t',rfl⟩⟩:=Je9 r
 refine min_two_ints (I.ok.hd hc) fun h' tk k=>⟨_,H,I.kept k,?_,q⟩
 by_cases hj : j < i
 ·rw [if_pos hj,if_pos hj]; exact ⟨_,rfl⟩
 ·rw [if_neg hj,if_neg hj]; exact ⟨_,rfl⟩
end
end L2
namespace L2
open PySem PySem.Spec PyProof.Rows
structure ObjM (h : Heap) (x dx C : Addr) (mA : Str → Option Value) : Prop where
 obj : h.get? x = some (PySem.W.instObj C dx)
 ns : h.Ns1 dx mA
 ne : dx ≠ x
theorem Ja3 {h : Heap} {dx : Addr} {mA : Str → Option Value} (n : h.Ns1 dx mA) : ∃ od,h.get? dx = some od ∧ ∀ name,PySem.W.lookIn name od = some (mA name):=by
 obtain ⟨o,es,ep,ho,hd,hk,_,hm⟩:=n
 refine ⟨o,ho,fun name=>?_⟩
 have e:=hm name
 unfold nsFind findBy at e
 rw [← Array.find?_toList] at e
 unfold PySem.W.lookIn
 rw [hd]
 dsimp only
 split
 ·rename_i y q
  rw [q] at e
  exact congrArg some e
 ·rename_i q
  rw [q] at e
  have a : es.toList.any (·.refKey) = false:=by
   rw [List.any_eq_false]
   intro y hy
   obtain ⟨z,t,hkey⟩:=hk y (Array.mem_toList_iff.mp hy)
   simp [DictEntry.refKey,hkey]
  have a' : ¬ es.toList.any (·.refKey) = true:=by rw [a]; exact Bool.false_ne_true
  rw [if_neg a']
  exact congrArg some e
theorem ObjM.look {h : Heap} {x dx C : Addr} {mA : Str → Option Value} (I : ObjM h x dx C mA) : ∃ od,PySem.W.InstAt h x (PySem.W.instObj C dx) C (some od) ∧ ∀ name,PySem.W.lookIn name od = some (mA name) :=
 let ⟨od,ho,hl⟩:=Ja3 I.ns
 ⟨od,⟨I.obj,rfl,rfl,ho⟩,hl⟩
section
variable {prog : Program} {w : World} {A : Around} {E : Value → Shared → Prop} {s : Shared} {K : PySem.W.Frag} {x dx C f : Addr} {mA : Str → Option Value} {name : Str} {v : Value}
theorem Jc6 {expr : Bool} {Q : Value → Shared → Prop} (X : K.In s.heap) (I : ObjM s.heap x dx C mA) (hg : PySem.W.plainGet K C name = true) (hh : PySem.W.hasDictIn K C = true)
  (ha : PySem.W.findIn K (.ref C) name = some none) (hv : mA name = some v) (hv' : PySem.W.handedIn v = true) (h : Q v { s with toks:=s.toks + 1 }) :
  wpAny (model prog w) A (getAttr (.ref x) name expr) Q E s:=by
 obtain ⟨od,J,hl⟩:=I.look
 exact PySem.W.get_value X J (PySem.W.plainGet_of hg).1 (PySem.W.findObj_own hh ha rfl (by rw [hl,hv])) hv' h
theorem Jbm {pl : Sem Bool} {Q : Value × List Value → Shared → Prop} (X : K.In s.heap) (I : ObjM s.heap x dx C mA) (hg : PySem.W.plainGet K C name = true)
  (hf : PySem.W.findIn K (.ref C) name = some (some (.ref f))) (ht : PySem.W.isFn K (.ref f) = true) (hv : mA name = none) (h : Q (.ref f,[.ref x]) s) :
  wpAny (model prog w) A (getMethod (.ref x) name pl) Q E s:=by
 obtain ⟨od,J,hl⟩:=I.look
 exact PySem.W.method_fn X J (PySem.W.plainGet_of hg).1 (PySem.W.plainGet_of hg).2 hf (beq_iff_eq.mp ht) (by show (PySem.W.lookIn name od).map (·.isSome) = some false; rw [hl,hv]; rfl) h
theorem Jc4 {ns : List Str} {Q : Unit → Shared → Prop} (X : K.In s.heap) (I : ObjM s.heap x dx C mA)
  (hs : PySem.W.findIn K (.ref C) "__setattr__" = some (some (.builtin "object.__setattr__"))) (hp : PySem.W.plainOver K C = true) (ht : PySem.W.takerIn K C name = some none) (hh : PySem.W.hasDictIn K C = true)
  (hw : PySem.Within mA ns) (hsz : ns.length ≤ sizeLine)
  (h : ∀ h',ObjM h' x dx C (fun y=>if y = name then some v else mA y) → Heap.SameBut dx s.heap h' → Q () { s with heap:=h',toks:=s.toks + 2 }) :
  wpAny (model prog w) A (setAttr (.ref x) name v) Q E s:=by
 obtain ⟨od,J,hl⟩:=I.look
 refine PySem.W.set_plain X J hs (PySem.W.osa_open (s:={ s with toks:=s.toks + 1 }) (r:=none) X J hp ht fun b=>?_)
 obtain ⟨cd,hc,hd'⟩:=PySem.W.any_some hh
 have hx : s.heap.get? x = some ⟨.ref C,some dx,.plain,#[]⟩:=I.obj
 refine wpAny_bind (wpAny_pure (wpAny_bind (wpAny_bind (wpAny_loadPart hx (wpAny_bind (PySem.W.Looks.here (s:={ s with toks:=s.toks + 1 }) (PySem.W.looks_clsIn X hc) ?_))))))
 rw [hd']
 refine wpAny_pure (a:=some dx) (wpAny_bind (wpAny_pure (wpAny_bind ?_)))
 refine wpAny_nsSet1 (s:={ s with toks:=s.toks + 1 }) I.ns fun h' hn2 hs2=>?_
 obtain ⟨oD,esD,epD,hoD,hdD,hcD⟩:=hn2.count (PySem.Within.cons name v hw)
 refine wpAny_bind (wpAny_lookBehind hoD (by rw [hdD]; exact pastItsLine_dict (Nat.le_trans hcD (by rw [List.length_cons]; omega))) ?_)
 exact wpAny_pure (h _ ⟨(hs2.2 _ (Ne.symm I.ne)).trans I.obj,hn2,I.ne⟩ hs2)
theorem Jbv {R : Result → Shared → Prop} {vs : List Value} {kw : List (Str × Value)} (X : K.In s.heap) (hm : PySem.W.makesIn K C = true)
  (hi : PySem.W.findIn K (.ref C) "__init__" = some (some (.ref f))) (hf : PySem.W.typeIn K (.ref f) = some (.type "function"))
  (h : codeAny (model prog w) (A.under (.builtin "type.__call__" ⟨.ref C :: vs,kw⟩)) (.call (.ref f) ⟨.ref (s.heap.objs.size + 1) :: vs,kw⟩) (PySem.W.InitBack (s.heap.objs.size + 1) R)
   {s with heap:=(s.heap.push PySem.W.emptyDict).push (PySem.W.instObj C s.heap.objs.size) }) :
  codeAny (model prog w) A (.call (.ref C) ⟨vs,kw⟩) R s:=by
 obtain ⟨hh,g,d,t,os⟩:=s
 exact PySem.W.make_core (PySem.W.makes_of X hm) (PySem.W.looks_findIn X hi) (fun self=>PySem.W.bind_fn X self hf) (.inl rfl) h
theorem Jab {R : Result → Shared → Prop} (X : K.In s.heap) (hm : PySem.W.makesIn K C = true)
  (hi : PySem.W.findIn K (.ref C) "__init__" = some (some (.builtin "object.__init__")))
  (hb : ∀ self,PySem.W.Looks (model prog w) s.heap (bindSpecial (.builtin "object.__init__") self) (.builtin "object.__init__",[self]))
  (h : codeAny (model prog w) (A.under (.builtin "type.__call__" ⟨[.ref C],[]⟩)) (.call (.builtin "object.__init__") ⟨[.ref (s.heap.objs.size + 1)],[]⟩) (PySem.W.InitBack (s.heap.objs.size + 1) R)
   {s with heap:=(s.heap.push PySem.W.emptyDict).push (PySem.W.instObj C s.heap.objs.size) }) :
  codeAny (model prog w) A (.call (.ref C) ⟨[],[]⟩) R s:=by
 obtain ⟨hh,g,d,t,os⟩:=s
 exact PySem.W.make_core (PySem.W.makes_of X hm) (PySem.W.looks_findIn X hi) hb (.inr ⟨rfl,rfl⟩) h
end
noncomputable def putF (f : Str) (v : V) : List (Str × V) → List (Str × V)
 | []=>[(f,v)]
 | (g,x) :: r=>if g = f then (g,v) :: r else (g,x) :: putF f v r
theorem J4Z (f g : Str) (v : V) : ∀ fs : List (Str × V),(putF f v fs).lookup g = if g = f then some v else fs.lookup g
 | []=>by
  show List.lookup g [(f,v)] = _
  by_cases h : g = f
  ·have hb : (g == f) = true:=beq_iff_eq.mpr h
   simp only [List.lookup,hb,if_pos h]
  ·have hb : (g == f) = false:=beq_eq_false_iff_ne.mpr h
   simp only [List.lookup,hb,if_neg h]
 | (k,x) :: r=>by
  have ih:=J4Z f g v r
  rw [show putF f v ((k,x) :: r) = (if k = f then (k,v) :: r else (k,x) :: putF f v r) from rfl]
  by_cases hk : k = f
  ·rw [if_pos hk]
   by_cases h : g = k
   ·have hb : (g == k) = true:=beq_iff_eq.mpr h
    simp only [List.lookup,hb,if_pos (h.trans hk)]
   ·have hb : (g == k) = false:=beq_eq_false_iff_ne.mpr h
    simp only [List.lookup,hb,if_neg (fun e : g = f=>h (e.trans hk.symm))]
  ·rw [if_neg hk]
   by_cases h : g = k
   ·have hb : (g == k) = true:=beq_iff_eq.mpr h
    simp only [List.lookup,hb,if_neg (fun e : g = f=>hk (h.symm.trans e))]
   ·have hb : (g == k) = false:=beq_eq_false_iff_ne.mpr h
    simp only [List.lookup,hb]
    exact ih
theorem J4Q (f : Str) (v : V) : ∀ fs : List (Str × V),f ∈ (putF f v fs).map (·.1) ∧ ∀ g,g ∈ fs.map (·.1) → g ∈ (putF f v fs).map (·.1)
 | []=>⟨by simp [putF],fun g h=>by simp at h⟩
 | (k,x) :: r=>by
  obtain ⟨i1,i2⟩:=J4Q f v r
  rw [show putF f v ((k,x) :: r) = (if k = f then (k,v) :: r else (k,x) :: putF f v r) from rfl]
  by_cases hk : k = f
  ·rw [if_pos hk]
   subst hk
   exact ⟨by simp,fun g h=>by simpa using h⟩
  ·rw [if_neg hk]
   refine ⟨?_,fun g h=>?_⟩
   ·rw [List.map_cons]
    exact List.mem_cons_of_mem _ i1
   ·rw [List.map_cons] at h ⊢
    rcases List.mem_cons.mp h with e | e
    ·exact List.mem_cons.mpr (.inl e)
    ·exact List.mem_cons_of_mem _ (i2 g e)
theorem J50 (f : Str) (v : V) : ∀ fs : List (Str × V),(putF f v fs).length ≤ fs.length + 1
 | []=>by simp [putF]
 | (k,x) :: r=>by
  have ih:=J50 f v r
  rw [show putF f v ((k,x) :: r) = (if k = f then (k,v) :: r else (k,x) :: putF f v r) from rfl]
  by_cases hk : k = f
  ·rw [if_pos hk,List.length_cons,List.length_cons]; omega
  ·rw [if_neg hk,List.length_cons,List.length_cons]; omega
theorem RelO.some_of {v : V} {o : Option Value} (r : RelO (some v) o) : ∃ u,o = some u ∧ RelV v u:=by
 cases o with
 | none=>exact (show False from r).elim
 | some u=>exact ⟨u,rfl,r⟩
theorem RelO.none_of {o : Option Value} (r : RelO none o) : o = none:=by
 cases o with
 | none=>rfl
 | some u=>exact (show False from r).elim
theorem Jaz {v : V} {u : Value} (r : RelV v u) : PySem.W.handedIn u = true:=by
 cases v with
 | non=>cases (show u = Value.none from r); rfl
 | bl b=>cases (show u = Value.bool b from r); rfl
 | int i=>obtain ⟨t,e⟩:=(show ∃ t,u = Value.int i t from r); cases e; rfl
 | str x=>obtain ⟨t,e⟩:=(show ∃ t,u = Value.str x t from r); cases e; rfl
 | byt b=>obtain ⟨t,e⟩:=(show ∃ t,u = Value.bytes b t from r); cases e; rfl
 | flt b=>obtain ⟨t,e⟩:=(show ∃ t,u = Value.float b t from r); cases e; rfl
 | ref a=>cases (show u = Value.ref a from r); rfl
 | ty n=>cases (show u = Value.type n from r); rfl
section
variable {P : Program} {w : World} {H H' : Hp} {h h' : Heap} {a C dx : Addr} {fs fs' : List (Str × V)}
theorem J5d (hok : HOk P w H h) (e : H a = some (.ins C dx fs)) : ∃ mA,ObjM h a dx C mA ∧ (∀ f,RelO (fs.lookup f) (mA f)) ∧ PySem.Within mA (fs.map (·.1)) ∧ fs.length ≤ 1000 ∧ H dx = some (.own a):=by
 obtain ⟨d,z,ne,ob,mA,n,r,q⟩:=(show J07 P w H h a (.ins C dx fs) from hok a _ e)
 exact ⟨mA,⟨ob,n,ne⟩,r,q,z,d⟩
end
structure Cls (K : PySem.W.Frag) (C : Addr) : Prop where
 pg : PySem.W.plainGet K C Str.empty = true
 hd : PySem.W.hasDictIn K C = true
 po : PySem.W.plainOver K C = true
 sa : PySem.W.findIn K (.ref C) "__setattr__" = some (some (.builtin "object.__setattr__"))
theorem Cls.get {K : PySem.W.Frag} {C : Addr} (c : Cls K C) (f : Str) : PySem.W.plainGet K C f = true:=c.pg
noncomputable def JC (K : PySem.W.Frag) (C : Addr) (f : Str) : Prop:=PySem.W.findIn K (.ref C) f = some none
theorem JC.taker {K : PySem.W.Frag} {C : Addr} {f : Str} (n : JC K C f) : PySem.W.takerIn K C f = some none:=by
 unfold PySem.W.takerIn
 rw [show PySem.W.findIn K (.ref C) f = some none from n]
 rfl
structure Meth (K : PySem.W.Frag) (C : Addr) (m : Str) (f : Addr) : Prop where
 at_ : PySem.W.findIn K (.ref C) m = some (some (.ref f))
 fn : PySem.W.isFn K (.ref f) = true
 kp : PySem.W.keepIn K (.ref f) = true
section
variable {X : Cx} {pins : List (Addr × Obj)} {σ : St} {H : Hp} {s : Shared} {a C dx : Addr} {fs : List (Str × V)} {f : Str} {v : V} {A : Around} {E : Value → Shared → Prop}
theorem J9j {b : Bool} {Q : Value → Shared → Prop} (I : Inv X pins σ H s) (e : H a = some (.ins C dx fs)) (c : Cls X.K C) (n : JC X.K C f) (l : fs.lookup f = some v)
  (h : ∀ u s',Inv X pins σ H s' → RelV v u → Q u s') : wpAny (model X.prog X.w) A (getAttr (.ref a) f b) Q E s:=by
 obtain ⟨mA,O,r,_,_,_⟩:=J5d I.hok e
 obtain ⟨u,hu,ru⟩:=RelO.some_of (v:=v) (o:=mA f) (by rw [← l]; exact r f)
 exact Jc6 I.kIn O (c.get f) c.hd n hu (Jaz ru) (h u _ (I.tok _) ru)
theorem J6d {m : Str} {g : Addr} {pl : Sem Bool} {Q : Value × List Value → Shared → Prop} (I : Inv X pins σ H s) (e : H a = some (.ins C dx fs)) (c : Cls X.K C) (k : Meth X.K C m g) (l : fs.lookup m = none)
  (h : Q (.ref g,[.ref a]) s) : wpAny (model X.prog X.w) A (getMethod (.ref a) m pl) Q E s:=by
 obtain ⟨mA,O,r,_,_,_⟩:=J5d I.hok e
 have hn : mA m = none:=RelO.none_of (by rw [← l]; exact r m)
 exact Jbm I.kIn O (c.get m) k.at_ k.fn hn h
theorem J9v {y : V} {u : Value} {Q : Unit → Shared → Prop} (I : Inv X pins σ H s) (e : H a = some (.ins C dx fs)) (c : Cls X.K C) (n : JC X.K C f) (hl : fs.length < 1000) (ry : RelV y u)
  (h : ∀ s',Inv X pins σ (upd H a (.ins C dx (putF f y fs))) s' → Q () s') : wpAny (model X.prog X.w) A (setAttr (.ref a) f u) Q E s:=by
 obtain ⟨mA,O,r,wi,_,ho⟩:=J5d I.hok e
 have hz : (fs.map (·.1)).length ≤ sizeLine:=by rw [List.length_map,sizeLine_eq]; omega
 refine Jc4 I.kIn O c.sa c.po n.taker c.hd wi hz fun h' O' sb=>h _ ?_
 have hd : ∃ o,h'.get? dx = some o:=let ⟨o,_,_,e',_⟩:=O'.ns; ⟨o,e'⟩
 refine I.write (x:=a) (e:=dx) (by rw [e]; exact True.intro) (.inr ho) (fun b q hb z=>(sb.2 b hb).trans z) hd ?_
 refine ⟨by rw [Ja O.ne]; exact ho,?_,O.ne,O'.obj,_,O'.ns,fun g=>?_,fun g hg=>?_⟩
 ·have:=J50 f y fs; omega
 ·show RelO ((putF f y fs).lookup g) (if g = f then some u else mA g)
  rw [J4Z]
  by_cases q : g = f
  ·rw [if_pos q,if_pos q]; exact ry
  ·rw [if_neg q,if_neg q]; exact r g
 ·by_cases q : g = f
  ·rw [q]; exact (J4Q f y fs).1
  ·refine (J4Q f y fs).2 g (wi g fun z=>hg ?_)
   show (if g = f then some u else mA g) = none
   rw [if_neg q]; exact z
theorem Inv.made (I : Inv X pins σ H s) : Inv X pins σ (upd (upd H s.heap.objs.size (.own (s.heap.objs.size + 1))) (s.heap.objs.size + 1) (.ins C s.heap.objs.size []))
  {s with heap:=(s.heap.push PySem.W.emptyDict).push (PySem.W.instObj C s.heap.objs.size) }:=by
 have e1 : (s.heap.push PySem.W.emptyDict).get? s.heap.objs.size = some PySem.W.emptyDict:=Heap.get?_push_size s.heap rfl
 have e2 : ((s.heap.push PySem.W.emptyDict).push (PySem.W.instObj C s.heap.objs.size)).get? (s.heap.objs.size + 1) = some (PySem.W.instObj C s.heap.objs.size):=by
  have:=Heap.get?_push_size (s.heap.push PySem.W.emptyDict) (o:=PySem.W.instObj C s.heap.objs.size) rfl
  rwa [Heap.size_push] at this
 have e3 : (s.heap.push PySem.W.emptyDict).Ns s.heap.objs.size (fun _=>none):=⟨PySem.W.emptyDict,#[],_,e1,rfl,(fun e he=>absurd he (by simp)),fun _=>rfl⟩
 have I1:=I.laid (a:=s.heap.objs.size) (o:=.own (s.heap.objs.size + 1)) (h':=s.heap.push PySem.W.emptyDict) (t':=s.toks) (fun b u q=>Heap.get?_push_of_some _ q) (Nat.le_refl _) ⟨_,e1⟩
 refine I1.laid (a:=s.heap.objs.size + 1) (o:=.ins C s.heap.objs.size []) (t':=s.toks) (fun b u q=>Heap.get?_push_of_some _ q) (Nat.le_of_eq (Heap.size_push _ _)) ?_
 have ne : s.heap.objs.size ≠ s.heap.objs.size + 1:=Nat.ne_of_lt (Nat.lt_succ_self _)
 refine ⟨by rw [Ja ne,Jd],Nat.zero_le _,ne,e2,fun _=>none,(Heap.Ns1.of_empty e3).at fun o q=>Heap.get?_push_of_some _ q,fun _=>True.intro,fun y hy=>absurd rfl hy⟩
theorem Jcn {prog : Program} {w : World} {env : Env} {e : Expr} {f : Str} {pos : Pos} {s : Shared} {Q : Value → Shared → Prop} (hb : attributeBase e f env (eval e env) = eval e env)
  (h : wpAny (model prog w) A (eval e env) (fun o s₁=>wpAny (model prog w) A (getAttr o f true) Q E s₁) E s) : wpAny (model prog w) A (eval (.Attribute e f pos) env) Q E s :=
 Attribute_any_ h (by rw [arm_eval_Attribute,hb])
end
noncomputable def tFld (K : PySem.W.Frag) (ta : TE) (f : Str) : TE:=fun σ H Q=>ta σ H fun x H1=>∃ a C dx fs v,x = .ref a ∧ H1 a = some (.ins C dx fs) ∧ Cls K C ∧ JC K C f ∧ fs.lookup f = some v ∧ Q v H1
noncomputable def sFld (K : PySem.W.Frag) (ta tv : TE) (f : Str) : TS:=fun D σ H=>tv σ H fun y H1=>ta σ H1 fun x H2=>∃ a C dx fs,x = .ref a ∧ H2 a = some (.ins C dx fs) ∧ Cls K C ∧ JC K C f ∧ fs.length < 1000 ∧
 D.nx σ (upd H2 a (.ins C dx (putF f y fs)))
section
variable {X : Cx} {o e value : Expr} {f : Str} {pos pos' tpos : Pos} {ta tv : TE}
theorem JdM (he : PE X e ta) (hb : attributeBase e f X.env (eval e X.env) = eval e X.env) : PE X (.Attribute e f pos) (tFld X.K ta f):=by
 intro pins s σ H Q I h
 refine Jcn hb (thn (he pins s σ H _ I h) fun u s1 ⟨x,H1,I1,rx,a,C,dx,fs,v,ex,ea,c,n,l,q⟩=>?_)
 subst ex
 obtain rfl : u = Value.ref a:=rx
 exact J9j I1 ea c n l fun u' s2 I2 ru=>⟨v,H1,I2,ru,q⟩
theorem JN (ha : PE X o ta) (hv : PE X value tv) (hs : swapsWith value (some (.Attribute o f pos')) pos.line X.env = pure false) : PS X (.Assign [.Attribute o f pos'] value pos) (sFld X.K ta tv f):=by
 intro pins s σ H D I h
 refine plainObj_wpAny_Assign_Attribute (thn (hv pins s σ H _ I h) fun u s1 ⟨y,H1,I1,ry,q⟩=>thn (ha pins s1 σ H1 _ I1 q) fun ov s2 ⟨x,H2,I2,rx,a,C,dx,fs,ex,ea,c,n,l,q2⟩=>?_) hs
 subst ex
 obtain rfl : ov = Value.ref a:=rx
 exact J9v I2 ea c n l ry fun s3 I3=>⟨σ,_,I3,q2⟩
end
section
variable {X : Cx} {pins : List (Addr × Obj)} {σ : St} {H : Hp} {s : Shared} {A : Around} {E : Value → Shared → Prop} {Q : Value → Shared → Prop} {c : Value} {b : Bool}
inductive TyOf (K : PySem.W.Frag) (H : Hp) : V → Value → Prop where
 | non : TyOf K H .non (.type "NoneType")
 | bl (x : Bool) : TyOf K H (.bl x) (.type "bool")
 | int (i : Int) : TyOf K H (.int i) (.type "int")
 | str (x : Str) : TyOf K H (.str x) (.type "str")
 | flt (x : UInt64) : TyOf K H (.flt x) (.type "float")
 | lst {a : Addr} {xs : List V} (e : H a = some (.lst xs)) : TyOf K H (.ref a) (.type "list")
 | frz {a : Addr} {o : Obj} {xs : List V} (e : H a = some (.frz o (.lst xs))) : TyOf K H (.ref a) (.type "list")
 | tup {a : Addr} {xs : List V} (e : H a = some (.tup xs)) : TyOf K H (.ref a) (.type "tuple")
 | dK {a : Addr} {kvs : List (Key × V)} (e : H a = some (.dK kvs)) : TyOf K H (.ref a) (.type "dict")
 | dT {a : Addr} {kvs : List (List Key × V)} (e : H a = some (.dT kvs)) : TyOf K H (.ref a) (.type "dict")
 | ins {a C dx : Addr} {fs : List (Str × V)} (e : H a = some (.ins C dx fs)) (cl : Cls K C) (ha : PySem.W.findIn K (.ref C) "__class__" = some (some (.builtin "object.__class__")))
   (hn : PySem.W.specialIn K (.builtin "object.__class__") "__get__" = some (some (.builtin "getset_descriptor.__get__"))) (htk : PySem.W.takesIn K (.builtin "object.__class__") = some true)
   (hm : PySem.W.mroIn K C (.type "object") = some true) : TyOf K H (.ref a) (.ref C)
theorem Jaq {x : V} {u t : Value} (I : Inv X pins σ H s) (rx : RelV x u) (ty : TyOf X.K H x t) (e : PySem.W.kitOne X.K t c = some b) (h : ∀ tk,Q (.bool b) { s with toks:=tk }) :
  wpAny (model X.prog X.w) A (call (.builtin "isinstance") [u,c]) Q E s:=by
 cases ty with
 | non=>cases (show u = Value.none from rx); exact PySem.W.kia_one PySem.W.kitx_none I.kIn True.intro e (fun z=>nomatch z) h
 | bl y=>cases (show u = Value.bool y from rx); exact PySem.W.kia_one PySem.W.kitx_bool I.kIn True.intro e (fun z=>nomatch z) h
 | int i=>obtain ⟨t,q⟩:=(show ∃ t,u = Value.int i t from rx); cases q; exact PySem.W.kia_one PySem.W.kitx_int I.kIn True.intro e (fun z=>nomatch z) h
 | str y=>obtain ⟨t,q⟩:=(show ∃ t,u = Value.str y t from rx); cases q; exact PySem.W.kia_one PySem.W.kitx_str I.kIn True.intro e (fun z=>nomatch z) h
 | flt y=>obtain ⟨t,q⟩:=(show ∃ t,u = Value.float y t from rx); cases q; exact PySem.W.kia_one PySem.W.kitx_float I.kIn True.intro e (fun z=>nomatch z) h
 | @lst a xs ea =>
  cases (show u = Value.ref a from rx)
  obtain ⟨_,_,n,_,h1⟩:=(show J07 X.prog X.w H s.heap a (.lst xs) from I.hok a _ ea)
  exact PySem.W.kia_one PySem.W.kitx_list I.kIn ⟨_,h1,rfl⟩ e (fun z=>nomatch z) h
 | @frz a ob xs ea =>
  cases (show u = Value.ref a from rx)
  obtain ⟨_,_,_,n,_,h1⟩:=(show J07 X.prog X.w H s.heap a (.frz ob (.lst xs)) from I.hok a _ ea)
  exact PySem.W.kia_one PySem.W.kitx_list I.kIn ⟨_,h1,rfl⟩ e (fun z=>nomatch z) h
 | @tup a xs ea =>
  cases (show u = Value.ref a from rx)
  obtain ⟨_,_,_,p⟩:=(show J07 X.prog X.w H s.heap a (.tup xs) from I.hok a _ ea)
  obtain ⟨o,h1,h2,_⟩:=p
  exact PySem.W.kia_one PySem.W.kitx_tuple I.kIn ⟨o,h1,h2⟩ e (fun z=>nomatch z) h
 | @dK a kvs ea =>
  cases (show u = Value.ref a from rx)
  obtain ⟨_,_,vs,_,p⟩:=(show J07 X.prog X.w H s.heap a (.dK kvs) from I.hok a _ ea)
  obtain ⟨o,es,ep,h1,h2,_⟩:=p
  exact PySem.W.kia_one PySem.W.kitx_dict I.kIn ⟨o,h1,h2.1⟩ e (fun z=>nomatch z) h
 | @dT a kvs ea =>
  cases (show u = Value.ref a from rx)
  obtain ⟨_,_,xs,_,o,es,ep,h1,h2,_⟩:=(show J07 X.prog X.w H s.heap a (.dT kvs) from I.hok a _ ea)
  exact PySem.W.kia_one PySem.W.kitx_dict I.kIn ⟨o,h1,h2.1⟩ e (fun z=>nomatch z) h
 | @ins a C dx fs ea cl ha hn htk hm =>
  cases (show u = Value.ref a from rx)
  obtain ⟨mA,O,_⟩:=J5d I.hok ea
  obtain ⟨od,J,_⟩:=O.look
  exact PySem.W.kia_one (PySem.W.kitx_own (cl.get _) cl.hd ha hn htk hm) I.kIn J e (fun z=>nomatch z) h
end
end L2
namespace L2
open PySem PySem.Spec PyProof.Rows
structure Room (k : Nat) (A : Around) : Prop where
 hd : A.handled = none
 dp : A.depth + 3 * k + 5 < recursionLimit
 un : A.units + 16 * k + 200 < cLine
theorem Room.mono {j k : Nat} {A : Around} (r : Room k A) (h : j ≤ k) : Room j A:=⟨r.hd,by have:=r.dp; omega,by have:=r.un; omega⟩
theorem Room.deeper {k : Nat} {A : Around} (r : Room (k + 1) A) (env : Env) : Room k (A.deeper env) :=
 ⟨r.hd,by have:=r.dp; show A.depth + 1 + 3 * k + 5 < _; omega,by have:=r.un; show A.units + 3 + 16 * k + 200 < _; omega⟩
theorem J99 {A : Around} {C : Addr} {us : List Value} {kw : List (Str × Value)} : (A.under (.builtin "type.__call__" ⟨.ref C :: us,kw⟩)).depth = A.depth + 1:=by
 first | rfl | simp [Around.under,Code.weight,Code.isCreation,Code.isGuard,Code.isCaller,Code.frames,Code.isFrame,guardIds]
theorem J9t {A : Around} {C : Addr} {us : List Value} {kw : List (Str × Value)} : (A.under (.builtin "type.__call__" ⟨.ref C :: us,kw⟩)).units = A.units + 1:=by
 first | rfl | simp [Around.under,Code.cUnits,Code.frames,Code.isFrame]
theorem Room.make {k : Nat} {A : Around} (r : Room (k + 1) A) (C : Addr) (us : List Value) (kw : List (Str × Value)) : Room k (A.under (.builtin "type.__call__" ⟨.ref C :: us,kw⟩)) :=
 ⟨r.hd,by have:=r.dp; rw [J99]; omega,by have:=r.un; rw [J9t]; omega⟩
theorem Room.depth {k : Nat} {A : Around} (r : Room k A) : A.depth < recursionLimit:=by have:=r.dp; omega
theorem Room.units {k : Nat} {A : Around} (r : Room k A) : A.units + 64 < cLine:=by have:=r.un; omega
theorem Room.units0 {k : Nat} {A : Around} (r : Room k A) : A.units < cLine:=by have:=r.un; omega
noncomputable def tNil : TA:=fun _ H Q=>Q [] H
noncomputable def J6M (ta : TE) (tr : TA) : TA:=fun σ H Q=>ta σ H fun x H1=>tr σ H1 fun xs H2=>Q (x :: xs) H2
section
variable {X : Cx} {e : Expr} {es : List Expr} {te : TE} {t : TA} {pos : Pos}
theorem J6 : PA X [] tNil:=fun _ _ _ _ H Q I h=>Calls.spliced_nil ⟨[],H,I,.nil,h⟩
theorem J0 (ha : PE X e te) (hr : PA X es t) (hs : starEach (e :: es) X.env = (false,eval e X.env) :: starEach es X.env:=by rfl) : PA X (e :: es) (J6M te t):=by
 intro pos pins s σ H Q I h
 rw [hs]
 show wpAny _ _ (spliced ((false,eval e X.env) :: backTo pos (starEach es X.env))) _ _ s
 refine Calls.spliced_cons (thn (ha pins s σ H _ I h) fun u s1 ⟨x,H1,I1,r1,q1⟩=>?_)
 exact thn (hr pos pins s1 σ H1 _ I1 q1) fun us s2 ⟨xs,H2,I2,r2,q2⟩=>⟨x :: xs,H2,I2,.cons r1 r2,q2⟩
noncomputable def tTup (t : TA) : TE:=fun σ H Q=>t σ H fun xs H1=>xs.length ≤ sizeLine ∧ ∀ p,H1 p = none → Q (.ref p) (upd H1 p (.tup xs))
noncomputable def tLst (t : TA) : TE:=fun σ H Q=>t σ H fun xs H1=>xs.length ≤ sizeLine ∧ ∀ p,H1 p = none → Q (.ref p) (upd H1 p (.lst xs))
theorem J05 {x1} (h : PA X es t) : PE X (.Tuple es x1 pos) (tTup t):=by
 intro pins s σ H Q I hq
 refine wpAny_Tuple_spliced (thn (h pos pins s σ H _ I hq) fun us s1 ⟨xs,H1,I1,r,z,q⟩=>⟨by rw [← r.length]; exact z,?_⟩)
 have hf : H1 s1.heap.objs.size = none:=I1.hok.fresh (Nat.le_refl _)
 refine ⟨.ref s1.heap.objs.size,upd H1 s1.heap.objs.size (.tup xs),I1.laid (t':=s1.toks) (fun b u e=>Heap.get?_push_of_some _ e) (Nat.le_refl _) ?_,rfl,q _ hf⟩
 exact ⟨z,us,r,⟨_,Heap.get?_push_size _ rfl,rfl,_,rfl⟩⟩
theorem JP (h : PA X es t) : PE X (.List es pos) (tLst t):=by
 intro pins s σ H Q I hq
 refine wpAny_List_spliced (thn (h pos pins s σ H _ I hq) fun us s1 ⟨xs,H1,I1,r,z,q⟩=>⟨by rw [← r.length]; exact z,?_⟩)
 have hf : H1 s1.heap.objs.size = none:=I1.hok.fresh (Nat.le_refl _)
 refine ⟨.ref s1.heap.objs.size,upd H1 s1.heap.objs.size (.lst xs),I1.laid (t':=s1.toks) (fun b u e=>Heap.get?_push_of_some _ e) (Nat.le_refl _) ?_,rfl,q _ hf⟩
 exact ⟨z,us,0,r,Heap.get?_push_size _ rfl⟩
end
noncomputable abbrev Sp:=List V → Hp → VK → XK → Prop
noncomputable abbrev CXT:=List Env → Hp → Shared → XK → Value → Shared → Prop
structure Env0 (P : Program) (w : World) (K : PySem.W.Frag) (mg : Str → Option Value) (base : Heap) (A : Around) (outer : List Env) (s : Shared) (H : Hp) : Prop where
 frames : A.frames = some outer
 mod : Mod K mg base
 bs : ∀ b o,base.get? b = some o → s.heap.get? b = some o ∧ H b = none
 bsz : base.objs.size ≤ s.heap.objs.size
 funs : s.heap.FunFrames base outer
 frf : ∀ b ∈ frs outer,H b = none
 hok : HOk P w H s.heap
 bare : AllBare s.gens
noncomputable def CE (outer : List Env) (P : Program) (w : World) (H : Hp) (s : Shared) (Q : VK) (u : Value) (s' : Shared) : Prop :=
 ∃ v H',s'.os = s.os ∧ AllBare s'.gens ∧ Un (frs outer) [] H H' s.heap s'.heap ∧ HOk P w H' s'.heap ∧ RelV v u ∧ Q v H'
noncomputable def CR (CX : CXT) (outer : List Env) (P : Program) (w : World) (H : Hp) (s : Shared) (Q : VK) (E : XK) (r : Result) (s' : Shared) : Prop :=
 match r with
 | .ok (.ret u)=>CE outer P w H s Q u s'
 | .ok _=>False
 | .error e=>CX outer H s E e s'
structure FnOk (P : Program) (w : World) (K : PySem.W.Frag) (mg : Str → Option Value) (base : Heap) (CX : CXT) (k : Nat) (f : Addr) (fd : FuncData) (ps : List Str) (sp : Sp) : Prop where
 len : ∀ vs H Q E,sp vs H Q E → vs.length = ps.length
 run : ∀ (A : Around) (outer : List Env) (s : Shared) (H : Hp) (args : Args) (us : List Value) (vs : List V) (Q : VK) (E : XK),Room k A → Env0 P w K mg base A outer s H → BindsTo s fd args (ps.zip us) → Vals vs us → sp vs H Q E →
  codeAny (model P w) A (.call (.ref f) args) (CR CX outer P w H s Q E) s
theorem Env0.make {P : Program} {w : World} {K : PySem.W.Frag} {mg : Str → Option Value} {base : Heap} {A : Around} {outer : List Env} {s : Shared} {H : Hp} (e : Env0 P w K mg base A outer s H) (C : Addr) (us : List Value) (kw : List (Str × Value)) :
  Env0 P w K mg base (A.under (.builtin "type.__call__" ⟨.ref C :: us,kw⟩)) outer s H:=⟨by first | exact e.frames | (simpa [Around.under,Code.envs,Code.isFrame,pushEnvs] using e.frames),e.mod,e.bs,e.bsz,e.funs,e.frf,e.hok,e.bare⟩
section
variable {X : Cx} {pins : List (Addr × Obj)} {σ : St} {H : Hp} {s s' : Shared}
theorem Inv.env0 (I : Inv X pins σ H s) : Env0 X.prog X.w X.K X.mg X.base X.A X.stack s H :=
 ⟨I.ok.frames,I.ok.mod,I.bs,Nat.le_trans I.ok.bsz I.sz,I.stack,I.stkFree,I.hok,I.bare⟩
theorem Inv.after {Q : VK} {u : Value} (I : Inv X pins σ H s) (h : CE X.stack X.prog X.w H s Q u s') : EP X pins σ Q u s':=by
 obtain ⟨v,H',os,bare,un,hok,r,q⟩:=h
 obtain ⟨hh,g,d,t,os'⟩:=s'
 obtain rfl : os' = s.os:=os
 exact ⟨v,H',I.call (h':=hh) (g':=g) (d':=d) (t':=t) (ch:=[]) un hok bare (fun b z=>absurd z (by simp)),r,q⟩
end
noncomputable def JcU (sp : Sp) (dvs : List V) (E : XK) (t : TA) : TE:=fun σ H Q=>t σ H fun vs H1=>sp (vs ++ dvs) H1 Q E
noncomputable def Jd0 (C : Addr) (m : Str) (sp : Sp) (dvs : List V) (E : XK) (ta : TE) (t : TA) : TE:=fun σ H Q=>ta σ H fun x H1=>∃ a dx fs,x = .ref a ∧ H1 a = some (.ins C dx fs) ∧ fs.lookup m = none ∧
 t σ H1 fun vs H2=>sp (x :: (vs ++ dvs)) H2 Q E
noncomputable def J3U (K : PySem.W.Frag) (fd : FuncData) (ps : List Str) (ds : List Value) : Prop :=
 ∀ (s : Shared) (us : List Value),K.In s.heap → (us ++ ds).length = ps.length → BindsTo s fd ⟨us,[]⟩ (ps.zip (us ++ ds))
theorem J3U.all {K : PySem.W.Frag} {fd : FuncData} {ps : List Str} (h : ∀ us : List Value,us.length = ps.length → bindArgs fd ⟨us,[]⟩ = pure (ps.zip us)) : J3U K fd ps []:=fun s us _ hl=>by
 rw [List.append_nil] at hl ⊢
 exact .of_eq (h us hl)
noncomputable def J66 (CX : CXT) (X : Cx) (E : XK) : Prop:=∀ (pins : List (Addr × Obj)) (σ : St) (H : Hp) (s : Shared) (e : Value) (s' : Shared),Inv X pins σ H s → CX X.stack H s E e s' → X.xe e s'
section
variable {X : Cx} {CX : CXT} {k : Nat} {f C : Addr} {fd : FuncData} {ps : List Str} {sp : Sp} {dvs : List V} {ds : List Value} {E : XK} {x m : Str} {p pos apos : Pos} {e o : Expr} {es : List Expr} {ta : TE} {t : TA}
theorem J9h {pins : List (Addr × Obj)} {σ : St} {H : Hp} {s : Shared} {Q : VK} {us : List Value} {vs : List V} (F : FnOk X.prog X.w X.K X.mg X.base CX k f fd ps sp) (hr : Room k X.A) (hb : J3U X.K fd ps ds) (hd : Vals dvs ds) (hx : J66 CX X E)
  (I : Inv X pins σ H s) (r : Vals vs us) (h : sp (vs ++ dvs) H Q E) : wpAny (model X.prog X.w) X.A (call (.ref f) us) (EP X pins σ Q) X.xe s:=by
 have r2 : Vals (vs ++ dvs) (us ++ ds):=r.append hd
 have hl : (us ++ ds).length = ps.length:=by rw [← r2.length]; exact F.len _ _ _ _ h
 refine wpAny_call (codeAny_mono (F.run X.A X.stack s H ⟨us,[]⟩ (us ++ ds) (vs ++ dvs) Q E hr I.env0 (hb s us I.kIn hl) r2 h) fun r s' hq=>?_)
 cases r with
 | error e=>exact hx pins σ H s e s' I hq
 | ok fl =>
  cases fl with
  | ret u=>exact I.after hq
  | next=>exact False.elim hq
  | brk=>exact False.elim hq
  | cont=>exact False.elim hq
theorem Jcj (F : FnOk X.prog X.w X.K X.mg X.base CX k f fd ps sp) (hr : Room k X.A) (hg : Gl X x) (hm : X.mg x = some (.ref f)) (hk : PySem.W.keepIn X.K (.ref f) = true) (hb : J3U X.K fd ps ds) (hd : Vals dvs ds) (hx : J66 CX X E)
  (ha : PA X (e :: es) t) (hdb : (x == ("__debug__" : Str)) = false:=by decide) (he : starEach (e :: es) X.env = (false,eval e X.env) :: starEach es X.env:=by rfl) (hpl : (backTo pos (starEach es X.env)).any (·.1) = false:=by rfl) :
  PE X (.Call (.Name x p) (e :: es) [] pos) (JcU sp dvs E t):=by
 intro pins s σ H Q I h
 refine wpAny_Call_Name_kw (J5c I hg hm ?_ hdb)
 refine PySem.W.callWith_K (h₀:=X.base) I.ok.mod.kin hk (thn (ha pos pins s σ H _ I h) fun us s1 ⟨vs,H1,I1,r,q⟩=>⟨I1.kIn,?_⟩) he hpl
 exact J9h F hr hb hd hx I1 r q
theorem JcG {pl : Sem Bool} (he : PE X o ta) (c : Cls X.K C) (hm : Meth X.K C m f) (F : FnOk X.prog X.w X.K X.mg X.base CX k f fd ps sp) (hr : Room k X.A) (hb : J3U X.K fd ps ds) (hd : Vals dvs ds) (hx : J66 CX X E) (ha : PA X (e :: es) t)
  (hst : starEach (e :: es) X.env = (false,eval e X.env) :: starEach es X.env:=by rfl) (hpl : (backTo pos (starEach es X.env)).any (·.1) = false:=by rfl)
  (ht : eval (.Call (.Attribute o m apos) (e :: es) [] pos) X.env = (do
   let ov ← eval o X.env
   standAt apos.atName
   let (f,first) ← holding [ov] (getMethod ov m pl)
   callWith pos f first (backTo pos (starEach (e :: es) X.env)) (backToKw pos (keywordEach [] X.env))):=by rfl) :
  PE X (.Call (.Attribute o m apos) (e :: es) [] pos) (Jd0 C m sp dvs E ta t):=by
 intro pins s σ H Q I h
 refine PySem.W.methodCall_KW (pl:=pl) (thn (he pins s σ H _ I h) fun u s1 ⟨x,H1,I1,rx,a,dx,fs,ex,ea,l,q⟩=>?_) ht
 subst ex
 obtain rfl : u = Value.ref a:=rx
 refine J6d I1 ea c hm l ?_
 refine PySem.W.callWith_K (first:=[.ref a]) (h₀:=X.base) I.ok.mod.kin hm.kp (thn (ha pos pins s1 σ H1 _ I1 q) fun us s2 ⟨vs,H2,I2,r,q2⟩=>⟨I2.kIn,?_⟩) hst hpl
 exact J9h (us:=.ref a :: us) (vs:=.ref a :: vs) F hr hb hd hx I2 (.cons rfl r) q2
structure Mk (K : PySem.W.Frag) (C f : Addr) : Prop where
 makes : PySem.W.makesIn K C = true
 init : PySem.W.findIn K (.ref C) "__init__" = some (some (.ref f))
 fn : PySem.W.isFn K (.ref f) = true
 kp : PySem.W.keepIn K (.ref C) = true
theorem JbK {pins : List (Addr × Obj)} {σ : St} {H : Hp} {s : Shared} {Q : VK} {us : List Value} {vs : List V} (M : Mk X.K C f) (F : FnOk X.prog X.w X.K X.mg X.base CX k f fd ps sp) (hr : Room (k + 1) X.A) (hb : J3U X.K fd ps ds) (hd : Vals dvs ds)
  (hx : J66 CX X E) (I : Inv X pins σ H s) (r : Vals vs us)
  (h : ∀ x dx,H x = none → H dx = none → dx ≠ x → sp (.ref x :: (vs ++ dvs)) (upd (upd H dx (.own x)) x (.ins C dx [])) (fun v H2=>v = .non ∧ Q (.ref x) H2) E) :
  wpAny (model X.prog X.w) X.A (call (.ref C) us) (EP X pins σ Q) X.xe s:=by
 have hq:=h (s.heap.objs.size + 1) s.heap.objs.size (I.hok.fresh (Nat.le_succ _)) (I.hok.fresh (Nat.le_refl _)) (Nat.ne_of_lt (Nat.lt_succ_self _))
 have I2:=Inv.made (C:=C) I
 have r2 : Vals (V.ref (s.heap.objs.size + 1) :: (vs ++ dvs)) (Value.ref (s.heap.objs.size + 1) :: (us ++ ds)):=.cons rfl (r.append hd)
 have hl : (Value.ref (s.heap.objs.size + 1) :: us ++ ds).length = ps.length:=by
  have e:=r2.length
  rw [F.len _ _ _ _ hq] at e
  exact e.symm
 refine wpAny_call (Jbv (f:=f) I.kIn M.makes M.init (beq_iff_eq.mp M.fn) (codeAny_mono (F.run _ X.stack _ _ ⟨Value.ref (s.heap.objs.size + 1) :: us,[]⟩ (Value.ref (s.heap.objs.size + 1) :: (us ++ ds)) _ _ E (hr.make C us [])
  (I2.env0.make C us []) (hb _ (Value.ref (s.heap.objs.size + 1) :: us) I2.kIn hl) r2 hq) fun r s' hq'=>?_))
 cases r with
 | error e=>exact hx pins σ _ _ e s' I2 hq'
 | ok fl =>
  cases fl with
  | ret u =>
   obtain ⟨v,H',I3,rv,ev,q3⟩:=I2.after hq'
   subst ev
   exact ⟨rv,⟨V.ref (s.heap.objs.size + 1),H',I3,rfl,q3⟩⟩
  | next=>exact False.elim hq'
  | brk=>exact False.elim hq'
  | cont=>exact False.elim hq'
end
noncomputable def PK (X : Cx) (kws : List Keyword) (t : TA) : Prop :=
 ∀ (pos : Pos) (pins : List (Addr × Obj)) (s : Shared) (σ : St) (H : Hp) (Q : List V → Hp → Prop),Inv X pins σ H s → t σ H Q → wpAny (model X.prog X.w) X.A (evalAll ((backToKw pos (keywordEach kws X.env)).map (·.2))) (AP X pins σ Q) X.xe s
section
variable {X : Cx} {CX : CXT} {k : Nat} {f C : Addr} {fd : FuncData} {ps ks : List Str} {sp : Sp} {E : XK} {x m : Str} {p pos apos kpos : Pos} {e o : Expr} {es : List Expr} {kws : List Keyword} {te ta : TE} {t tk : TA} {nm : Option Str}
theorem JdI : PK X [] tNil:=fun _ _ _ _ H Q I h=>wpAny_evalAll_nil ⟨[],H,I,.nil,h⟩
theorem JcH (ha : PE X e te) (hr : PK X kws t) : PK X (⟨nm,e,kpos⟩ :: kws) (J6M te t):=by
 intro pos pins s σ H Q I h
 show wpAny _ _ (evalAll ((do let v ← eval e X.env; standAt pos; pure v) :: (backToKw pos (keywordEach kws X.env)).map (·.2))) _ _ s
 refine wpAny_evalAll_cons (wpAny_bind (thn (ha pins s σ H _ I h) fun u s1 ⟨x,H1,I1,r1,q1⟩=>wpAny_bind (wpAny_standAt (wpAny_pure ?_))))
 exact thn (hr pos pins s1 σ H1 _ I1 q1) fun us s2 ⟨xs,H2,I2,r2,q2⟩=>⟨x :: xs,H2,I2,.cons r1 r2,q2⟩
variable {g : List Value → List Value → List Value} {gV : List V → List V → List V}
end
structure Jn (N P : List Str) (sc : Scope) : Prop where
 kind : sc.kind = .function
 co : sc.isCoroutine = false
 gen : sc.isGenerator = false
 nd : N.Nodup
 pre : N.take P.length = P
 par : ∀ x ∈ P,sc.names.lookup x = some .local ∨ sc.names.lookup x = some .cell
 nofree : ∀ y ∈ sc.names,y.2 ≠ .free
theorem J6Z {kindOf : Str → Option NameKind} {x : Str} : ∀ {binds : List (Str × Value)} {m : Str → Option Value},(∀ v,(x,v) ∉ binds) → bindL kindOf binds m x = m x
 | [],_,_=>rfl
 | (n,v) :: r,m,h=>by
  unfold bindL
  rw [J6Z fun w hw=>h w (List.mem_cons_of_mem _ hw)]
  split
  ·have : x ≠ n:=by rintro rfl; exact h v List.mem_cons_self
   simp [this]
  ·rfl
theorem J7a {kindOf : Str → Option NameKind} {x : Str} : ∀ {binds : List (Str × Value)} {m : Str → Option Value},(∀ v,(x,v) ∉ binds) → bindC kindOf binds m x = m x
 | [],_,_=>rfl
 | (n,v) :: r,m,h=>by
  unfold bindC
  rw [J7a fun w hw=>h w (List.mem_cons_of_mem _ hw)]
  split
  ·rfl
  ·have : x ≠ n:=by rintro rfl; exact h v List.mem_cons_self
   simp [this]
theorem J73 {kindOf : Str → Option NameKind} {x : Str} {v : Value} : ∀ {P : List Str} {vs : List Value} {i : Nat} {m : Str → Option Value},P.Nodup → P[i]? = some x → vs[i]? = some v → kindOf x = some .local →
  bindL kindOf (P.zip vs) m x = some v
 | [],_,_,_,_,h,_,_=>by simp at h
 | _ :: _,[],_,_,_,_,h,_=>by simp at h
 | p :: P,w :: vs,0,m,nd,h1,h2,hk=>by
  simp at h1 h2; subst h1; subst h2
  show bindL kindOf ((p,w) :: P.zip vs) m p = _
  unfold bindL
  rw [J6Z fun v hv=>(List.nodup_cons.mp nd).1 (List.of_mem_zip hv).1,if_pos hk]
  simp
 | p :: P,w :: vs,i + 1,m,nd,h1,h2,hk=>by
  show bindL kindOf ((p,w) :: P.zip vs) m x = _
  unfold bindL
  exact J73 (i:=i) (List.nodup_cons.mp nd).2 (by simpa using h1) (by simpa using h2) hk
theorem J6R {kindOf : Str → Option NameKind} {x : Str} {v : Value} : ∀ {P : List Str} {vs : List Value} {i : Nat} {m : Str → Option Value},P.Nodup → P[i]? = some x → vs[i]? = some v → kindOf x ≠ some .local →
  bindC kindOf (P.zip vs) m x = some v
 | [],_,_,_,_,h,_,_=>by simp at h
 | _ :: _,[],_,_,_,_,h,_=>by simp at h
 | p :: P,w :: vs,0,m,nd,h1,h2,hk=>by
  simp at h1 h2; subst h1; subst h2
  show bindC kindOf ((p,w) :: P.zip vs) m p = _
  unfold bindC
  rw [J7a fun v hv=>(List.nodup_cons.mp nd).1 (List.of_mem_zip hv).1,if_neg hk]
  simp
 | p :: P,w :: vs,i + 1,m,nd,h1,h2,hk=>by
  show bindC kindOf ((p,w) :: P.zip vs) m x = _
  unfold bindC
  exact J6R (i:=i) (List.nodup_cons.mp nd).2 (by simpa using h1) (by simpa using h2) hk
noncomputable def start (N : List Str) (vs : List V) : St:=vs.map some ++ List.replicate (N.length - vs.length) none
noncomputable def cxOf (CX : CXT) (P : Program) (w : World) (K : PySem.W.Frag) (mg : Str → Option Value) (base : Heap) (N : List Str) (qual : Str) (scope : Scope) (f : Addr) (cd : Value) (A : Around) (outer : List Env) (s : Shared) (H : Hp) (E : XK) : Cx where
 prog:=P
 w:=w
 K:=K
 mg:=mg
 base:=base
 A:=A.deeper (envOfC qual scope s.heap.objs.size f cd)
 N:=N
 s₀:=s
 H₀:=H
 env:=envOfC qual scope s.heap.objs.size f cd
 outer:=outer
 stack:=envOfC qual scope s.heap.objs.size f cd :: outer
 ex:=[]
 calm:=true
 fn:=fun _=>true
 pn:=[]
 xe:=fun e s'=>wpAny (model P w) (A.deeper (envOfC qual scope s.heap.objs.size f cd)) (leaving (envOfC qual scope s.heap.objs.size f cd) e) (fun _ s''=>CX outer H s E e s'') (fun e' s''=>CX outer H s E e' s'') s'
theorem J8P {sc : Scope} {n : Nat} {x : Str} (h : sc.names.lookup x = some .cell) : ∃ c,(cellsFrom n sc.names []).lookup x = some c:=by
 have q:=PySem.W.cellsFrom_some sc.names n [] (.inl h)
 exact Option.isSome_iff_exists.mp q
theorem Ja8 {CX : CXT} {P : Program} {w : World} {K : PySem.W.Frag} {mg : Str → Option Value} {base : Heap} {N ps : List Str} {qual : Str} {scope : Scope} {f : Addr} {cd : Value} {A : Around} {outer : List Env} {s s1 : Shared} {H : Hp} {E : XK} {us : List Value} {vs : List V}
  (S : Jn N ps scope) (hd : A.handled = none) (e0 : Env0 P w K mg base A outer s H) (hl : vs.length = ps.length) (r : Vals vs us)
  (x : InCallC s s.heap.objs.size (bindL (envOfC qual scope s.heap.objs.size f cd).kindOf (ps.zip us) fun _=>none) (cellsFrom (s.heap.objs.size + 1) scope.names []) (bindC (envOfC qual scope s.heap.objs.size f cd).kindOf (ps.zip us) fun _=>none) s1) :
  Inv (cxOf CX P w K mg base N qual scope f cd A outer s H E) [] (start N vs) H s1:=by
 have hpl : ps.length ≤ N.length:=by have:=congrArg List.length S.pre; rw [List.length_take] at this; omega
 obtain ⟨h1,tk,rfl,hk⟩:=x.done
 have noA : ∀ b : Addr,b ∉ (cxOf CX P w K mg base N qual scope f cd A outer s H E).ex:=fun b z=>absurd (show b ∈ ([] : List Addr) from z) (by simp)
 refine ⟨⟨e0.mod,S.kind,rfl,rfl,Nat.le_refl _,fun y z c h1 h2=>?_,fun y hy=>?_,fun y c _ h=>?_,fun _=>hd,Around.frames_deeper e0.frames,.inr ⟨rfl,rfl⟩,fun b z=>absurd z (noA b),e0.bs,e0.bsz,fun b _ _=>noA b,fun b z=>absurd z (noA b),e0.funs,e0.frf⟩,
  rfl,e0.bare,Un.kept hk,⟨_,x.toInCall.ns,fun i y v h1 h2 h3=>?_⟩,fun y c h=>⟨_,x.cell y c h⟩,e0.hok.fresh (Nat.le_refl _),fun y c h=>?_,fun p hp=>absurd (show p ∈ ([] : List (Addr × Obj)) from hp) (by simp),e0.hok.kept hk,?_⟩
 ·exact name_of_addr x.apart (PySem.mem_of_lookup h1) (PySem.mem_of_lookup h2)
 ·have hy : scope.names.lookup y = some .cell ∨ scope.names.lookup y = some .free:=hy
  rcases hy with hy | hy
  ·exact J8P hy
  ·exact absurd rfl (S.nofree _ (PySem.mem_of_lookup hy))
 ·exact Nat.le_of_lt (x.above y c (PySem.mem_of_lookup h))
 ·have hi : i < vs.length:=by
   unfold start at h2
   by_cases hi : i < vs.length
   ·exact hi
   ·rw [List.getElem?_append_right (by simpa using hi)] at h2
    rw [List.getElem?_replicate] at h2
    split at h2 <;> cases h2
  have ha : vs[i]? = some v:=by
   unfold start at h2
   rw [List.getElem?_append_left (by simpa using hi),List.getElem?_map] at h2
   cases e : vs[i]? with
   | none=>rw [e] at h2; cases h2
   | some a=>rw [e] at h2; cases h2; rfl
  obtain ⟨u,hu,rv⟩:=r.get ha
  have hp : ps[i]? = some y:=by
   rw [← S.pre,List.getElem?_take_of_lt (by omega)]; exact h1
  have ndP : ps.Nodup:=by rw [← S.pre]; exact S.nd.sublist (List.take_sublist _ _)
  refine ⟨u,rv,?_⟩
  rcases S.par y (List.mem_of_getElem? hp) with k | k
  ·exact .inl ⟨k,J73 ndP hp hu k⟩
  ·obtain ⟨c,e⟩:=J8P (n:=s.heap.objs.size + 1) k
   refine .inr ⟨.inl k,c,e,?_⟩
   have q:=x.cell y c e
   rw [J6R ndP hp hu (by show scope.names.lookup y ≠ _; rw [k]; decide)] at q
   exact q
 ·exact e0.hok.fresh (Nat.le_of_lt (x.above y c (PySem.mem_of_lookup h)))
 ·unfold start
  show _ = N.length
  rw [List.length_append,List.length_map,List.length_replicate]
  omega
theorem Jec {CX : CXT} {P : Program} {w : World} {K : PySem.W.Frag} {mg : Str → Option Value} {base : Heap} {k : Nat} {f : Addr} {name qual : Str} {params : Arguments} {body : List Stmt} {scope : Scope} {dV kV doc pm cdv ct oc : Value} {an od : Option Addr}
  {osl : Array (Option Value)} {N ps : List Str} {sp : Sp} (lk : K.lookup f = some ⟨oc,od,.func (PySem.W.fnOf name qual params body scope dV kV doc pm an cdv ct),osl⟩) (hcd : PySem.W.codeIn K cdv qual = true) (S : Jn N ps scope)
  (len : ∀ vs H Q E,sp vs H Q E → vs.length = ps.length)
  (hbody : ∀ (A : Around) (outer : List Env) (s : Shared) (H : Hp) (vs : List V) (Q : VK) (E : XK),Room k (A.deeper (envOfC qual scope s.heap.objs.size f cdv)) → sp vs H Q E →
   ∃ t,PSs (cxOf CX P w K mg base N qual scope f cdv A outer s H E) body t ∧ t { nx:=fun _ H'=>Q .non H',rt:=Q } (start N vs) H) :
  FnOk P w K mg base CX (k + 1) f (PySem.W.fnOf name qual params body scope dV kV doc pm an cdv ct) ps sp:=by
 refine ⟨len,fun A outer s H args us vs Q E hr e0 hb r hsp=>?_⟩
 have hl:=len _ _ _ _ hsp
 have KX : K.In s.heap:=e0.mod.kin.keeps fun b o e=>(e0.bs b o e).1
 have lim : s.heap.NoLimit:=e0.mod.nolimit.keeps fun b o e=>(e0.bs b o e).1
 have hkind : ∀ y ∈ ps.zip us,scope.names.lookup y.1 = some .local ∨ (scope.names.lookup y.1 = some .cell ∧ ((cellsFrom (s.heap.objs.size + 1) scope.names []).lookup y.1).isSome = true):=fun ⟨n,v⟩ hy=>by
  rcases S.par n (List.of_mem_zip hy).1 with q | q
  ·exact .inl q
  ·exact .inr ⟨q,PySem.W.cellsFrom_some _ _ _ (.inl q)⟩
 refine codeAny_call_function hr.depth (KX _ _ lk) rfl S.co S.gen rfl (PySem.W.codeRec_of KX hcd) (hb _ _ _ _ ?_)
 refine wpAny_newFunctionEnv_cells S.kind hkind fun env he s1 x=>?_
 subst he
 refine ⟨lim.keeps x.toInCall.keep,codeAny_func ?_⟩
 obtain ⟨t,ht,hq⟩:=hbody A outer s H vs Q E (hr.deeper _) hsp
 have I : Inv (cxOf CX P w K mg base N qual scope f cdv A outer s H E) [] (start N vs) H s1:=Ja8 S hr.hd e0 hl r x
 refine wpAny_mono (ht [] s1 (start N vs) H _ I hq) (fun fl s' hs=>?_) fun e s' hs=>hs
 have fin : ∀ {σ' : St} {H' : Hp} {v : V} {u : Value},Inv (cxOf CX P w K mg base N qual scope f cdv A outer s H E) [] σ' H' s' → RelV v u → Q v H' → CE outer P w H s Q u s' :=
  fun {σ' H' v u} J rv q=>⟨v,H',J.os,J.bare,J.base,J.hok,rv,q⟩
 cases fl with
 | ret u =>
  obtain ⟨v,σ',H',J,rv,q⟩:=hs
  exact fin J rv q
 | next =>
  obtain ⟨σ',H',J,q⟩:=hs
  exact fin (v:=V.non) (u:=Value.none) J rfl q
 | brk =>
  obtain ⟨_,_,_,q⟩:=hs
  exact False.elim q
 | cont =>
  obtain ⟨_,_,_,q⟩:=hs
  exact False.elim q
end L2
namespace L2
open PySem PySem.Spec PyProof.Rows
section
variable {X : Cx} {x : Str} {p pos : Pos} {e : Expr} {es : List Expr} {t : TA} {id T : String} {r : List V → Hp → VK → Prop}
noncomputable def tCB (r : List V → Hp → VK → Prop) (t : TA) : TE:=fun σ H Q=>t σ H fun vs H1=>r vs H1 Q
theorem Jv (hc : J1p X (.builtin id) r) (hg : Gl X x) (hm : X.mg x = none) (hv : bootBuiltins x = some (.builtin id)) (ha : PA X (e :: es) t) (hn : x ≠ "__name__":=by decide) (hdb : (x == ("__debug__" : Str)) = false:=by decide)
  (he : starEach (e :: es) X.env = (false,eval e X.env) :: starEach es X.env:=by rfl) (hpl : (backTo pos (starEach es X.env)).any (·.1) = false:=by rfl) : PE X (.Call (.Name x p) (e :: es) [] pos) (tCB r t):=by
 intro pins s σ H Q I h
 refine wpAny_Call_Name_kw (J2q I hg hm hv ?_ hn hdb)
 exact PyProof.Rows.callWith_builtin1 (thn (ha pos pins s σ H _ I h) fun us s1 ⟨vs,H1,I1,r1,q1⟩=>hc pins s1 σ H1 vs us Q I1 r1 q1) he hpl
theorem JQ (hc : J1p X (.type T) r) (hg : Gl X x) (hm : X.mg x = none) (hv : bootBuiltins x = some (.type T)) (ha : PA X (e :: es) t) (hn : x ≠ "__name__":=by decide) (hdb : (x == ("__debug__" : Str)) = false:=by decide)
  (he : starEach (e :: es) X.env = (false,eval e X.env) :: starEach es X.env:=by rfl) (hpl : (backTo pos (starEach es X.env)).any (·.1) = false:=by rfl) : PE X (.Call (.Name x p) (e :: es) [] pos) (tCB r t):=by
 intro pins s σ H Q I h
 refine wpAny_Call_Name_kw (J2q I hg hm hv ?_ hn hdb)
 exact PyProof.Rows.callWith_type1 (thn (ha pos pins s σ H _ I h) fun us s1 ⟨vs,H1,I1,r1,q1⟩=>hc pins s1 σ H1 vs us Q I1 r1 q1) he hpl
end
end L2
namespace HT
open PySem PyProof.Rows
section
open PySem.SeqAt
open PySem.AutoSeq1 (wpAny_loadPart')
open PySem.MeetsSeq PySem.MeetsSeq2 PySem.MeetsSeq3
end
section
variable {prog : Program} {w : World} {A : Around} {E : Value → Shared → Prop} {s : Shared}
noncomputable def sIx (n d : Nat) : Option Int → Nat
 | none=>d
 | some v=>if v < 0 then (v + (n : Int)).toNat else min v.toNat n
end
end HT
namespace L2
open PySem PySem.Spec PyProof.Rows
noncomputable abbrev TO:=St → Hp → (Option Int → Hp → Prop) → Prop
noncomputable def PO (X : Cx) (e : Option Expr) (t : TO) : Prop :=
 ∀ (pins : List (Addr × Obj)) (s : Shared) (σ : St) (H : Hp) (Q : Option Int → Hp → Prop),Inv X pins σ H s → t σ H Q →
  wpAny (model X.prog X.w) X.A (evalPart e X.env) (fun u s'=>∃ o H',Inv X pins σ H' s' ∧ IsPart u o ∧ Q o H') X.xe s
noncomputable def Jcg : TO:=fun _ H Q=>Q none H
noncomputable def Jei (t : TE) : TO:=fun σ H Q=>t σ H fun x H1=>∃ i,x = .int i ∧ Q (some i) H1
section
variable {X : Cx} {e : Expr} {te : TE} {lo hi : Option Expr} {tl th : TO} {pos p2 : Pos}
theorem Jcs : PO X none Jcg:=by
 intro pins s σ H Q I h
 rw [evalPart_none]
 exact wpAny_pure ⟨none,H,I,.none,h⟩
theorem Jco (h : PE X e te) : PO X (some e) (Jei te):=by
 intro pins s σ H Q I hw
 rw [evalPart_some]
 refine thn (h pins s σ H _ I hw) fun u s1 ⟨x,H1,I1,r1,q1⟩=>?_
 obtain ⟨i,rfl,q⟩:=q1
 obtain ⟨t,rfl⟩:=r1
 exact ⟨some i,H1,I1,.int i t,q⟩
noncomputable def SlR (X : Cx) (r : V → Option Int → Option Int → Hp → VK → Prop) : Prop :=
 ∀ (pins : List (Addr × Obj)) (s : Shared) (σ : St) (H : Hp) (x : V) (v vl vu : Value) (lo hi : Option Int) (sl : Addr) (Q : VK),Inv X pins σ H s → RelV x v → s.heap.IsSliceOf sl vl vu .none → IsPart vl lo → IsPart vu hi → r x lo hi H Q →
  ∃ T id,typeLookup (.type T) "__getitem__" = pure (some (.builtin id)) ∧ s.TypeIs v T ∧ wpAny (model X.prog X.w) X.A (getItem v (.ref sl)) (EP X pins σ Q) X.xe s
noncomputable def tSl (r : V → Option Int → Option Int → Hp → VK → Prop) (te : TE) (tl th : TO) : TE:=fun σ H Q=>te σ H fun x H1=>tl σ H1 fun l H2=>th σ H2 fun u H3=>r x l u H3 Q
theorem Jb2 {r : V → Option Int → Option Int → Hp → VK → Prop} (hr : SlR X r) (he : PE X e te) (hl : PO X lo tl) (hu : PO X hi th) : PE X (.Subscript e (.Slice lo hi none p2) pos) (tSl r te tl th):=by
 intro pins s σ H Q I h
 refine Subscript_ (thn (he pins s σ H _ I h) fun v s1 ⟨x,H1,I1,r1,q1⟩=>?_)
 refine wpAny_Slice (thn (hl pins s1 σ H1 _ I1 q1) fun vl s2 ⟨l,H2,I2,pl,q2⟩=>thn (hu pins s2 σ H2 _ I2 q2) fun vu s3 ⟨u,H3,I3,pu,q3⟩=>?_)
 rw [evalPart_none]
 refine wpAny_pure ?_
 have I4 : Inv X pins σ H3 { s3 with heap:=s3.heap.push { cls:=.type "slice",data:=.fields #[vl,vu,.none] } }:=I3.kept (t':=s3.toks) fun b ob q=>Heap.get?_push_of_some _ q
 obtain ⟨T,id,hT,ht,hg⟩:=hr pins { s3 with heap:=s3.heap.push { cls:=.type "slice",data:=.fields #[vl,vu,.none] } } σ H3 x v vl vu l u s3.heap.objs.size Q I4 r1 (Heap.IsSliceOf.new ..) pl pu q3
 show wpAny (model X.prog X.w) X.A (subscriptTail e (.Slice lo hi none p2) v (.ref s3.heap.objs.size)) (EP X pins σ Q) X.xe { s3 with heap:=s3.heap.push { cls:=.type "slice",data:=.fields #[vl,vu,.none] } }
 exact tail_any (ops:=[.ref s3.heap.objs.size,v]) ht hT hg (by with_unfolding_all rfl)
noncomputable def cutV (xs : List V) (lo hi : Option Int) : List V:=(xs.drop (HT.sIx xs.length 0 lo)).take (HT.sIx xs.length xs.length hi - HT.sIx xs.length 0 lo)
theorem J8U (xs : List V) (lo hi : Option Int) : (cutV xs lo hi).length ≤ xs.length:=by
 unfold cutV
 rw [List.length_take,List.length_drop]
 omega
end
end L2
namespace L2
open PySem PySem.Spec PyProof.Rows
noncomputable def ixN (n : Nat) (i : Int) : Option Nat:=if 0 ≤ i then (if i < n then some i.toNat else none) else if -(n : Int) ≤ i then some (i + n).toNat else none
noncomputable def atI {α : Type} (xs : List α) (i : Int) : Option α:=(ixN xs.length i).bind fun j=>xs[j]?
theorem Jcr {n : Nat} {i : Int} {j : Nat} (h : ixN n i = some j) : seqIndex? i n = some j ∧ j < n ∧ -(n : Int) ≤ i ∧ i < n:=by
 unfold ixN at h
 by_cases h0 : 0 ≤ i
 ·rw [if_pos h0] at h
  by_cases h1 : i < n
  ·rw [if_pos h1] at h
   have e : i.toNat = j:=Option.some.inj h
   exact ⟨by rw [seqIndex_of h0 h1,e],by omega,by omega,h1⟩
  ·rw [if_neg h1] at h; cases h
 ·rw [if_neg h0] at h
  by_cases h1 : -(n : Int) ≤ i
  ·rw [if_pos h1] at h
   have e : (i + n).toNat = j:=Option.some.inj h
   exact ⟨by rw [seqIndex_neg (by omega) h1,e],by omega,h1,by omega⟩
  ·rw [if_neg h1] at h; cases h
theorem J85 {α : Type} {xs : List α} {i : Int} {v : α} (h : atI xs i = some v) : ∃ j,seqIndex? i xs.length = some j ∧ xs[j]? = some v ∧ j < xs.length ∧ -(xs.length : Int) ≤ i ∧ i < xs.length:=by
 unfold atI at h
 cases e : ixN xs.length i with
 | none=>rw [e] at h; cases h
 | some j =>
  rw [e] at h
  obtain ⟨h1,h2,h3,h4⟩:=Jcr e
  exact ⟨j,h1,h,h2,h3,h4⟩
theorem J2D {α : Type} {xs : List α} {j : Nat} {v : α} (h : xs[j]? = some v) : atI xs (j : Int) = some v:=by
 have hj : j < xs.length:=(List.getElem?_eq_some_iff.mp h).1
 have e : ixN xs.length (j : Int) = some j:=by
  unfold ixN
  rw [if_pos (by omega),if_pos (by omega)]; simp
 unfold atI; rw [e]; exact h
noncomputable def Jcv (b : Expr) : Prop:=∀ o i,subscripted b false o i = operate [o,i] (getItem o i)
noncomputable def IxR (X : Cx) (r : R2) : Prop :=
 ∀ (value slice : Expr) (pins : List (Addr × Obj)) (s : Shared) (σ : St) (H : Hp) (x y : V) (v u : Value) (Q : VK),Inv X pins σ H s → RelV x v → RelV y u → r x y H Q →
  subscripted slice false v u = operate [v,u] (getItem v u) → wpAny (model X.prog X.w) X.A (subscriptTail value slice v u) (EP X pins σ Q) X.xe s
noncomputable def MtR (X : Cx) (id : String) (r : V → List V → Hp → VK → Prop) : Prop :=
 ∀ (pins : List (Addr × Obj)) (s : Shared) (σ : St) (H : Hp) (x : V) (xs : List V) (v : Value) (us : List Value) (Q : VK),Inv X pins σ H s → RelV x v → Vals xs us → r x xs H Q →
  wpAny (model X.prog X.w) X.A (call (.builtin id) (v :: us)) (EP X pins σ Q) X.xe s
section
variable {X : Cx} {a b : Expr} {ta tb : TE} {pos : Pos}
theorem JG {r : R2} (hr : IxR X r) (ha : PE X a ta) (hb : PE X b tb) (hs : Jcv b) : PE X (.Subscript a b pos) (tOp r ta tb):=by
 intro pins s σ H Q I h
 exact Subscript_ (binT ha hb I h fun v u s2 x y H2 I2 rx ry q=>hr a b pins s2 σ H2 x y v u Q I2 rx ry q (hs _ _))
noncomputable def rIxL (K : PySem.W.Frag) : R2:=fun x y H Q=>∃ p xs i v,x = .ref p ∧ y = .int i ∧ SqL K H p xs ∧ atI xs i = some v ∧ Q v H
noncomputable def rIxT (K : PySem.W.Frag) : R2:=fun x y H Q=>∃ p xs i v,x = .ref p ∧ y = .int i ∧ SqT K H p xs ∧ atI xs i = some v ∧ Q v H
noncomputable def rIxS : R2:=fun x y H Q=>∃ z i c,x = .str z ∧ y = .int i ∧ z.length ≤ sizeLine ∧ atI z.cps.toList i = some c ∧ Q (.str ⟨#[c]⟩) H
theorem Jcq : IxR X (rIxL X.K):=by
 intro value slice pins s σ H x y v u Q I rx ry h hs
 obtain ⟨p,xs,i,z,rfl,rfl,hq,he,q⟩:=h
 cases rx
 obtain ⟨t,rfl⟩:=ry
 obtain ⟨its,r,pl,hz⟩:=I.list hq
 obtain ⟨j,h1,h2,h3,h4,h5⟩:=J85 he
 obtain ⟨w,ew,rw'⟩:=r.get h2
 have hl:=r.length
 have hn:=J4N
 have fin : EP X pins σ Q w s:=⟨z,H,I,rw',q⟩
 by_cases h0 : 0 ≤ i
 ·have hj : i.toNat = j:=by
   rw [seqIndex_of h0 h5] at h1
   exact Option.some.inj h1
  exact item_listR pl.isList h0 (by omega) (by rw [hj]; simpa using ew) fin hs
 ·have hj : (i + (its.toArray.size : Int)).toNat = j:=by
   rw [seqIndex_neg (by omega) h4] at h1
   rw [List.size_toArray,← hl]
   exact Option.some.inj h1
  exact subscriptTail_builtinR (x:=w) pl.isList.typeIs slot_list_getitem.lookup
   (wpAny_getItem_list_neg (Q:=fun r s'=>r = w ∧ EP X pins σ Q r s') pl.isList (by omega) (by rw [List.size_toArray] <;> omega) (by omega) (by rw [hj]; simpa using ew) ⟨rfl,fin⟩) hs
theorem Jdh : IxR X (rIxT X.K):=by
 intro value slice pins s σ H x y v u Q I rx ry h hs
 obtain ⟨p,xs,i,z,rfl,rfl,hq,he,q⟩:=h
 cases rx
 obtain ⟨t,rfl⟩:=ry
 obtain ⟨its,r,pl,hz⟩:=I.tuple hq
 obtain ⟨j,h1,h2,h3,h4,h5⟩:=J85 he
 obtain ⟨w,ew,rw'⟩:=r.get h2
 have hl:=r.length
 have hn:=J4N
 have fin : EP X pins σ Q w s:=⟨z,H,I,rw',q⟩
 exact subscriptTail_builtinR (x:=w) pl.typeIs slot_tuple_getitem.lookup
  (getItem_tuple (j:=j) (Q:=fun r s'=>r = w ∧ EP X pins σ Q r s') pl (by omega) (by omega) (by rw [List.size_toArray,← hl]; exact h1) (by simpa using ew) ⟨rfl,fin⟩) hs
theorem Jdr : IxR X rIxS:=by
 intro value slice pins s σ H x y v u Q I rx ry h hs
 obtain ⟨z,i,c,rfl,rfl,hz,he,q⟩:=h
 obtain ⟨t,rfl⟩:=rx
 obtain ⟨t',rfl⟩:=ry
 obtain ⟨j,h1,h2,h3,h4,h5⟩:=J85 he
 have hl : z.cps.toList.length = z.length:=by simp [Str.length]
 rw [hl] at h1 h4 h5
 have hn:=J4N
 exact tail_any (typeIs_str s z t) slot_str_getitem.lookup (getItem_str (c:=c) (by
  have e1 : decide (i < -(2 ^ 63 : Int)) = false:=decide_eq_false (by omega)
  have e2 : decide (i ≥ 2 ^ 63) = false:=decide_eq_false (by omega)
  rw [e1,e2,Bool.or_false]) (by rw [h1]; simpa using h2) ⟨.str ⟨#[c]⟩,H,I.tok _,⟨_,rfl⟩,q⟩) hs
theorem J81 (lo hi : Option Int) (n : Nat) : (sliceBounds lo hi none n).1 = ((HT.sIx n 0 lo : Nat) : Int) ∧ (sliceBounds lo hi none n).2.1 = ((HT.sIx n n hi : Nat) : Int) ∧ (sliceBounds lo hi none n).2.2 = 1:=by
 refine ⟨?_,?_,rfl⟩
 ·cases lo with
  | none=>simp [sliceBounds,HT.sIx]
  | some i =>
   simp only [sliceBounds,HT.sIx,Option.getD_none,show (1 : Int) > 0 by decide,if_true]
   by_cases h : i < 0
   ·simp only [h,if_true] <;> omega
   ·simp only [h,if_false] <;> omega
 ·cases hi with
  | none=>simp [sliceBounds,HT.sIx]
  | some i =>
   simp only [sliceBounds,HT.sIx,Option.getD_none,show (1 : Int) > 0 by decide,if_true]
   by_cases h : i < 0
   ·simp only [h,if_true] <;> omega
   ·simp only [h,if_false] <;> omega
theorem J6F (its : List Value) (lo hi : Option Int) : slicePick its.toArray lo hi none = ((its.drop (HT.sIx its.length 0 lo)).take (HT.sIx its.length its.length hi - HT.sIx its.length 0 lo)).toArray:=by
 obtain ⟨h1,h2,h3⟩:=J81 lo hi its.toArray.size
 unfold slicePick
 rw [h1,h2,h3]
 simp only [sliceRange_one,pick_run,List.size_toArray] <;> rfl
noncomputable def rSlL (K : PySem.W.Frag) : V → Option Int → Option Int → Hp → VK → Prop:=fun x lo hi H Q=>∃ a xs,x = .ref a ∧ SqL K H a xs ∧ ∀ p,H p = none → Q (.ref p) (upd H p (.lst (cutV xs lo hi)))
theorem Jcl : SlR X (rSlL X.K):=by
 intro pins s σ H x v vl vu lo hi sl Q I rx hs pl pu h
 obtain ⟨a,xs,rfl,hx,q⟩:=h
 cases rx
 obtain ⟨its,r,ht,hz⟩:=I.list hx
 have hlen:=r.length
 refine ⟨"list",_,slot_list_getitem.lookup,ht.isList.typeIs,?_⟩
 refine wpAny_getItem_list_slice ht.isList hs pl pu .none (by simp) ?_ (by rw [List.size_toArray] <;> omega)
 rw [J6F,← hlen]
 refine ⟨.ref s.heap.objs.size,_,I.laid (t':=s.toks) (o:=.lst (cutV xs lo hi)) (fun b ob q=>Heap.get?_push_of_some _ q) (Nat.le_refl _) ?_,rfl,q _ (I.hok.fresh (Nat.le_refl _))⟩
 exact ⟨Nat.le_trans (J8U xs lo hi) hz,_,0,(r.drop (HT.sIx xs.length 0 lo)).take (HT.sIx xs.length xs.length hi - HT.sIx xs.length 0 lo),Heap.get?_push_size _ rfl⟩
noncomputable def J1D : V → Bool
 | .non=>true
 | .bl _=>true
 | .int _=>true
 | .str _=>true
 | _=>false
noncomputable def eqV : V → V → Bool
 | .non,.non=>true
 | .bl a,.bl b=>a == b
 | .bl a,.int b=>(if a then 1 else 0) == b
 | .int a,.bl b=>a == (if b then 1 else 0)
 | .int a,.int b=>a == b
 | .str a,.str b=>a == b
 | _,_=>false
theorem J9d {A : Around} {s : Shared} {y x : V} {u v : Value} (ry : RelV y u) (rx : RelV x v) (fy : J1D y = true) (fx : J1D x = true) : SeqAt.EqAt A s u v (eqV y x):=by
 cases y with
 | non =>
  cases ry
  cases x with
  | non=>cases rx; exact SeqAt.EqAt.same _
  | bl b=>cases rx; exact SeqAt.EqAt.none_bool b
  | int b=>obtain ⟨t,rfl⟩:=rx; exact SeqAt.EqAt.none_int b t
  | str b=>obtain ⟨t,rfl⟩:=rx; exact SeqAt.EqAt.none_str b t
  | _=>exact absurd (show false = true from fx) Bool.false_ne_true
 | bl a =>
  cases ry
  cases x with
  | non=>cases rx; exact SeqAt.EqAt.bool_none a
  | bl b=>cases rx; exact SeqAt.EqAt.bool_bool a b
  | int b=>obtain ⟨t,rfl⟩:=rx; exact SeqAt.EqAt.bool_int a b t
  | str b=>obtain ⟨t,rfl⟩:=rx; exact SeqAt.EqAt.bool_str a b t
  | _=>exact absurd (show false = true from fx) Bool.false_ne_true
 | int a =>
  obtain ⟨t',rfl⟩:=ry
  cases x with
  | non=>cases rx; exact SeqAt.EqAt.int_none a t'
  | bl b=>cases rx; exact SeqAt.EqAt.int_bool a t' b
  | int b=>obtain ⟨t,rfl⟩:=rx; exact SeqAt.EqAt.int_int a t' b t
  | str b=>obtain ⟨t,rfl⟩:=rx; exact SeqAt.EqAt.int_str a t' b t
  | _=>exact absurd (show false = true from fx) Bool.false_ne_true
 | str a =>
  obtain ⟨t',rfl⟩:=ry
  cases x with
  | non=>cases rx; exact SeqAt.EqAt.str_none a t'
  | bl b=>cases rx; exact SeqAt.EqAt.str_bool a t' b
  | int b=>obtain ⟨t,rfl⟩:=rx; exact SeqAt.EqAt.str_int a t' b t
  | str b=>obtain ⟨t,rfl⟩:=rx; exact SeqAt.EqAt.str_str a t' b t
  | _=>exact absurd (show false = true from fx) Bool.false_ne_true
 | _=>exact absurd (show false = true from fy) Bool.false_ne_true
noncomputable def eqU (x : V) (u : Value) : Bool:=match u with
 | .none=>eqV .non x
 | .bool b=>eqV (.bl b) x
 | .int i _=>eqV (.int i) x
 | .str z _=>eqV (.str z) x
 | _=>false
theorem Jbg {x y : V} {u : Value} (r : RelV y u) (f : J1D y = true) : eqU x u = eqV y x:=by
 cases y with
 | non=>cases r; rfl
 | bl b=>cases r; rfl
 | int i=>obtain ⟨t,rfl⟩:=r; rfl
 | str z=>obtain ⟨t,rfl⟩:=r; rfl
 | _=>exact absurd (show false = true from f) Bool.false_ne_true
theorem J7Z {x : V} : ∀ {xs : List V} {us : List Value},Vals xs us → xs.all J1D = true → us.any (eqU x) = xs.any fun y=>eqV y x
 | _,_,.nil,_=>rfl
 | y :: xs,u :: us,.cons r t,f=>by
  rw [List.all_cons,Bool.and_eq_true] at f
  rw [List.any_cons,List.any_cons,Jbg r f.1,J7Z t f.2]
theorem J6c {A : Around} {s : Shared} {x : V} {v : Value} (rx : RelV x v) (fx : J1D x = true) : ∀ {xs : List V} {us : List Value},Vals xs us → xs.all J1D = true → ∀ u ∈ us,SeqAt.EqAt A s u v (eqU x u)
 | _,_,.nil,_=>fun u hu=>by cases hu
 | y :: xs,u :: us,.cons r t,f=>fun u' hu=>by
  rw [List.all_cons,Bool.and_eq_true] at f
  rcases List.mem_cons.mp hu with rfl | hu
  ·rw [Jbg r f.1]; exact J9d r rx f.1 fx
  ·exact J6c rx fx t f.2 u' hu
noncomputable def inV (x : V) (xs : List V) : Bool:=xs.any fun y=>eqV y x
noncomputable def rIn (K : PySem.W.Frag) (neg : Bool) : R2:=fun x y H Q=>∃ p xs,y = .ref p ∧ (SqL K H p xs ∨ SqT K H p xs) ∧ J1D x = true ∧ xs.all J1D = true ∧ Q (.bl (if neg then !inV x xs else inV x xs)) H
theorem J7R : OpR X (compareOp .NotIn) (rIn X.K true):=by
 intro pins s σ H x y v u Q I rx ry h
 obtain ⟨p,xs,rfl,hq,fx,fs,q⟩:=h
 cases ry
 rcases hq with hq | hq
 ·obtain ⟨its,r,pl,hz⟩:=I.list hq
  refine SeqAt.notIn_listAt (eqU x) pl.isList (fun w hw=>J6c rx fx r fs w (by simpa using hw)) ⟨.bl _,H,I,rfl,?_⟩
  rw [show its.toArray.any (eqU x) = its.any (eqU x) by simp,J7Z r fs]
  exact q
 ·obtain ⟨its,r,pl,hz⟩:=I.tuple hq
  refine SeqAt.notIn_tupleAt (eqU x) pl (fun w hw=>J6c rx fx r fs w (by simpa using hw)) ⟨.bl _,H,I,rfl,?_⟩
  rw [show its.toArray.any (eqU x) = its.any (eqU x) by simp,J7Z r fs]
  exact q
theorem J7T : J1p X (.builtin "len") (fun xs H Q=>∃ p ys,xs = [.ref p] ∧ (SqL X.K H p ys ∨ SqT X.K H p ys) ∧ Q (.int ys.length) H):=by
 intro pins s σ H xs us Q I r h
 obtain ⟨p,ys,rfl,hq,q⟩:=h
 obtain ⟨u,rfl,rx⟩:=J4D r
 cases rx
 have hn:=J4N
 rcases hq with hq | hq
 ·obtain ⟨its,r',pl,hz⟩:=I.list hq
  have hlen:=r'.length
  exact Calls.call_len_list pl.isList (by simp only [List.size_toArray] <;> omega) ⟨.int ys.length,H,I.tok _,⟨s.toks + 1,by rw [List.size_toArray,hlen]⟩,q⟩
 ·obtain ⟨its,r',pl,hz⟩:=I.tuple hq
  have hlen:=r'.length
  exact len_tuple pl (by simp only [List.size_toArray] <;> omega) ⟨.int ys.length,H,I.tok _,⟨s.toks + 1,by rw [List.size_toArray,hlen]⟩,q⟩
theorem J7S : J1p X (.builtin "len") (fun xs H Q=>∃ z,xs = [.str z] ∧ z.length ≤ sizeLine ∧ Q (.int z.length) H):=by
 intro pins s σ H xs us Q I r h
 obtain ⟨z,rfl,hz,q⟩:=h
 obtain ⟨u,rfl,t,rfl⟩:=J4D r
 have hn:=J4N
 exact len_str (by omega) ⟨.int z.length,H,I.tok _,⟨_,rfl⟩,q⟩
theorem J02 : J1p X (.type "list") (fun xs H Q=>∃ p ys,xs = [.ref p] ∧ (SqL X.K H p ys ∨ SqT X.K H p ys) ∧ ∀ l,H l = none → Q (.ref l) (upd H l (.lst ys))):=by
 intro pins s σ H xs us Q I r h
 obtain ⟨p,ys,rfl,hq,q⟩:=h
 obtain ⟨u,rfl,rx⟩:=J4D r
 cases rx
 have fin : ∀ (its : List Value),Vals ys its → ys.length ≤ sizeLine → ∀ (h' : Heap) (c' : Nat),(∀ b o',s.heap.get? b = some o' → h'.get? b = some o') →
   h'.get? s.heap.objs.size = some { cls:=.type "list",dict:=none,data:=.seq its.toArray c',slots:=#[] } → EP X pins σ Q (.ref s.heap.objs.size) { s with heap:=h' }:=fun its r' hz h' c' kp e =>
  ⟨.ref s.heap.objs.size,_,I.laid (t':=s.toks) kp (Nat.le_refl _) (show J07 X.prog X.w _ h' _ (.lst ys) from ⟨hz,its,c',r',e⟩),rfl,q _ (I.hok.fresh (Nat.le_refl _))⟩
 rcases hq with hq | hq
 ·obtain ⟨its,r',pl,hz⟩:=I.list hq
  have hlen:=r'.length
  obtain ⟨o,ho,hc,n,hd⟩:=pl.isList
  exact call_list_seq p (.inl rfl) ho hc hd (fun h' c' kp e=>fin its r' hz h' c' kp e) (by simp only [List.size_toArray] <;> omega)
 ·obtain ⟨its,r',pl,hz⟩:=I.tuple hq
  have hlen:=r'.length
  obtain ⟨o,ho,hc,n,hd⟩:=pl
  exact call_list_seq p (.inr rfl) ho hc hd (fun h' c' kp e=>fin its r' hz h' c' kp e) (by simp only [List.size_toArray] <;> omega)
theorem J6G : J1p X (.type "tuple") (fun xs H Q=>∃ p ys,xs = [.ref p] ∧ ((SqL X.K H p ys ∧ ∀ l,H l = none → Q (.ref l) (upd H l (.tup ys))) ∨ (SqT X.K H p ys ∧ Q (.ref p) H))):=by
 intro pins s σ H xs us Q I r h
 obtain ⟨p,ys,rfl,h⟩:=h
 obtain ⟨u,rfl,rx⟩:=J4D r
 cases rx
 rcases h with ⟨hq,q⟩ | ⟨hq,q⟩
 ·obtain ⟨its,r',pl,hz⟩:=I.list hq
  have hlen:=r'.length
  refine call_tuple_list pl.isList (fun h' kp=>?_) (by simp only [List.size_toArray] <;> omega)
  have I1 : Inv X pins σ H { s with heap:=h' }:=I.kept (t':=s.toks) kp
  have I2 : Inv X pins σ (upd H h'.objs.size (.tup ys)) { s with heap:=h'.push { cls:=.type "tuple",data:=.seq its.toArray } } :=
   I1.laid (t':=s.toks) (fun b o e=>Heap.get?_push_of_some _ e) (Nat.le_refl _) (show J07 X.prog X.w _ _ _ (.tup ys) from ⟨hz,its,r',IsTup.new _ _⟩)
  exact ⟨.ref h'.objs.size,_,I2,rfl,q _ (I1.hok.fresh (Nat.le_refl _))⟩
 ·obtain ⟨its,r',pl,hz⟩:=I.tuple hq
  exact call_tuple_same pl ⟨.ref p,H,I,rfl,q⟩
noncomputable def tyV (K : PySem.W.Frag) (T : String) (x : V) (H : Hp) : Prop:=match x with
 | .str _=>T = "str"
 | .int _=>T = "int"
 | .ref p=>(T = "list" ∧ ∃ xs,SqL K H p xs) ∨ (T = "tuple" ∧ ∃ o,K.lookup p = some o ∧ o.cls = .type "tuple" ∧ o.dict = none) ∨
   (T = "dict" ∧ ((∃ kvs,H p = some (.dK kvs)) ∨ ∃ kvs,H p = some (.dT kvs))) ∨ (T = "set" ∧ ∃ S n,H p = some (.set S n))
 | _=>False
theorem Jdv {pins : List (Addr × Obj)} {σ : St} {H : Hp} {s : Shared} {T : String} {x : V} {v : Value} (I : Inv X pins σ H s) (r : RelV x v) (ty : tyV X.K T x H) :
  s.TypeIs v T ∧ ∀ a,v = .ref a → ∃ ob,s.heap.get? a = some ob ∧ ob.dict = none:=by
 cases x with
 | str z =>
  obtain ⟨t,rfl⟩:=r
  cases (show T = "str" from ty)
  exact ⟨typeIs_str s z t,fun _ e=>nomatch e⟩
 | int i =>
  obtain ⟨t,rfl⟩:=r
  cases (show T = "int" from ty)
  exact ⟨typeIs_int s i t,fun _ e=>nomatch e⟩
 | ref p =>
  cases r
  rcases ty with ⟨rfl,xs,hq⟩ | ⟨rfl,o,hk,hc,hd⟩ | ⟨rfl,hk⟩ | ⟨rfl,S,n,hk⟩
  ·obtain ⟨its,_,pl,_⟩:=I.list hq
   refine ⟨pl.isList.typeIs,fun a e=>?_⟩
   cases e
   obtain ⟨o,n,e,c,hd,_⟩:=pl
   exact ⟨o,e,hd⟩
  ·refine ⟨⟨o,I.kIn p o hk,hc⟩,fun a e=>?_⟩
   cases e
   exact ⟨o,I.kIn _ o hk,hd⟩
  ·have z : ∃ o,s.heap.get? p = some o ∧ o.ExactDict:=by
    rcases hk with ⟨kvs,hk⟩ | ⟨kvs,hk⟩
    ·obtain ⟨_,_,_,_,o,_,_,e,ex,_⟩:=I.hok p _ hk
     exact ⟨o,e,ex⟩
    ·obtain ⟨_,_,_,_,o,_,_,e,ex,_⟩:=I.hok p _ hk
     exact ⟨o,e,ex⟩
   obtain ⟨o,e,ex⟩:=z
   refine ⟨⟨o,e,ex.1⟩,fun a e2=>?_⟩
   cases e2
   exact ⟨o,e,ex.2.1⟩
  ·obtain ⟨o,_,_,_,e,ex,_⟩:=I.hok p _ hk
   refine ⟨⟨o,e,ex.1⟩,fun a e2=>?_⟩
   cases e2
   exact ⟨o,e,ex.2.1⟩
 | _=>exact False.elim ty
noncomputable def tBM (K : PySem.W.Frag) (T : String) (r : V → List V → Hp → VK → Prop) (to : TE) (t : TA) : TE:=fun σ H Q=>to σ H fun x H1=>tyV K T x H1 ∧ t σ H1 fun xs H2=>r x xs H2 Q
variable {o e : Expr} {es : List Expr} {to : TE} {t : TA} {name : Str} {apos cpos : Pos} {T id : String} {r : V → List V → Hp → VK → Prop}
theorem J7c (pa : PlainAttrs T) (slot : Slot T name id) (hty : typeOf (.builtin id) = pure (.type "method_descriptor")) (hm : MtR X id r) (ho : PE X o to) (ha : PA X (e :: es) t)
  (hbase : attributeBase o name X.env (eval o X.env) = eval o X.env:=by rfl)
  (hfew : ((backTo cpos (starEach (e :: es) X.env)).all (fun x=>!x.1) && (backToKw cpos (keywordEach [] X.env)).all (fun x=>x.1.isSome)
   && decide ((e :: es).length + ([] : List Keyword).length + (if ([] : List Keyword).isEmpty then 0 else 1) < 30)) = true:=by rfl)
  (hline : (apos.endLine == cpos.line) = true:=by rfl) (hs : starEach (e :: es) X.env = (false,eval e X.env) :: starEach es X.env:=by rfl) (hplain : (backTo cpos (starEach es X.env)).any (·.1) = false:=by rfl) :
  PE X (.Call (.Attribute o name apos) (e :: es) [] cpos) (tBM X.K T r to t):=by
 intro pins s σ H Q I h
 refine wpAny_Call_method_late hbase hfew hline rfl (thn (ho pins s σ H _ I h) fun v s1 ⟨x,H1,I1,r1,ty,q1⟩=>?_)
 obtain ⟨h1,h2⟩:=Jdv I1 r1 ty
 refine ⟨T,id,pa,slot,hty,h1,h2,?_⟩
 have hA:=ha cpos pins s1 σ H1 _ I1 q1
 rw [hs] at hA ⊢
 refine Calls.callWith_builtin (by show (false || (backTo cpos (starEach es X.env)).any (·.1)) = false; rw [hplain] <;> rfl) (Calls.evalArgs_plain ?_)
 exact thn hA fun us s2 ⟨vs,H2,I2,r2,q2⟩=>hm pins s2 σ H2 x vs v us Q I2 r1 r2 q2
end
end L2
namespace L2
open PySem PySem.Spec PyProof.Rows
noncomputable def MtM (X : Cx) (id : String) (r : V → List V → Hp → VK → Prop) : Prop :=
 ∀ (pins : List (Addr × Obj)) (s : Shared) (σ : St) (H : Hp) (x : V) (xs : List V) (v : Value) (us : List Value) (Q : VK),Inv X pins σ H s → RelV x v → Vals xs us → r x xs H Q →
  wpAny (model X.prog X.w) X.A (call (.builtin id) (v :: us)) (EP X pins σ Q) X.xe s
theorem Vals.one : ∀ {x : V} {us : List Value},Vals [x] us → ∃ u,us = [u] ∧ RelV x u
 | _,_,.cons r .nil=>⟨_,rfl,r⟩
theorem Vals.two : ∀ {x y : V} {us : List Value},Vals [x,y] us → ∃ u v,us = [u,v] ∧ RelV x u ∧ RelV y v
 | _,_,_,.cons r (.cons q .nil)=>⟨_,_,rfl,r,q⟩
theorem Vals.rep {xs : List V} {us : List Value} (h : Vals xs us) : ∀ k : Nat,Vals (List.replicate k xs).flatten (List.replicate k us).flatten
 | 0=>.nil
 | k + 1=>by
  rw [List.replicate_succ,List.replicate_succ,List.flatten_cons,List.flatten_cons]
  exact Vals.append h (Vals.rep h k)
theorem J6S (its : List Value) : ∀ (k : Nat) (acc : List Value),
  List.foldl (fun x1 x2=>x1 ++ x2) acc.toArray (List.replicate k its.toArray) = (acc ++ (List.replicate k its).flatten).toArray
 | 0,acc=>by simp
 | k + 1,acc=>by
  have e : acc.toArray ++ its.toArray = (acc ++ its).toArray:=by simp
  have e2 : (acc ++ its) ++ (List.replicate k its).flatten = acc ++ (List.replicate (k + 1) its).flatten:=by
   rw [List.replicate_succ,List.flatten_cons,List.append_assoc]
  rw [← e2,← J6S its k (acc ++ its),← e,List.replicate_succ,List.foldl_cons]
section
variable {X : Cx} {pins : List (Addr × Obj)} {σ : St} {H : Hp} {s : Shared} {l b : Addr} {xs ys zs : List V}
theorem Inv.lset {its its' : List Value} {n : Nat} {f : Array Value → Array Value} {t' : Nat} (I : Inv X pins σ H s) (hH : H l = some (.lst xs))
  (e : s.heap.get? l = some { cls:=.type "list",data:=.seq its.toArray n }) (hf : f its.toArray = its'.toArray) (hv : Vals ys its') (hz : ys.length ≤ sizeLine) :
  Inv X pins σ (upd H l (.lst ys)) { s with heap:=s.heap.update l (Obj.mapSeq f),toks:=t' }:=by
 have q:=PySem.IsL.update e f
 rw [hf] at q
 refine I.write (x:=l) (e:=l) (by rw [hH]; exact trivial) (.inl rfl) (fun b' u hb hu=>(Heap.get?_update_other s.heap (Obj.mapSeq f) (Ne.symm hb)).trans hu) ⟨_,q⟩ ?_
 exact ⟨hz,its',_,hv,q⟩
theorem Inv.lnew {its : List Value} {t' : Nat} (I : Inv X pins σ H s) (hv : Vals ys its) (hz : ys.length ≤ sizeLine) :
  Inv X pins σ (upd H s.heap.objs.size (.lst ys)) { s with heap:=s.heap.push { cls:=.type "list",data:=.seq its.toArray },toks:=t' } :=
 I.laid (fun _ _ q=>Heap.get?_push_of_some _ q) (Nat.le_refl _) ⟨hz,its,0,hv,Heap.get?_push_size _ rfl⟩
theorem Inv.fresh (I : Inv X pins σ H s) : H s.heap.objs.size = none:=I.hok.fresh (Nat.le_refl _)
theorem Inv.lstM (I : Inv X pins σ H s) (hH : H l = some (.lst xs)) : xs.length ≤ sizeLine ∧ ∃ (its : List Value) (n : Nat),Vals xs its ∧ xs.length = its.length ∧ s.heap.get? l = some { cls:=.type "list",data:=.seq its.toArray n }:=by
 obtain ⟨z,its,n,r,e⟩:=I.hok l _ hH
 exact ⟨z,its,n,r,r.length,e⟩
theorem J8V {n : Nat} (h : n ≤ sizeLine) : Builtin.List.listTooLong n = false:=by
 unfold Builtin.List.listTooLong
 exact decide_eq_false (by omega)
end
section
variable {X : Cx}
noncomputable def Jcw : V → List V → Hp → VK → Prop:=fun x vs H Q=>∃ l xs y,x = .ref l ∧ vs = [y] ∧ H l = some (.lst xs) ∧ xs.length < sizeLine ∧ Q .non (upd H l (.lst (xs ++ [y])))
theorem J2i : MtM X "list.append" Jcw:=by
 intro pins s σ H x vs v us Q I rx rv h
 obtain ⟨l,xs,y,rfl,rfl,hH,hz,q⟩:=h
 cases rx
 obtain ⟨u,rfl,ru⟩:=rv.one
 obtain ⟨z,its,n,r,hl,e⟩:=I.lstM hH
 refine call_meets F.slot_list_append ⟨_,e,rfl⟩ F.entry_list_append (F.args_list_append_2 _ _) (PySem.list_append l its.toArray n u (by rw [List.size_toArray]; omega)) ⟨e,?_⟩
 refine ⟨.non,_,I.lset (its':=its ++ [u]) hH e (by simp) (r.append (.cons ru .nil)) ?_,rfl,q⟩
 rw [List.length_append,List.length_singleton]
 omega
noncomputable def rCat : R2:=fun x y H Q=>∃ l b xs zs,x = .ref l ∧ y = .ref b ∧ H l = some (.lst xs) ∧ H b = some (.lst zs) ∧ xs.length + zs.length ≤ sizeLine ∧ ∀ p,H p = none → Q (.ref p) (upd H p (.lst (xs ++ zs)))
theorem Jdq : OpR X (binaryOp .Add) rCat:=by
 intro pins s σ H x y v u Q I rx ry h
 obtain ⟨l,b,xs,zs,rfl,rfl,hH,hB,hz,q⟩:=h
 cases rx
 cases ry
 obtain ⟨z,its,n,r,hl,e⟩:=I.lstM hH
 obtain ⟨z2,its2,n2,r2,hl2,e2⟩:=I.lstM hB
 refine PySem.P.add_list e e2 ?_ (by rw [List.size_toArray,List.size_toArray]; omega)
 have ea : its.toArray ++ its2.toArray = (its ++ its2).toArray:=by simp
 rw [ea]
 exact ⟨.ref _,_,I.lnew (t':=s.toks) (r.append r2) (by rw [List.length_append]; omega),rfl,q _ I.fresh⟩
noncomputable def rRep : R2:=fun x y H Q=>∃ l k xs,x = .ref l ∧ y = .int k ∧ H l = some (.lst xs) ∧ -(2 ^ 63) ≤ k ∧ k < 2 ^ 63 ∧ xs.length * k.toNat ≤ sizeLine ∧
 ∀ p,H p = none → Q (.ref p) (upd H p (.lst (List.replicate k.toNat xs).flatten))
theorem JcF {α : Type} (xs : List α) (k : Nat) : (List.replicate k xs).flatten.length = k * xs.length:=by
 induction k with
 | zero=>simp
 | succ k ih=>rw [List.replicate_succ,List.flatten_cons,List.length_append,ih,Nat.succ_mul,Nat.add_comm]
theorem JdX : OpR X (binaryOp .Mult) rRep:=by
 intro pins s σ H x y v u Q I rx ry h
 obtain ⟨l,k,xs,rfl,rfl,hH,h1,h2,hz,q⟩:=h
 cases rx
 obtain ⟨t,rfl⟩:=ry
 obtain ⟨z,its,n,r,hl,e⟩:=I.lstM hH
 have hlen : its.toArray.size * k.toNat ≤ sizeLine:=by rw [List.size_toArray,← hl]; exact hz
 have hcap : ¬ its.toArray.size * k.toNat > (2 ^ 63 - 1) / 8:=by
  have : (sizeLine : Nat) ≤ (2 ^ 63 - 1) / 8:=by decide
  omega
 have hfit : ¬ (!Builtin.List.listFitsIndex k) = true:=by
  rw [fitsIndex_both h1 h2]
  exact Bool.false_ne_true
 have hlong : ¬ Builtin.List.listTooLong (its.toArray.size * k.toNat) = true:=by
  rw [J8V hlen]
  exact Bool.false_ne_true
 have hnew : List.foldl (fun x1 x2=>x1 ++ x2) #[] (List.replicate (if its.toArray.isEmpty = true then 0 else k.toNat) its.toArray) = (List.replicate k.toNat its).flatten.toArray:=by
  have f0 : ∀ m : Nat,List.foldl (fun x1 x2=>x1 ++ x2) #[] (List.replicate m its.toArray) = (List.replicate m its).flatten.toArray:=fun m=>by
   have:=J6S its m []
   rw [List.nil_append] at this
   exact this
  rw [f0]
  cases its with
  | nil=>simp
  | cons a r'=>rw [if_neg (by simp)]
 refine wpAny_binaryOp_repeat_ref (T:="list") (U:="int") (by decide) ⟨_,e,rfl⟩ (fun s'=>typeIs_int s' k t) noFill_list_mul F.fills_int_mul F.slot_int_rmul repeat_list F.slot_int_index.lookup
  (call_meets F.slot_int_rmul (typeIs_int s k t) F.entry_int_rmul (F.args_int_rmul_2 _ _) (int___rmul___int_list k t l its.toArray n)
   ⟨e,rfl,⟨_,e,rfl⟩,call_meets F.slot_list_mul ⟨_,e,rfl⟩ F.entry_list_mul (F.args_list_mul_2 _ _) (AutoListH.list___mul___list_int_3 l its.toArray n k t hfit hcap hlong) ⟨e,?_⟩⟩)
 rw [hnew]
 exact ⟨.ref _,_,I.lnew (t':=s.toks) (r.rep k.toNat) (by rw [JcF,Nat.mul_comm]; exact hz),rfl,q _ I.fresh⟩
end
section
variable {prog : Program} {w : World} {A : Around} {E : Value → Shared → Prop} {s : Shared}
end
section
variable {X : Cx}
end
end L2
namespace Att
open PySem PySem.W PySem.Calls PyProof.Rows
theorem J57 {P : Params} {h : Heap} : ∀ (ns : List Int) (vs : List Value),WellAll P h vs (ns.map WData.int) → IntsAre vs ns:=by
 intro ns
 induction ns with
 | nil =>
  intro vs w
  rw [List.map_nil] at w
  cases w
  exact .nil
 | cons n ns ih =>
  intro vs w
  rw [List.map_cons] at w
  cases w with
  | cons a b =>
   cases a
   exact .cons _ _ (ih _ b)
theorem Ja4 {l : OpenLaw} {n : Nat} (hn : l.most = some n) {P : Params} {h : Heap} {args : List WData} {vals : List Value}
  (hpre : l.row.toRowW.claim.pre args = true) (hwl : WellAll P h vals args) :
  ∃ a vs ns,vals = [Value.ref a] ∧ args = [WData.list (ns.map WData.int)] ∧ h.get? a = some { cls:=.type "list",data:=.seq vs.toArray } ∧ IntsAre vs ns ∧ ns.length ≤ n:=by
 have hsh : WShape.hasAll [] args [.list .int] = true:=(pre_splitW hpre).1
 have hc : l.pre.holds [] { args:=args } = true:=(pre_splitW hpre).2
 obtain ⟨d,r,rfl,h1,h2⟩:=hasAllW_cons hsh
 obtain rfl:=hasAllW_nil h2
 obtain ⟨xs,rfl,h3⟩:=hasW_list h1
 obtain ⟨ns,rfl⟩:=items_int h3
 have hlen : ns.length ≤ n:=by
  unfold OpenLaw.pre at hc
  have h4 : (WTm.not (.lt (.lit (.int (n : Int))) (.len (.arg 0)))).holds [] { args:=[.list (ns.map .int)] } = true:=by
   have h4:=(holds_andW hc).1
   rw [hn] at h4
   exact h4
  have h5:=condW_of h4 (w_not (w_lt w_lit (w_len_list (w_arg rfl))))
  rw [List.length_map] at h5
  refine Nat.le_of_not_lt fun q=>?_
  have q' : (n : Int) < ((ns.length : Nat) : Int):=by omega
  first
   | (rw [decide_eq_true q'] at h5; exact absurd h5 (by decide))
   | (simp at h5; omega)
 cases hwl with
 | cons w1 w2 =>
  cases w2
  cases w1 with
  | list ho hall=>exact ⟨_,_,ns,rfl,rfl,ho,J57 ns _ hall,hlen⟩
theorem Jaa (l : OpenLaw) (args : List WData) : l.row.toRowW.claim.post args (.bool true) args = true :=
 postW_of (r:=l.row.toRowW) (X:=(true == true))
  (show WShape.has [] (.bool true) .bool = true by first | rfl | decide | simp [WShape.has,WShape.arms,WShape.armsAll])
  (show (WTm.eq .res (.lit (.bool true))).value [] { args:=args,res:=some (.bool true),after:=args } = some (.bool (true == true)) from w_eq_bool (w_res rfl) w_lit) rfl
theorem attach_call {l : OpenLaw} {n : Nat} {q : Program} {loose : List Str} {XP : (Str → Option Value) → Heap → Prop} {YP : World → Heap → Prop} {d : DefRec}
  (hn : l.most = some n) (hdf : d.params.defaults = [])
  (call : ∀ (w : World) (s₀ s₁ : Shared) (mg mb : Str → Option Value) (fa : Addr) (o : Obj) (pm cd doc : Value) (a : Addr) (vs : List Value) (ns : List Int),
   Ground q loose [] XP w s₀ mg mb s₁.heap → YP w s₁.heap →
   s₁.heap.get? fa = some o → o.data = .func (docDef d.name d.params d.body d.scope pm cd doc) → s₁.heap.CodeRec cd d.name → mg d.name = some (.ref fa) →
   s₁.heap.get? a = some { cls:=.type "list",data:=.seq vs.toArray } → IntsAre vs ns → ns.length ≤ n → s₁.gens = #[] →
   codeAny (model l.prog w) callerA (.call (.ref fa) ⟨[.ref a],[]⟩) (fun r s'=>r = .ok (.ret (.bool true)) ∧ OldK s₁.heap s'.heap ∧ s'.os = s₁.os ∧ AllBare s'.gens) s₁) :
  WalkO q loose XP YP l.row.toRowW d [] (fun f vs=>PySem.call f vs):=by
 intro w s₀ s₁ mg mb G Y fa o pm cd doc dV kV ho hd hcd hD hmg hg args vals as hpre hlay hrd hwl hlo
 obtain rfl : dV = .none:=Dflts.none hD hdf
 obtain rfl : kV = .none:=Dflts.noKw hD
 obtain ⟨a,vs,ns,rfl,rfl,hobj,hints,hlen⟩:=Ja4 hn hpre hwl
 refine enter_call (codeAny_mono (call w s₀ s₁ mg mb fa o pm cd doc a vs ns G Y ho (fd_plain hd) hcd hmg hobj hints hlen hg) fun r s' hq=>?_)
 obtain ⟨rfl,h2,h3,h4⟩:=hq
 exact ⟨.inl ⟨.bool true,.bool true,[],rfl,fun _=>rfl,.bool true,Jaa l _,fun _=>⟨List.Pairwise.nil,fun _ hm=>(nomatch hm)⟩⟩,h2,h3,h4⟩
section
variable {prog : Program} {w : World} {A : Around} {E : Value → Shared → Prop} {s : Shared} {K : Frag}
end
end Att
namespace L2
open PySem PySem.Spec PyProof.Rows
theorem J71 : ∀ {vs : List Value} {ns : List Int},IntsAre vs ns → Vals (ns.map V.int) vs
 | _,_,.nil=>.nil
 | _,_,.cons n t h=>.cons ⟨t,rfl⟩ (J71 h)
noncomputable def Only (H : Hp) : Prop:=∀ b,H b = none ∨ ∃ o xs,H b = some (.frz o (.lst xs))
theorem JbE {P : Program} {w : World} {K : PySem.W.Frag} {mg mb : Str → Option Value} {CX : CXT} {k : Nat} {fa a : Addr} {fd : FuncData} {x : Str} {sp : Sp} {s₁ : Shared} {vs : List Value} {ns : List Int}
  (KX : K.In s₁.heap) (hns : s₁.heap.Ns mainGlobals mg) (hb : s₁.heap.Ns builtinsNs mb) (hbb : ∀ x : Str,x ≠ "__name__" → mb x = bootBuiltins x) (hlim : s₁.heap.NoLimit) (hg : s₁.gens = #[])
  (ha : s₁.heap.get? a = some { cls:=.type "list",data:=.seq vs.toArray }) (hi : IntsAre vs ns) (hl : ns.length ≤ sizeLine) (hr : Room k callerA)
  (F : ∀ base : Heap,K.In base → base.Ns mainGlobals mg → FnOk P w K mg base CX k fa fd [x] sp) (hbind : ∀ (s : Shared) (u : Value),BindsTo s fd ⟨[u],[]⟩ [(x,u)])
  (hsp : ∀ H : Hp,Only H → SqL K H a (ns.map V.int) → sp [.ref a] H (fun v _=>v = .bl true) fun _ _ _=>False)
  (hCX : ∀ H e s',CX [] H s₁ (fun _ _ _=>False) e s' → False) :
  codeAny (model P w) callerA (.call (.ref fa) ⟨[.ref a],[]⟩) (fun r s'=>r = .ok (.ret (.bool true)) ∧ OldK s₁.heap s'.heap ∧ s'.os = s₁.os ∧ AllBare s'.gens) s₁:=by
 have rv:=J71 hi
 have lenV:=hi.length
 have core : ∀ H : Hp,Only H → SqL K H a (ns.map V.int) → HOk P w H s₁.heap → (∀ b,H b ≠ none → b = a) → (H a ≠ none → K.lookup a = none) →
   codeAny (model P w) callerA (.call (.ref fa) ⟨[.ref a],[]⟩) (fun r s'=>r = .ok (.ret (.bool true)) ∧ OldK s₁.heap s'.heap ∧ s'.os = s₁.os ∧ AllBare s'.gens) s₁:=by
  intro H hO hS hok hA hK
  have base_of : ∀ {b : Addr} {o : Obj},s₁.heap.get? b = some o → H b = none → (hidT s₁.heap H).get? b = some o:=fun e n=>JbJ e n
  have noA : ∀ {b : Addr} {o : Obj} {es : Array DictEntry} {ep : Nat},s₁.heap.get? b = some o → o.data = .dict es ep → H b = none:=fun {b o es ep} e d=>by
   cases q : H b with
   | none=>rfl
   | some u =>
    have e' : b = a:=hA b (by rw [q]; simp)
    subst e'
    rw [ha] at e; cases e
    have d' : Data.seq vs.toArray _ = Data.dict es ep:=d
    cases d'
  have nsK : ∀ {b : Addr} {m : Str → Option Value},s₁.heap.Ns b m → (hidT s₁.heap H).Ns b m:=fun {b m} ⟨o,es,ep,e,d,r⟩=>⟨o,es,ep,base_of e (noA e d),d,r⟩
  have hKb : K.In (hidT s₁.heap H):=fun b o e=>base_of (KX b o e) (by
   cases q : H b with
   | none=>rfl
   | some u =>
    have e' : b = a:=hA b (by rw [q]; simp)
    subst e'
    rw [hK (by rw [q]; simp)] at e; cases e)
  have hM : Mod K mg (hidT s₁.heap H):=⟨hKb,nsK hns,⟨mb,nsK hb,hbb⟩,let ⟨mc,h1,h2⟩:=hlim; ⟨mc,nsK h1,h2⟩⟩
  have e0 : Env0 P w K mg (hidT s₁.heap H) callerA [] s₁ H:=⟨rfl,hM,fun b o e=>Jch e,Nat.le_of_eq (Jaf _ _),trivial,fun b hb=>absurd (show b ∈ ([] : List Addr) from hb) (by simp),hok,.of_eq hg⟩
  refine codeAny_mono ((F _ hKb (nsK hns)).run callerA [] s₁ H ⟨[.ref a],[]⟩ [.ref a] [.ref a] _ _ hr e0 (hbind s₁ (.ref a)) (.cons rfl .nil) (hsp H hO hS)) fun r s' h=>?_
  cases r with
  | error e=>exact (hCX H e s' h).elim
  | ok fl =>
   cases fl with
   | next=>exact False.elim h
   | brk=>exact False.elim h
   | cont=>exact False.elim h
   | ret u =>
    obtain ⟨v,H',os,bare,un,hok',r',q⟩:=h
    have q' : v = .bl true:=q
    subst q'
    obtain rfl : u = Value.bool true:=r'
    refine ⟨rfl,OldK.of_keep fun b o e=>?_,os,bare⟩
    cases q : H b with
    | none=>exact un.keep b o e q (by intro z; exact absurd (show b ∈ ([] : List Addr) from z) (by simp)) (by simp)
    | some u =>
     rcases hO b with z | ⟨ob,xs,z⟩
     ·rw [q] at z; cases z
     ·have z2:=un.frzs b ob _ z
      obtain ⟨e1,_⟩:=hok b _ z
      obtain ⟨e2,_⟩:=hok' b _ z2
      rw [e] at e1; cases e1
      exact e2
 cases hk : K.lookup a with
 | some o =>
  have e:=KX a o hk
  rw [ha] at e
  cases e
  refine core (fun _=>none) (fun _=>.inl rfl) (.inr ⟨_,vs.toArray,_,hk,rfl,rfl,rfl,by rw [List.size_toArray,lenV]; exact hl,by simpa using rv⟩) (fun b u z=>by have z' : (none : Option HO) = some u:=z; cases z') (fun b z=>absurd rfl z) fun z=>absurd rfl z
 | none =>
  refine core (fun b=>if b = a then some (.frz { cls:=.type "list",data:=.seq vs.toArray } (.lst (ns.map V.int))) else none) (fun b=>?_) (.inl (.inr ⟨{ cls:=.type "list",data:=.seq vs.toArray },if_pos rfl⟩)) (fun b u z=>?_) (fun b z=>?_) fun _=>hk
  ·by_cases hb : b = a
   ·exact .inr ⟨_,_,if_pos hb⟩
   ·exact .inl (if_neg hb)
  ·by_cases hb : b = a
   ·have z':=(if_pos hb).symm.trans z
    cases z'
    subst hb
    exact ⟨ha,by rw [List.length_map]; exact hl,vs,_,rv,ha⟩
   ·have z':=(if_neg hb).symm.trans z
    cases z'
  ·by_cases hb : b = a
   ·exact hb
   ·exact absurd (if_neg hb) z
end L2
namespace L2
open PySem PySem.Spec PyProof.Rows
theorem walk_of {l : PySem.W.OpenLaw} {n k : Nat} {q : Program} {loose : List Str} {XP : (Str → Option Value) → Heap → Prop} {YP : World → Heap → Prop} {d : DefRec} {K : Params → PySem.W.Frag} {CX : World → CXT} {sp : World → Sp} {x : Str}
  (hn : l.most = some n) (hn2 : n ≤ sizeLine) (hdf : d.params.defaults = []) (hr : Room k callerA)
  (hY : ∀ (w : World) (h : Heap),YP w h → (K w.params).In h)
  (F : ∀ (w : World) (mg : Str → Option Value) (fa : Addr) (h : Heap),(K w.params).In h → h.Ns mainGlobals mg → mg d.name = some (.ref fa) →
   ∃ fd : FuncData,(∀ (s : Shared) (u : Value),BindsTo s fd ⟨[u],[]⟩ [(x,u)]) ∧
    ∀ base : Heap,(K w.params).In base → base.Ns mainGlobals mg → FnOk l.prog w (K w.params) mg base (CX w) k fa fd [x] (sp w))
  (hsp : ∀ (w : World) (H : Hp) (a : Addr) (ns : List Int),ns.length ≤ n → Only H → SqL (K w.params) H a (ns.map V.int) → sp w [.ref a] H (fun v _=>v = .bl true) fun _ _ _=>False)
  (hCX : ∀ (w : World) (H : Hp) (s : Shared) (e : Value) (s' : Shared),CX w [] H s (fun _ _ _=>False) e s' → False) :
  PySem.W.WalkO q loose XP YP l.row.toRowW d [] (fun f vs=>PySem.call f vs):=by
 refine Att.attach_call hn hdf fun w s₀ s₁ mg mb fa o pm cd doc a vs ns G Y ho hd hcd hmg hobj hints hlen hg=>?_
 have KX:=hY w _ Y
 obtain ⟨fd,hb,hF⟩:=F w mg fa _ KX G.T.g hmg
 exact JbE KX G.T.g G.T.b G.T.builtins G.T.nolimit hg hobj hints (Nat.le_trans hlen hn2) hr hF hb (fun H hO hS=>hsp w H a ns hlen hO hS) fun H e s'=>hCX w H s₁ e s'
end L2
namespace L2
open PySem PySem.Spec PyProof.Rows
noncomputable def J10 (s : Stmt) (j : Nat) : Stmt:=match s with
 | .ClassDef _ _ _ body _ _ _ _ _ _ _=>body.getD j (.Pass ⟨0,0,0,0⟩)
 | _=>.Pass ⟨0,0,0,0⟩
noncomputable def Jm (s : Stmt) : Arguments:=match s with
 | .FunctionDef _ a _ _ _ _ _ _ _ _=>a
 | _=>{ posonlyargs:=[],args:=[],vararg:=none,kwonlyargs:=[],kw_defaults:=[],kwarg:=none,defaults:=[] }
noncomputable def Jl (s : Stmt) : List Stmt:=match s with
 | .FunctionDef _ _ b _ _ _ _ _ _ _=>b
 | _=>[]
noncomputable def J2 (s : Stmt) : Scope:=match s with
 | .FunctionDef _ _ _ _ _ _ sc _ _ _=>sc
 | _=>{ kind:=.function,names:=[],isGenerator:=false,isCoroutine:=false }
noncomputable abbrev CX0 : CXT:=fun _ _ _ _ _ _=>False
noncomputable abbrev E0 : XK:=fun _ _ _=>False
theorem J9Q {X : Cx} : J66 CX0 X E0:=fun _ _ _ _ _ _ _ h=>h.elim
structure Fun (K : PySem.W.Frag) (x qual : Str) (st : Stmt) (f : Addr) (fd : FuncData) : Prop where
 ex : ∃ (oc : Value) (od : Option Addr) (kV doc pm : Value) (an : Option Addr) (cdv ct : Value) (osl : Array (Option Value)),
  fd = PySem.W.fnOf x qual (Jm st) (Jl st) (J2 st) .none kV doc pm an cdv ct ∧ K.lookup f = some ⟨oc,od,.func fd,osl⟩ ∧ PySem.W.codeIn K cdv qual = true
 kp : PySem.W.keepIn K (.ref f) = true
section
variable {P : Program} {w : World} {K : PySem.W.Frag} {mg : Str → Option Value} {base : Heap}
theorem Fun.ok {x qual : Str} {st : Stmt} {f : Addr} {fd : FuncData} {N ps : List Str} {k : Nat} {sp : Sp} (F : Fun K x qual st f fd) (S : Jn N ps (J2 st)) (len : ∀ vs H Q E,sp vs H Q E → vs.length = ps.length)
  (hbody : ∀ (cdv : Value) (A : Around) (outer : List Env) (s : Shared) (H : Hp) (vs : List V) (Q : VK) (E : XK),Room k (A.deeper (envOfC qual (J2 st) s.heap.objs.size f cdv)) → sp vs H Q E →
   ∃ t,PSs (cxOf CX0 P w K mg base N qual (J2 st) f cdv A outer s H E).nox (Jl st) t ∧ t { nx:=fun _ H'=>Q .non H',rt:=Q } (start N vs) H) : FnOk P w K mg base CX0 (k + 1) f fd ps sp:=by
 obtain ⟨oc,od,kV,doc,pm,an,cdv,ct,osl,rfl,lk,hcd⟩:=F.ex
 refine Jec lk hcd S len fun A outer s H vs Q E hr hsp=>?_
 obtain ⟨t,h,q⟩:=hbody cdv A outer s H vs Q E hr hsp
 exact ⟨t,h.nox,q⟩
theorem Fun.binds {x qual : Str} {st : Stmt} {f : Addr} {fd : FuncData} {ps : List Str} (F : Fun K x qual st f fd)
  (h : ∀ (kV doc pm : Value) (an : Option Addr) (cdv ct : Value) (us : List Value),us.length = ps.length → bindArgs (PySem.W.fnOf x qual (Jm st) (Jl st) (J2 st) .none kV doc pm an cdv ct) ⟨us,[]⟩ = pure (ps.zip us)) : J3U K fd ps []:=by
 obtain ⟨oc,od,kV,doc,pm,an,cdv,ct,osl,rfl,lk,hcd⟩:=F.ex
 exact .all (h kV doc pm an cdv ct)
theorem Js {x qual : Str} {st : Stmt} {f : Addr} {oc : Value} {od an : Option Addr} {osl : Array (Option Value)} {kV doc pm cdv ct : Value} (l : K.lookup f = some ⟨oc,od,.func (PySem.W.fnOf x qual (Jm st) (Jl st) (J2 st) .none kV doc pm an cdv ct),osl⟩)
  (c : PySem.W.codeIn K cdv qual = true) (k : PySem.W.keepIn K (.ref f) = true) : Fun K x qual st f (PySem.W.fnOf x qual (Jm st) (Jl st) (J2 st) .none kV doc pm an cdv ct):=⟨⟨oc,od,kV,doc,pm,an,cdv,ct,osl,rfl,l,c⟩,k⟩
end
section
variable {X : Cx}
theorem pv (i : Nat) {x : Str} {pos : Pos} (hN : X.N[i]? = some x:=by rfl) (hv : Vis X.env.scope x:=by first | exact Or.inl rfl | exact Or.inr (Or.inl rfl) | exact Or.inr (Or.inr rfl)) (hd : (x == ("__debug__" : Str)) = false:=by decide)
  (hcd : (x == ("__classdict__" : Str)) = false:=by decide) : PE X (.Name x pos) (tVar i):=Jdj hN hv hd hcd
end
theorem iteF {A B : Prop} (h : B) : if false = true then A else B:=by
 rw [if_neg Bool.false_ne_true]
 exact h
theorem iteT {A B : Prop} (h : A) : if true = true then A else B:=by
 rw [if_pos rfl]
 exact h
theorem ite2 {c A B : Prop} [Decidable c] (h1 : c → A) (h2 : ¬ c → B) : if c then A else B:=by
 by_cases h : c
 ·rw [if_pos h]
  exact h1 h
 ·rw [if_neg h]
  exact h2 h
noncomputable def Same (H H' : Hp) : Prop:=∀ b o,H b = some o → H' b = some o
theorem Same.refl (H : Hp) : Same H H:=fun _ _ h=>h
theorem Same.trans {H H1 H2 : Hp} (a : Same H H1) (b : Same H1 H2) : Same H H2:=fun c o h=>b c o (a c o h)
theorem Same.free {H H' : Hp} (e : Same H H') {l : Addr} (h : H' l = Option.none) : H l = Option.none:=by
 cases q : H l with
 | none=>rfl
 | some o =>
  rw [e l o q] at h
  cases h
theorem Same.seq {K : PySem.W.Frag} {H H' : Hp} {a : Addr} {xs : List V} (e : Same H H') (h : SqL K H a xs) : SqL K H' a xs:=by
 rcases h with (h | ⟨o,h⟩) | h
 ·exact .inl (.inl (e _ _ h))
 ·exact .inl (.inr ⟨o,e _ _ h⟩)
 ·exact .inr h
end L2
set_option linter.all false
set_option maxRecDepth 100000
set_option maxHeartbeats 4000000
namespace L2
open PySem PySem.Spec PyProof.Rows
theorem J3T {scope : Scope} {env : Env} (h : ∀ y ∈ scope.names,y.2 = .free → ∃ c,env.cells.lookup y.1 = some c) :
  ∃ cl,closureFor scope env = pure cl ∧ (∀ y ∈ scope.names,y.2 = NameKind.free → cl.lookup y.1 = env.cells.lookup y.1) ∧ (∀ x c,cl.lookup x = some c → env.cells.lookup x = some c):=by
 have key : ∀ (names : List (Str × NameKind)) (acc : List (Str × Addr)) (f : Str × NameKind → List (Str × Addr) → Sem (ForInStep (List (Str × Addr)))),
   (∀ x cs,f x cs = if (x.2 == NameKind.free) = true then (cellOf env x.1 >>= fun a=>pure (ForInStep.yield ((x.1,a) :: cs))) else pure (ForInStep.yield cs)) →
   (∀ y ∈ names,y.2 = .free → ∃ c,env.cells.lookup y.1 = some c) → (∀ x c,acc.lookup x = some c → env.cells.lookup x = some c) →
   ∃ cl,forIn names acc f = pure cl ∧ (∀ x c,acc.lookup x = some c → cl.lookup x = env.cells.lookup x) ∧ (∀ y ∈ names,y.2 = NameKind.free → cl.lookup y.1 = env.cells.lookup y.1) ∧ (∀ x c,cl.lookup x = some c → env.cells.lookup x = some c):=by
  intro names
  induction names with
  | nil =>
   intro acc f _ _ ha
   exact ⟨acc,rfl,fun x c e=>by rw [e,ha x c e],fun _ h=>(nomatch h),ha⟩
  | cons y r ih =>
   intro acc f hf hn ha
   obtain ⟨n,k⟩:=y
   rw [List.forIn_cons,hf]
   by_cases hk : k = .free
   ·subst hk
    obtain ⟨c,hc⟩:=hn (n,.free) List.mem_cons_self rfl
    have hc' : cellOf env n = pure c:=by unfold cellOf; rw [hc]
    have ha' : ∀ x d,((n,c) :: acc).lookup x = some d → env.cells.lookup x = some d:=fun x d e=>by
     rw [List.lookup_cons] at e
     cases hx : x == n with
     | true =>
      rw [hx] at e
      have e' : c = d:=Option.some.inj e
      have hx' : x = n:=by simpa using hx
      rw [hx',hc,e']
     | false =>
      rw [hx] at e
      exact ha x d e
    obtain ⟨cl,e,h1,h2,h3⟩:=ih ((n,c) :: acc) f hf (fun y hy=>hn y (List.mem_cons_of_mem _ hy)) ha'
    refine ⟨cl,?_,fun x d ex=>?_,fun y hy hyf=>?_,h3⟩
    ·rw [if_pos (by rfl)]
     show ((cellOf env n >>= fun a=>pure (ForInStep.yield ((n,a) :: acc))) >>= _) = pure cl
     rw [hc',pure_bind,pure_bind]
     exact e
    ·by_cases hxn : x = n
     ·subst hxn
      exact h1 x c (by rw [List.lookup_cons,beq_self_eq_true])
     ·refine h1 x d ?_
      rw [List.lookup_cons,beq_eq_false_iff_ne.mpr hxn]
      exact ex
    ·rcases List.mem_cons.mp hy with rfl | hy
     ·exact h1 _ c (by rw [List.lookup_cons,beq_self_eq_true])
     ·exact h2 y hy hyf
   ·have hb : (k == NameKind.free) = false:=by simpa using hk
    obtain ⟨cl,e,h1,h2,h3⟩:=ih acc f hf (fun y hy=>hn y (List.mem_cons_of_mem _ hy)) ha
    refine ⟨cl,?_,h1,fun y hy hyf=>?_,h3⟩
    ·show ((if (k == NameKind.free) = true then _ else pure (ForInStep.yield acc)) >>= _) = pure cl
     rw [if_neg (by rw [hb]; exact Bool.false_ne_true),pure_bind]
     exact e
    ·rcases List.mem_cons.mp hy with rfl | hy
     ·exact absurd hyf hk
     ·exact h2 y hy hyf
 have z:=key scope.names [] (fun x cs=>if (x.2 == NameKind.free) = true then (cellOf env x.1 >>= fun a=>pure (ForInStep.yield ((x.1,a) :: cs))) else pure (ForInStep.yield cs)) (fun _ _=>rfl) h (fun _ _ e=>(nomatch e))
 obtain ⟨cl,e,_,h2,h3⟩:=z
 refine ⟨cl,?_,h2,h3⟩
 show (forIn scope.names [] _ >>= pure) = pure cl
 exact (congrArg (· >>= pure) e).trans (pure_bind _ _)
noncomputable abbrev J0Z (X : Cx) (scope : Scope) (N : List Str) (s₀ : Shared) (H₀ : Hp) (cl : List (Str × Addr)) (C : Addr) (ex : List Addr) : Cx :=
 {prog:=X.prog,w:=X.w,K:=X.K,mg:=X.mg,base:=X.base,A:=X.A,N:=N,s₀:=s₀,H₀:=H₀,env:=compEnvC scope cl C X.env,
  outer:=X.stack,stack:=X.stack,ex:=ex,fn:=fun _=>false,calm:=X.calm,pn:=[],xe:=fun _ _=>False }
theorem J4t {prog : Program} {w : World} {A : Around} {R : Result → Shared → Prop} {s : Shared} {elt target iter : Expr} {ifs : List Expr} {scope : Scope} {pos : Pos} {it acc : Value} {env : Env} (I : Nat → Shared → Prop)
  (turn : ∀ n s,I n s → wpAny (model prog w) A (pyNext it) (fun r s₁=>match r with
   | none=>R (.ok .next) s₁
   | some v=>wpAny (model prog w) A (letOwnedTupleGo target it v) (fun _ s₁'=>wpAny (model prog w) A (assign target env v) (fun _ s₂ =>
     wpAny (model prog w) A (forIn ifs true fun c r=>if r = true then do let ok ← isTrue c env (eval c env); pure (ForInStep.yield ok) else pure (ForInStep.yield r)) (fun ok s₃ =>
      if ok = true then wpAny (model prog w) A (eval elt env) (fun x s₄ =>
       wpAny (model prog w) A (call (.builtin "list.append") [acc,x]) (fun _ s₅=>∃ m,m < n ∧ I m s₅) (fun _ _=>False) s₄) (fun _ _=>False) s₃
      else ∃ m,m < n ∧ I m s₃) (fun _ _=>False) s₂) (fun _ _=>False) s₁') (fun _ _=>False) s₁) (fun _ _=>False) s)
  (n : Nat) (h : I n s) :
  codeAny (model prog w) A (.compLoop (.ListComp elt [⟨target,iter,ifs,0⟩] scope pos) 0 it acc env) R s:=by
 refine codeAny_loop rfl I (fun n s hI=>?_) n h
 show wpAny _ A ((compTurn (.ListComp elt [⟨target,iter,ifs,0⟩] scope pos) 0 it acc env).onRaise (fun x=>do noteFrame x env; theTreesLotGoes x)) _ _ s
 refine wpAny_noted ?_
 rw [compTurn_list]
 refine wpAny_bind (wpAny_standAt (wpAny_bind (wpAny_mono (turn n s hI) (fun r s₁ h₁=>?_) fun _ _ z=>z.elim)))
 cases r with
 | none=>exact wpAny_pure h₁
 | some v =>
  refine wpAny_bind (wpAny_mono h₁ (fun _ s₁' h₁'=>?_) fun _ _ z=>z.elim)
  refine wpAny_bind (wpAny_mono h₁' (fun _ s₂ h₂=>wpAny_bind (wpAny_mono h₂ (fun ok s₃ h₃=>?_) fun _ _ z=>z.elim)) fun _ _ z=>z.elim)
  cases ok with
  | false=>exact wpAny_pure ⟨rfl,h₃⟩
  | true =>
   exact wpAny_bind (wpAny_bind (wpAny_mono h₃ (fun x s₄ h₄=>wpAny_bind (wpAny_mono h₄ (fun _ s₅ h₅=>wpAny_pure (wpAny_pure ⟨rfl,h₅⟩)) fun _ _ z=>z.elim)) fun _ _ z=>z.elim))
noncomputable def PIfs (X : Cx) (ifs : List Expr) (t : TT) : Prop :=
 ∀ (pins : List (Addr × Obj)) (s : Shared) (σ : St) (H : Hp) (Q : Bool → Hp → Prop),Inv X pins σ H s → t σ H Q →
  wpAny (model X.prog X.w) X.A (forIn ifs true fun c r=>if r = true then do let ok ← isTrue c X.env (eval c X.env); pure (ForInStep.yield ok) else pure (ForInStep.yield r)) (TP X pins σ Q) X.xe s
noncomputable def tYes : TT:=fun _ H Q=>Q true H
theorem JE {X : Cx} : PIfs X [] tYes:=fun _ _ _ H _ I h=>wpAny_tests_nil ⟨H,I,h⟩
theorem J2r {X : Cx} {c : Expr} {t : TT} (hc : PT X c t) : PIfs X [c] t:=fun pins s σ H Q I h=>wpAny_tests_one (hc pins s σ H Q I h)
noncomputable def J6a (J : It) (H1 : Hp) (σ0 : St) (g : TG) (tc : TT) (te : TE) (Q : VK) : Prop:=∀ D,H1 D = none →
  ∃ W : Nat → Nat → St → List V → Hp → Prop,(∃ m,W 0 m σ0 [] (upd H1 D (.lst []))) ∧ ∀ i m σ1 ys H,W i m σ1 ys H →
    (J.stop i H ∧ Q (.ref D) H) ∨ (J.go i H ∧ ∀ x H',J.yld i H x H' → g x σ1 H' fun σ2 H2=>tc σ2 H2 fun b H3 =>
       if b = true then te σ2 H3 fun y H4=>H4 D = some (.lst ys) ∧ ys.length < sizeLine ∧ ∃ m',m' < m ∧ W (i + 1) m' σ2 (ys ++ [y]) (upd H4 D (.lst (ys ++ [y])))
       else ∃ m',m' < m ∧ W (i + 1) m' σ2 ys H3)
noncomputable def JbS (wi : TI) (sub : St → St) (g : TG) (tc : TT) (te : TE) : TE:=fun σ H Q=>wi σ H fun J H1=>J6a J H1 (sub σ) g tc te Q
noncomputable def subσ (js : List (Option Nat)) (σ : St) : St:=js.map fun o=>o.bind fun j=>(σ[j]?).join
theorem J1g {env : Env} : ∀ {names : List (Str × NameKind)} {x : Str},names.lookup x = some .free →
  (names.map fun (n,k)=>if (k == NameKind.free && env.scope.kind == .function && env.kindOf n == some .cell) then (n,NameKind.cell) else (n,k)).lookup x = some .cell ∨
  (names.map fun (n,k)=>if (k == NameKind.free && env.scope.kind == .function && env.kindOf n == some .cell) then (n,NameKind.cell) else (n,k)).lookup x = some .free
 | [],_,h=>by simp at h
 | (n,k) :: r,x,h=>by
  have ih:=@J1g env r x
  show List.lookup x ((if (k == NameKind.free && env.scope.kind == .function && env.kindOf n == some .cell) = true then (n,NameKind.cell) else (n,k)) :: _) = _ ∨ List.lookup x ((if (k == NameKind.free && env.scope.kind == .function && env.kindOf n == some .cell) = true then (n,NameKind.cell) else (n,k)) :: _) = _
  cases hx : x == n with
  | true =>
   simp only [List.lookup_cons,hx] at h
   cases h
   by_cases hc : (NameKind.free == NameKind.free && env.scope.kind == .function && env.kindOf n == some .cell) = true
   ·rw [if_pos hc]; left; simp only [List.lookup_cons,hx]
   ·rw [if_neg hc]; right; simp only [List.lookup_cons,hx]
  | false =>
   simp only [List.lookup_cons,hx] at h
   by_cases hc : (k == NameKind.free && env.scope.kind == .function && env.kindOf n == some .cell) = true
   ·rw [if_pos hc]; simp only [List.lookup_cons,hx]; exact ih h
   ·rw [if_neg hc]; simp only [List.lookup_cons,hx]; exact ih h
theorem J3b {env : Env} : ∀ {names : List (Str × NameKind)} {x : Str},(∀ y ∈ names,y.2 ≠ NameKind.cell) →
  ((names.map fun (n,k)=>if (k == NameKind.free && env.scope.kind == .function && env.kindOf n == some .cell) then (n,NameKind.cell) else (n,k)).lookup x = some .cell ∨
  (names.map fun (n,k)=>if (k == NameKind.free && env.scope.kind == .function && env.kindOf n == some .cell) then (n,NameKind.cell) else (n,k)).lookup x = some .free) → (x,NameKind.free) ∈ names
 | [],_,_,h=>by simp at h
 | (n,k) :: r,x,hn,h=>by
  have ih:=@J3b env r x fun y hy=>hn y (List.mem_cons_of_mem _ hy)
  have hk : k ≠ .cell:=hn (n,k) List.mem_cons_self
  change List.lookup x ((if (k == NameKind.free && env.scope.kind == .function && env.kindOf n == some .cell) = true then (n,NameKind.cell) else (n,k)) :: _) = _ ∨ List.lookup x ((if (k == NameKind.free && env.scope.kind == .function && env.kindOf n == some .cell) = true then (n,NameKind.cell) else (n,k)) :: _) = _ at h
  cases hx : x == n with
  | true =>
   have hx' : x = n:=by simpa using hx
   subst hx'
   by_cases hc : (k == NameKind.free && env.scope.kind == .function && env.kindOf x == some .cell) = true
   ·have : k = .free:=by
     have:=(Bool.and_eq_true _ _).mp ((Bool.and_eq_true _ _).mp hc).1
     simpa using this.1
    subst this
    exact List.mem_cons_self
   ·rw [if_neg hc] at h
    simp only [List.lookup_cons,beq_self_eq_true] at h
    rcases h with h | h
    ·exact absurd (Option.some.inj h) hk
    ·have:=Option.some.inj h
     subst this
     exact List.mem_cons_self
  | false =>
   by_cases hc : (k == NameKind.free && env.scope.kind == .function && env.kindOf n == some .cell) = true
   ·rw [if_pos hc] at h; simp only [List.lookup_cons,hx] at h; exact List.mem_cons_of_mem _ (ih h)
   ·rw [if_neg hc] at h; simp only [List.lookup_cons,hx] at h; exact List.mem_cons_of_mem _ (ih h)
section
variable {X : Cx} {elt tg iter : Expr} {ifs : List Expr} {scope : Scope} {pos : Pos} {N : List Str} {js : List (Option Nat)} {wi : TI} {g : TG} {tc : TT} {te : TE}
structure J3E (osc : Scope) (ON : List Str) (scope : Scope) (N : List Str) (js : List (Option Nat)) : Prop where
 kind : scope.kind = .function
 cell : ∀ y ∈ scope.names,y.2 ≠ .cell
 names : ∀ y ∈ scope.names,y.2 = .local → scope.names.lookup y.1 = some .local
 free : ∀ y ∈ scope.names,y.2 = .free → osc.names.lookup y.1 = some .cell ∨ osc.names.lookup y.1 = some .free
 len : js.length = N.length
 slots : (js.zip N).all (fun p=>match p.1 with | none=>true | some j=>decide (ON[j]? = some p.2) && decide (scope.names.lookup p.2 = some .free)) = true
theorem J3E.sub {osc : Scope} {ON : List Str} {scope : Scope} {N : List Str} {js : List (Option Nat)} (cs : J3E osc ON scope N js) : ∀ (i j : Nat),js[i]? = some (some j) → ∃ x,N[i]? = some x ∧ ON[j]? = some x ∧ scope.names.lookup x = some .free:=by
 intro i j h
 have hi : i < js.length:=(List.getElem?_eq_some_iff.mp h).1
 have hN : N[i]? = some (N[i]'(by rw [← cs.len]; exact hi)):=List.getElem?_eq_getElem _
 have hz : (js.zip N)[i]? = some (some j,N[i]'(by rw [← cs.len]; exact hi)):=by
  rw [List.getElem?_zip_eq_some]
  exact ⟨h,hN⟩
 have hm:=List.all_eq_true.mp cs.slots _ (List.mem_of_getElem? hz)
 have hm2:=(Bool.and_eq_true _ _).mp hm
 exact ⟨_,hN,of_decide_eq_true hm2.1,of_decide_eq_true hm2.2⟩
theorem mem_of_lookup {α : Type} : ∀ {l : List (Str × α)} {x : Str} {k : α},l.lookup x = some k → (x,k) ∈ l
 | [],_,_,h=>by simp at h
 | (n,v) :: r,x,k,h=>by
  rw [List.lookup_cons] at h
  cases hx : x == n with
  | true =>
   rw [hx] at h
   have hx' : x = n:=by simpa using hx
   have : v = k:=Option.some.inj h
   subst hx' this
   exact List.mem_cons_self
  | false =>
   rw [hx] at h
   exact List.mem_cons_of_mem _ (mem_of_lookup h)
theorem JS {osc : Scope} {ON : List Str} (cs : J3E osc ON scope N js) (ho : X.env.scope = osc) (hON : X.N = ON) (hc : X.calm = true) (hi : PI X tg iter wi)
    (hg : ∀ s₀ H₀ cl C ex,PG (J0Z X scope N s₀ H₀ cl C ex) tg g) (hif : ∀ s₀ H₀ cl C ex,PIfs (J0Z X scope N s₀ H₀ cl C ex) ifs tc) (he : ∀ s₀ H₀ cl C ex,PE (J0Z X scope N s₀ H₀ cl C ex) elt te)
    (hs : ∀ x,foldedSetIterable iter X.env x = pure x:=by intro _; rfl) : PE X (.ListComp elt [⟨tg,iter,ifs,0⟩] scope pos) (JbS wi (subσ js) g tc te):=by
  intro pins s σ H Q I h
  subst ho hON
  obtain ⟨cl,hcl,cl1,cl2⟩:=J3T (scope:=scope) (env:=X.env) fun y hy hf=>I.ok.has y.1 (cs.free y hy hf)
  rw [eval_ListComp]
  refine wpAny_comprehension_free (use:=none) rfl hs hcl cs.kind cs.names ?_
  refine thn (hi pins s σ H _ I h) fun v s1 h1=>thn h1 fun itv s2 h2=>?_
  obtain ⟨it,fp,tn,J,H2,e,I2,T,st2,f2,hW⟩:=h2
  subst e
  have hD0 : H2 s2.heap.objs.size = none:=I2.hok.fresh (Nat.le_refl _)
  obtain ⟨W,⟨m0,w0⟩,turn⟩:=hW s2.heap.objs.size hD0
  have I3:=I2.lnew (t':=s2.toks) (ys:=[]) (its:=[]) .nil (Nat.zero_le _)
  refine wpAny_newObj_type (wpAny_newFunctionEnv cs.cell (by intro y hy; simp at hy) (fun h₁ hns₁ hsb₁=>?_) cs.kind)
  dsimp only at hns₁ hsb₁ ⊢
  obtain ⟨s3,hs3⟩ : ∃ s3 : Shared,s3 = { s2 with heap:=s2.heap.push { cls:=.type "list",data:=.seq ([] : List Value).toArray },toks:=s2.toks }:=⟨_,rfl⟩
  rw [← hs3] at I3
  have e3 : s3.heap = s2.heap.push { cls:=.type "list",dict:=none,data:=.seq ([] : List Value).toArray }:=by rw [hs3]
  have e3o : s3.os = s2.os:=by rw [hs3]
  have e3g : s3.gens = s2.gens:=by rw [hs3]
  rw [← e3] at hns₁ hsb₁ ⊢
  obtain ⟨H3,hH3⟩ : ∃ H3 : Hp,H3 = upd H2 s2.heap.objs.size (.lst []):=⟨_,rfl⟩
  rw [← hH3] at I3 w0
  have up1 : ∀ b o,s2.heap.get? b = some o → s3.heap.get? b = some o:=fun b o q=>by rw [e3]; exact Heap.get?_push_of_some _ q
  have up2 : ∀ b o,s3.heap.get? b = some o → h₁.get? b = some o:=fun b o q=>hsb₁.extBut b o (Nat.ne_of_lt (Heap.lt_size q)) (Heap.get?_push_of_some _ q)
  have fpo : ∀ b ∈ fp,∃ o,s3.heap.get? b = some o:=fun b hb=>by
    obtain ⟨o,ho,_⟩:=T.obj 0 _ st2 b hb
    exact ⟨o,up1 b o ho⟩
  have fr3 : ∀ b ∈ fp,H3 b = none:=fun b hb=>by
    obtain ⟨o,ho,_⟩:=T.obj 0 _ st2 b hb
    rw [hH3,Ja (Nat.ne_of_lt (Heap.lt_size ho))]
    exact (f2 b hb).1
  have fpC : ∀ b ∈ fp,b ≠ s3.heap.objs.size:=fun b hb=>by
    obtain ⟨o,ho⟩:=fpo b hb
    exact Nat.ne_of_lt (Heap.lt_size ho)
  have fpS : ∀ b ∈ fp,b ∉ frs X.stack:=fun b hb hs'=>by
    rcases List.mem_cons.mp (I2.stkSub b hs') with z | z
    · exact (f2 b hb).2.1 z
    · exact (f2 b hb).2.2.1 z
  have ok' : (J0Z X scope N s3 H3 cl s3.heap.objs.size fp).Ok:=by
    refine ⟨I.ok.mod,cs.kind,I.ok.glob,I.ok.blt,Nat.le_refl _,fun x y c e1 e2=>I.ok.inj x y c (cl2 x c e1) (cl2 y c e2),fun x hx=>?_,fun x c hf=>(nomatch hf),I.ok.hd,I.ok.frames,.inl rfl,fun b hb=>⟨fpC b hb,fun x c e=>(f2 b hb).2.2.2.2.1 x c (cl2 x c e)⟩,
      I3.bs,Nat.le_trans I.ok.bsz I3.sz,fun b o e hb=>?_,fun b hb=>fpS b hb,I3.stack,I3.stkFree⟩
    · have hm : (x,NameKind.free) ∈ scope.names:=J3b cs.cell hx
      obtain ⟨c,hc⟩:=I.ok.has x (cs.free _ hm rfl)
      exact ⟨c,(cl1 _ hm rfl).trans hc⟩
    · rcases (f2 b hb).2.2.2.1 with z | z
      · exact I.ok.noex b o e z
      · exact absurd (Nat.lt_of_lt_of_le (Heap.lt_size e) (Nat.le_trans I.ok.bsz z)) (Nat.lt_irrefl _)
  have cellK : ∀ c v,s3.heap.IsCell c v → h₁.IsCell c v:=fun c v ⟨o,ho,hd⟩=>⟨o,up2 c o ho,hd⟩
  have I4 : ∀ t : Nat,Inv (J0Z X scope N s3 H3 cl s3.heap.objs.size fp) [] (subσ js σ) H3 { s2 with heap:=h₁,toks:=t }:=fun t=>by
    refine ⟨ok',e3o.symm,I2.bare,Un.kept up2,⟨_,hns₁,fun i x v hi hv hx=>?_⟩,fun x c e=>?_,I3.hok.fresh (Nat.le_refl _),fun x c e=>I3.freeC x c (cl2 x c e),fun p hp=>(nomatch hp),I3.hok.kept up2,?_⟩
    ·
      have hv' : ∃ j,js[i]? = some (some j) ∧ σ[j]? = some (some v):=by
        unfold subσ at hv
        rw [List.getElem?_map] at hv
        cases hj : js[i]? with
        | none=>rw [hj] at hv; cases hv
        | some o =>
          rw [hj] at hv
          cases o with
          | none=>cases hv
          | some j =>
            refine ⟨j,rfl,?_⟩
            have hv2 : (σ[j]?).join = some v:=Option.some.inj hv
            cases hs2 : σ[j]? with
            | none=>rw [hs2] at hv2; cases hv2
            | some u=>rw [hs2] at hv2; exact congrArg some hv2
      obtain ⟨j,hj,hσ⟩:=hv'
      obtain ⟨x',h1',h2',h3'⟩:=cs.sub i j hj
      have hxx : x = x':=Option.some.inj (hi.symm.trans h1')
      subst hxx
      have hm : (x,NameKind.free) ∈ scope.names:=mem_of_lookup h3'
      have hk:=cs.free _ hm rfl
      obtain ⟨m,hn,hl⟩:=id I3.loc
      obtain ⟨u,ru,lk⟩:=hl j x v h2' hσ (by rcases hk with z | z; exact .inr (.inl z); exact .inr (.inr z))
      refine ⟨u,ru,?_⟩
      rcases lk with ⟨k1,_⟩ | ⟨k1,c,e1,z⟩
      · rcases hk with z | z <;> (rw [show X.env.kindOf x = _ from z] at k1; cases k1)
      · exact .inr ⟨J1g h3',c,(cl1 _ hm rfl).trans e1,cellK c _ z⟩
    · obtain ⟨v,z⟩:=I3.cell x c (cl2 x c e)
      exact ⟨v,cellK c v z⟩
    · unfold subσ
      rw [List.length_map]
      exact cs.len
  have hst₁ : tn 0 h₁:=T.keep 0 _ _ st2 fun b hb o q=>up2 b o (up1 b o q)
  have stat : ∀ {H' : Hp},(∀ b ∈ fp,H' b = none) → ∀ b ∈ fp,FpOk (J0Z X scope N s3 H3 cl s3.heap.objs.size fp) [] H' b:=fun hn b hb =>
    ⟨hn b hb,fpC b hb,fpS b hb,.inl hb,fun x c e=>(f2 b hb).2.2.2.2.1 x c (cl2 x c e),fun p hp=>(nomatch hp)⟩
  have loop : ∀ s4 : Shared,(∃ t,s4 = { s2 with heap:=h₁,toks:=t }) →
      codeAny (model X.prog X.w) X.A (.compLoop (.ListComp elt [⟨tg,iter,ifs,0⟩] scope pos) 0 (.ref it) (.ref s2.heap.objs.size) (compEnvC scope cl s3.heap.objs.size X.env))
        (compPost (model X.prog X.w) X.A X.xe none (EP X pins σ Q) (.ref s2.heap.objs.size) s3.heap.objs.size) s4:=by
    rintro s4 ⟨t,rfl⟩
    refine J4t (fun n s'=>∃ i σ' ys H',Inv (J0Z X scope N s3 H3 cl s3.heap.objs.size fp) [] σ' H' s' ∧ tn i s'.heap ∧ (∀ b ∈ fp,H' b = none) ∧ W i n σ' ys H') ?_ m0 ⟨0,_,[],H3,I4 t,hst₁,fr3,w0⟩
    rintro n s5 ⟨i,σ5,ys,H5,I5,st5,fr5,w5⟩
    rcases turn i n σ5 ys H5 w5 with ⟨stop,qn⟩ | ⟨go,step⟩
    · refine thn (T.done (J0Z X scope N s3 H3 cl s3.heap.objs.size fp) rfl rfl rfl hc i [] s5 σ5 H5 _ I5 (stat fr5) st5 stop) fun r s6 ⟨hr,I6⟩=>?_
      subst hr
      obtain ⟨m,hn,_⟩:=id I6.loc
      refine ⟨m,hn,fun h' hs'=>⟨.ref s2.heap.objs.size,H5,?_,rfl,qn⟩⟩
      have neC : ∀ b o,s3.heap.get? b = some o → b ≠ s3.heap.objs.size:=fun b o q=>Nat.ne_of_lt (Heap.lt_size q)
      have un : Un (frs X.stack) fp H3 H5 s3.heap h' :=
        ⟨fun b o q n1 hb hx=>(hs'.2 b (neC b o q)).trans (I6.base.keep b o q n1 hb hx),
         fun b o q n1 hb hx=>by
           obtain ⟨sl,e⟩:=I6.base.slot b o q n1 hb hx
           exact ⟨sl,(hs'.2 b (neC b o q)).trans e⟩,
         fun b o q n1 hx=>I6.base.free b o q n1 hx,
         fun b o q hx=>by
           obtain ⟨o',e⟩:=I6.base.there b o q hx
           exact ⟨o',(hs'.2 b (neC b o q)).trans e⟩,
         I6.base.tups,I6.base.frzs,I6.base.tbls⟩
      refine I3.call' (ch:=fp) (s':={ s6 with heap:=h' }) I6.os un (fun b ob e=>?_) I6.bare (fun b hb=>⟨(f2 b hb).2.2.2.1,(f2 b hb).2.1,(f2 b hb).2.2.2.2.1,(f2 b hb).2.2.2.2.2⟩)
      refine (I6.hok b ob e).stay (fun c w' hc' q=>(hs'.2 c ?_).trans q) (fun _ q=>q) fun _ _ q=>q
      rintro rfl
      have fC : H5 s3.heap.objs.size = none:=I6.free
      rcases hc' with z | z
      · rw [← z,fC] at e; cases e
      · rw [fC] at z; cases z
    · refine thn (T.item (J0Z X scope N s3 H3 cl s3.heap.objs.size fp) rfl rfl rfl hc i [] s5 σ5 H5 _ I5 (stat fr5) st5 go) fun r s6 ⟨u,hr,h6⟩=>?_
      subst hr
      refine thn h6 fun _ s7 ⟨x,H7,I7,r7,y7,st7,fr7⟩=>?_
      have I7':=I7.pinned (stat fr7) (T.obj _ _ st7)
      refine thn (hg _ _ _ _ _ _ s7 σ5 H7 x u _ I7' r7 (step x H7 y7)) fun _ s8 ⟨σ8,H8,I8,q8⟩=>?_
      refine thn (hif _ _ _ _ _ _ s8 σ8 H8 _ I8 q8) fun ok s9 ⟨H9,I9,q9⟩=>?_
      have again : ∀ {σ' : St} {H' : Hp} {s' : Shared},Inv (J0Z X scope N s3 H3 cl s3.heap.objs.size fp) ([] ++ J4O fp s7.heap) σ' H' s' →
          Inv (J0Z X scope N s3 H3 cl s3.heap.objs.size fp) [] σ' H' s' ∧ tn (i + 1) s'.heap ∧ ∀ b ∈ fp,H' b = none:=fun {σ' H' s'} I'=>by
        refine ⟨I'.unpinned,T.keep _ _ _ st7 fun b hb o e=>(I'.pin (b,o) (List.mem_append_right _ (List.mem_append_right _ (J1t hb e)))).1,fun b hb=>?_⟩
        obtain ⟨o,e,d⟩:=T.obj _ _ st7 b hb
        exact (I'.pin (b,o) (List.mem_append_right _ (List.mem_append_right _ (J1t hb e)))).2.1
      cases ok with
      | false =>
        rw [if_neg Bool.false_ne_true] at q9 ⊢
        obtain ⟨m',hm,w9⟩:=q9
        obtain ⟨a1,a2,a3⟩:=again I9
        exact ⟨m',hm,i + 1,σ8,ys,H9,a1,a2,a3,w9⟩
      | true =>
        rw [if_pos rfl] at q9 ⊢
        refine thn (he _ _ _ _ _ _ s9 σ8 H9 _ I9 q9) fun yv s10 ⟨y,H10,I10,r10,q10⟩=>?_
        obtain ⟨hD,hz,m',hm,w10⟩:=q10
        refine thn (J2i (X:=J0Z X scope N s3 H3 cl s3.heap.objs.size fp) _ s10 σ8 H10 (.ref s2.heap.objs.size) [y] (.ref s2.heap.objs.size) [yv] (fun v H'=>H' = upd H10 s2.heap.objs.size (.lst (ys ++ [y]))) I10 rfl (.cons r10 .nil)
          ⟨s2.heap.objs.size,ys,y,rfl,rfl,hD,hz,rfl⟩) fun _ s11 ⟨v11,H11,I11,_,e11⟩=>?_
        have e11' : H11 = upd H10 s2.heap.objs.size (.lst (ys ++ [y])):=e11
        subst e11'
        obtain ⟨a1,a2,a3⟩:=again I11
        exact ⟨m',hm,i + 1,σ8,ys ++ [y],_,a1,a2,a3,w10⟩
  exact codeAny_compStart_list (loop _ ⟨_,rfl⟩) (T.self X.A 0 _ _ _ hst₁ (loop _ ⟨_,rfl⟩))
end
structure J9R (J : It) (H0 : Hp) (xs : List V) : Prop where
 go : ∀ i H,Same H0 H → i < xs.length → J.go i H
 yld : ∀ i H x H',Same H0 H → i < xs.length → J.yld i H x H' → H' = H ∧ xs[i]? = some x
 stop : ∀ H,Same H0 H → J.stop xs.length H
theorem J2u {K : PySem.W.Frag} {a : Addr} {H : Hp} {xs : List V} (h : SqL K H a xs) : J9R (Itl K a) H xs where
 go:=fun i H' s hi=>⟨xs,xs[i],s.seq h,by simp [hi]⟩
 yld:=fun i H' x H'' s hi y=>⟨y.1,y.2 xs (s.seq h)⟩
 stop:=fun H' s=>⟨xs,s.seq h,Nat.le_refl _⟩
theorem J8v {H : Hp} (lo : Int) (n : Nat) : J9R (Itr lo n) H ((List.range n).map fun i=>.int (lo + (i : Nat))) where
 go:=fun i H' s hi=>by rw [List.length_map,List.length_range] at hi; exact hi
 yld:=fun i H' x H'' s hi y=>by
  rw [List.length_map,List.length_range] at hi
  refine ⟨y.1,?_⟩
  rw [List.getElem?_map,List.getElem?_range hi]
  exact congrArg some y.2.symm
 stop:=fun H' s=>by rw [List.length_map,List.length_range]; exact Nat.le_refl _
theorem J0n {H : Hp} {p : Addr} (h : H p = none) (o : HO) : Same H (upd H p o):=fun b u q=>by rw [Ja (J9 q h)]; exact q
theorem Same.upd {H H' : Hp} {p : Addr} {o : HO} (s : Same H H') (h : H p = none) : Same H (upd H' p o):=fun b u q=>by rw [Ja (J9 q h)]; exact s b u q
theorem Jc3 {J : It} {H : Hp} {xs : List V} {σ0 : St} {k : Nat} {tc : TT} {te : TE} {Q : VK} (p : V → Bool) (f : V → V) (hJ : J9R J H xs) (hx : xs.length ≤ 1000000)
  (hc : ∀ x ∈ xs,∀ H',Same H H' → ∀ R : Bool → Hp → Prop,(∀ H'',Same H' H'' → R (p x) H'') → tc (σ0.set k (some x)) H' R)
  (he : ∀ x ∈ xs,p x = true → ∀ H',Same H H' → ∀ R : VK,(∀ H'',Same H' H'' → R (f x) H'') → te (σ0.set k (some x)) H' R)
  (hQ : ∀ D H',H D = none → Same H H' → H' D = some (.lst ((xs.filter p).map f)) → Q (.ref D) H') :
  J6a J H σ0 (J3V k) tc te Q:=by
 intro D hD
 refine ⟨fun i m σ1 ys H'=>m = xs.length - i ∧ i ≤ xs.length ∧ (σ1 = σ0 ∨ ∃ v,σ1 = σ0.set k v) ∧ ys = ((xs.take i).filter p).map f ∧ H' D = some (.lst ys) ∧ Same H H',⟨xs.length,by simp,Nat.zero_le _,.inl rfl,rfl,Jd,J0n hD _⟩,?_⟩
 rintro i m σ1 ys H' ⟨rfl,hi,hσ,rfl,hDD,hs⟩
 by_cases hlt : i < xs.length
 ·refine .inr ⟨hJ.go i H' hs hlt,fun x H'' hy=>?_⟩
  obtain ⟨e1,hx1⟩:=hJ.yld i H' x H'' hs hlt hy
  subst e1
  have hm : x ∈ xs:=List.mem_of_getElem? hx1
  have hset : σ1.set k (some x) = σ0.set k (some x):=by
   rcases hσ with rfl | ⟨v,rfl⟩
   ·rfl
   ·rw [List.set_set]
  show tc (σ1.set k (some x)) H'' _
  rw [hset]
  have tk : ((xs.take (i + 1)).filter p).map f = ((xs.take i).filter p).map f ++ (if p x = true then [f x] else []):=by
   rw [List.take_add_one,hx1,List.filter_append,List.map_append]
   cases hp : p x <;> simp [hp]
  refine hc x hm H'' hs _ fun H3 s3=>?_
  have s03 : Same H H3:=hs.trans s3
  have lenk : (((xs.take i).filter p).map f).length < sizeLine:=by
   have h1:=List.length_filter_le p (xs.take i)
   rw [List.length_take] at h1
   rw [List.length_map]
   have : (1000001 : Nat) ≤ sizeLine:=by decide
   omega
  refine ite2 (fun hp=>?_) (fun hp=>?_)
  ·refine he x hm hp H3 s03 _ fun H4 s4=>⟨s4 _ _ (s3 _ _ hDD),lenk,xs.length - (i + 1),by omega,rfl,hlt,.inr ⟨_,rfl⟩,?_,?_,?_⟩
   ·rw [tk,if_pos hp]
   ·exact Jd
   ·exact (s03.trans s4).upd hD
  ·refine ⟨xs.length - (i + 1),by omega,rfl,hlt,.inr ⟨_,rfl⟩,?_,s3 _ _ hDD,s03⟩
   rw [tk,if_neg hp,List.append_nil]
 ·have e : i = xs.length:=by omega
  subst e
  refine .inl ⟨hJ.stop H' hs,hQ D H' hD hs ?_⟩
  rw [hDD,List.take_length]
end L2
set_option linter.all false
set_option maxRecDepth 100000
set_option maxHeartbeats 4000000
namespace L2
open PySem PySem.Spec PyProof.Rows
noncomputable abbrev T (l : List Nat) : V:=.str ⟨l.toArray⟩
theorem Jem {a b : List Nat} (h : T a = T b) : a = b:=by
 have h1 : (⟨a.toArray⟩ : Str) = ⟨b.toArray⟩:=V.str.inj h
 have h2 : a.toArray = b.toArray:=congrArg Str.cps h1
 simpa using h2
theorem J8L (l : List Nat) : (⟨l.toArray⟩ : Str).length = l.length:=by simp [Str.length]
theorem JcN (a b : List Nat) : (⟨a.toArray⟩ : Str) ++ ⟨b.toArray⟩ = ⟨(a ++ b).toArray⟩:=by
 show (⟨a.toArray ++ b.toArray⟩ : Str) = _
 simp
section
variable {X : Cx}
theorem J3f {x : Str} {l : List Nat} {j pos} (h : x = ⟨l.toArray⟩) : PE X (.Constant (.str x) j pos) (tC (T l)):=by subst h; exact JdQ
noncomputable def Jek : R2:=fun x y H Q=>∃ l i c,x = T l ∧ y = .int i ∧ l.length ≤ sizeLine ∧ atI l i = some c ∧ Q (T [c]) H
theorem J97 : IxR X Jek:=by
 intro value slice pins s σ H x y v u Q I rx ry h hs
 obtain ⟨l,i,c,rfl,rfl,hz,he,q⟩:=h
 exact Jdr value slice pins s σ H _ _ v u Q I rx ry ⟨_,i,c,rfl,rfl,by rw [J8L]; exact hz,by simpa using he,q⟩ hs
theorem Jau : J1p X (.builtin "len") (fun xs H Q=>∃ l,xs = [T l] ∧ l.length ≤ sizeLine ∧ Q (.int l.length) H):=by
 intro pins s σ H xs us Q I r h
 obtain ⟨l,rfl,hz,q⟩:=h
 exact J7S pins s σ H _ us Q I r ⟨_,rfl,by rw [J8L]; exact hz,by rw [J8L]; exact q⟩
end
section
variable {X : Cx}
end
noncomputable def Its (l : List Nat) : It:=⟨fun i _=>i < l.length,fun i H x H'=>H' = H ∧ ∃ c,l[i]? = some c ∧ x = T [c],fun i _=>l.length ≤ i⟩
theorem Jbl {P : Program} {w : World} {K : PySem.W.Frag} {tg : Expr} {it : Addr} {l : List Nat} {t : Tok} {nm : String} (hn : nm = "str_ascii_iterator" ∨ nm = "str_iterator") :
  Turn P w K tg (Its l) [it] it (fun i h=>h.IsStrIter it nm ⟨l.toArray⟩ t i) where
 mem:=by simp
 obj:=fun i h st b hb=>by
  have e : b = it:=by simpa using hb
  subst e
  obtain ⟨o,e,c,d⟩:=st
  exact ⟨o,e,fun v z=>by rw [d] at z; cases z⟩
 keep:=fun i h h' st k=>by
  obtain ⟨o,e,r⟩:=st
  exact ⟨o,k it (by simp) o e,r⟩
 item:=by
  intro X hP hw hK hc i pins s σ H E I hf st hg
  subst hP hw hK
  obtain ⟨f0,f1,f2,f3,f4,f5⟩:=hf it (by simp)
  have hi : i < l.length:=hg
  have hx : (⟨l.toArray⟩ : Str).cps[i]? = some l[i]:=by simp [hi]
  have fin : ∀ h',h'.IsStrIter it nm ⟨l.toArray⟩ t (i + 1) → Heap.SameBut it s.heap h' → ∃ u,(some (Value.str ⟨#[l[i]]⟩ s.toks) : Option Value) = some u ∧
    wpAny (model X.prog X.w) X.A (letOwnedTupleGo tg (.ref it) u) (fun _ s2=>∃ x H',Inv X pins σ H' s2 ∧ RelV x u ∧ (Its l).yld i H x H' ∧ s2.heap.IsStrIter it nm ⟨l.toArray⟩ t (i + 1) ∧ ∀ b ∈ [it],H' b = none) E { s with heap:=h',toks:=s.toks + 1 }:=fun h' st' sb=>by
   have I1 : Inv X pins σ H { s with heap:=h',toks:=s.toks + 1 }:=I.turned (t':=s.toks + 1) (fun b o hb e=>(sb.2 b hb).trans e) f0 f1 f3 f4 f5
   obtain ⟨o,e,c,d⟩:=id st'
   refine ⟨_,rfl,J9H (s:={ s with heap:=h',toks:=s.toks + 1 }) e c d (by rcases hn with rfl | rfl <;> decide) ⟨T [l[i]],H,I1,⟨_,rfl⟩,⟨rfl,l[i],by simp [hi],rfl⟩,st',fun b hb=>(hf b hb).1⟩⟩
  rcases hn with rfl | rfl
  ·exact wpAny_pyNext_ascii_item st hx fin
  ·exact wpAny_pyNext_wide_item st hx fin
 done:=by
  intro X hP hw hK hc i pins s σ H E I hf st hg
  subst hP hw hK
  obtain ⟨f0,f1,f2,f3,f4,f5⟩:=hf it (by simp)
  have hi : l.length ≤ i:=hg
  have hx : (⟨l.toArray⟩ : Str).cps[i]? = none:=by simp; exact hi
  have fin : ∀ h',Heap.ExtBut it s.heap h' → (none : Option Value) = none ∧ Inv X pins σ H { s with heap:=h' }:=fun h' eb=>⟨rfl,I.turned (t':=s.toks) (fun b o hb e=>eb b o hb e) f0 f1 f3 f4 f5⟩
  rcases hn with rfl | rfl
  ·exact wpAny_pyNext_ascii_end (I.ok.hd hc) st hx fin
  ·exact wpAny_pyNext_wide_end (I.ok.hd hc) st hx fin
 self:=fun _ _ _ _ _ st h=>by
  rcases hn with rfl | rfl
  ·exact wpAny_pyIter_striter_ascii st h
  ·exact wpAny_pyIter_striter_wide st h
section
variable {X : Cx} {tg : Expr}
noncomputable def iTxt (tl : TE) : TI:=fun σ H R=>tl σ H fun x H1=>∃ l,x = T l ∧ R (Its l) H1
theorem JbA {e : Expr} {tl : TE} (hl : PE X e tl) : PI X tg e (iTxt tl):=by
 intro pins s σ H R I h
 refine thn (hl pins s σ H _ I h) fun v s1 ⟨x,H1,I1,r1,q1⟩=>?_
 obtain ⟨l,e,q⟩:=q1
 subst e
 obtain ⟨t,rfl⟩:=r1
 have fin : ∀ nm : String,(nm = "str_ascii_iterator" ∨ nm = "str_iterator") → PIE X pins σ tg R (.ref s1.heap.objs.size) { s1 with heap:=s1.heap.push { cls:=.type nm,data:=.fields #[.str ⟨l.toArray⟩ t,.int 0 0] } }:=fun nm hn=>by
  refine ⟨s1.heap.objs.size,[s1.heap.objs.size],_,_,H1,rfl,I1.kept (t':=s1.toks) fun b o e=>Heap.get?_push_of_some _ e,Jbl (t:=t) hn,⟨_,Heap.get?_push_size _ rfl,rfl,rfl⟩,fun b hb=>?_,q⟩
  have e : b = s1.heap.objs.size:=by simpa using hb
  subst e
  exact I1.fpOk (Nat.le_refl _) (I1.hok.fresh (Nat.le_refl _))
 cases ha : (⟨l.toArray⟩ : Str).cps.all (· < 128) with
 | true=>exact wpAny_pyIter_ascii ha (fin _ (.inl rfl))
 | false=>exact wpAny_pyIter_wide ha (fin _ (.inr rfl))
end
theorem J9T {l : List Nat} {g : TG} {tb : TS} {D : Ends} {σ : St} {H : Hp} (Pv : Nat → St → Hp → Prop) (h0 : Pv 0 σ H)
  (hs : ∀ i c σ H,l[i]? = some c → Pv i σ H → g (T [c]) σ H fun σ2 H2=>tb { D with nx:=Pv (i + 1),ct:=Pv (i + 1),bk:=D.nx } σ2 H2) (hd : ∀ σ H,Pv l.length σ H → D.nx σ H) :
  ∃ W : Nat → Nat → St → Hp → Prop,(∃ m,W 0 m σ H) ∧ ∀ i m σ H,W i m σ H →
   ((Its l).stop i H ∧ D.nx σ H) ∨ ((Its l).go i H ∧ ∃ N : St → Hp → Prop,(∀ σ' H',N σ' H' → ∃ m',m' < m ∧ W (i + 1) m' σ' H') ∧ ∀ x H',(Its l).yld i H x H' → g x σ H' fun σ2 H2=>tb { D with nx:=N,ct:=N,bk:=D.nx } σ2 H2):=by
 refine ⟨fun i m σ H=>m = l.length - i ∧ i ≤ l.length ∧ Pv i σ H,⟨l.length,by simp,Nat.zero_le _,h0⟩,?_⟩
 rintro i m σ H ⟨rfl,hi,p⟩
 by_cases hlt : i < l.length
 ·refine .inr ⟨hlt,Pv (i + 1),fun σ' H' p'=>⟨l.length - (i + 1),by omega,rfl,hlt,p'⟩,fun x H' y=>?_⟩
  obtain ⟨e,c,hc,rfl⟩:=y
  subst e
  exact hs i c σ _ hc p
 ·have e : i = l.length:=by omega
  subst e
  exact .inl ⟨Nat.le_refl _,hd σ H p⟩
theorem J6T : ∀ {ts : List (List Nat)} {us : List Value},Vals (ts.map T) us → PyProof.Rows.StrsAre us (ts.map fun l=>⟨l.toArray⟩)
 | [],_,h=>by cases h; exact .nil
 | l :: r,_,h=>by
  cases h with
  | cons r1 r2 =>
   obtain ⟨t,rfl⟩:=r1
   exact .cons _ t (J6T r2)
noncomputable def J68 (sep : List Nat) : List (List Nat) → List Nat
 | []=>[]
 | [x]=>x
 | x :: y :: r=>x ++ sep ++ J68 sep (y :: r)
theorem J8z (sep : List Nat) : ∀ ts : List (List Nat),Str.join ⟨sep.toArray⟩ (ts.map fun l=>⟨l.toArray⟩) = ⟨(J68 sep ts).toArray⟩
 | []=>rfl
 | [x]=>rfl
 | x :: y :: r=>by
  show (⟨x.toArray⟩ : Str) ++ ⟨sep.toArray⟩ ++ Str.join ⟨sep.toArray⟩ ((y :: r).map fun l=>⟨l.toArray⟩) = _
  rw [J8z sep (y :: r),JcN,JcN]
  rfl
theorem J79 : ∀ ts : List (List Nat),J68 [] ts = ts.flatten
 | []=>rfl
 | [x]=>by simp [J68]
 | x :: y :: r=>by
  show x ++ [] ++ J68 [] (y :: r) = _
  rw [J79 (y :: r),List.append_nil]
  rfl
theorem J8A : ∀ cs : List Nat,(((cs.map fun c=>[c]).map List.length).sum) = cs.length
 | []=>rfl
 | c :: r=>by
  rw [List.map_cons,List.map_cons,List.sum_cons,J8A r]
  simp
  omega
theorem J6N : ∀ cs : List Nat,(cs.map fun c=>[c]).flatten = cs
 | []=>rfl
 | c :: r=>by
  rw [List.map_cons,List.flatten_cons,J6N r]
  rfl
section
variable {X : Cx}
noncomputable def JaX (K : PySem.W.Frag) : V → List V → Hp → VK → Prop:=fun x vs H Q=>∃ sep ts D,x = T sep ∧ vs = [.ref D] ∧ SqL K H D (ts.map T) ∧ (ts.map List.length).sum + ts.length * sep.length ≤ 16777216 ∧ Q (T (J68 sep ts)) H
theorem Jc9 : MtR X "str.join" (JaX X.K):=by
 intro pins s σ H x vs v us Q I rx rv h
 obtain ⟨sep,ts,D,rfl,rfl,hq,hz,q⟩:=h
 obtain ⟨t,rfl⟩:=rx
 obtain ⟨u,rfl,ru⟩:=rv.one
 cases ru
 obtain ⟨its,r,pl,_⟩:=I.list hq
 refine join_list (ys:=ts.map fun l=>⟨l.toArray⟩) pl.isList (by simpa using J6T r) ?_ fun t' k=>⟨T (J68 sep ts),H,I.tok _,⟨t',?_⟩,q⟩
 ·rw [List.map_map,List.length_map,J8L]
  have e : ((fun x=>x.length) ∘ fun l : List Nat=>(⟨l.toArray⟩ : Str)) = List.length:=by funext l; exact J8L l
  rw [e]
  exact hz
 ·rw [← J8z]
  show Value.str (Builtin.Str.glued _ _) t' = _
  rw [StrLaws.glued_eq_join]
end
theorem Jcm {X : Cx} {o e : Expr} {to : TE} {t : TA} {apos cpos : Pos} (ho : PE X o to) (ha : PA X [e] t)
  (hbase : attributeBase o "join" X.env (eval o X.env) = eval o X.env:=by rfl)
  (hfew : ((backTo cpos (starEach [e] X.env)).all (fun x=>!x.1) && (backToKw cpos (keywordEach [] X.env)).all (fun x=>x.1.isSome)
   && decide ([e].length + ([] : List Keyword).length + (if ([] : List Keyword).isEmpty then 0 else 1) < 30)) = true:=by rfl)
  (hline : (apos.endLine == cpos.line) = true:=by rfl) (hs : starEach [e] X.env = (false,eval e X.env) :: starEach [] X.env:=by rfl) (hplain : (backTo cpos (starEach [] X.env)).any (·.1) = false:=by rfl) :
  PE X (.Call (.Attribute o "join" apos) [e] [] cpos) (tBM X.K "str" (JaX X.K) to t) :=
 J7c F.plainAttrs_str F.slot_str_join F.type_str_join Jc9 ho ha hbase hfew hline hs hplain
section
variable {X : Cx}
theorem J6Q : J1p X (.builtin "isinstance") (fun xs H Q=>(∃ b,xs = [.bl b,.ty "bool"] ∧ Q (.bl true) H) ∨ (∃ i,xs = [.int i,.ty "bool"] ∧ Q (.bl false) H) ∨ (∃ i,xs = [.int i,.ty "int"] ∧ Q (.bl true) H) ∨ (∃ x,xs = [.str x,.ty "str"] ∧ Q (.bl true) H) ∨
  (∃ p ys,xs = [.ref p,.ty "list"] ∧ H p = some (.lst ys) ∧ Q (.bl true) H)):=by
 intro pins s σ H xs us Q I r h
 rcases h with ⟨b,rfl,q⟩ | ⟨i,rfl,q⟩ | ⟨i,rfl,q⟩ | ⟨x,rfl,q⟩ | ⟨p,ys,rfl,hp,q⟩
 ·obtain ⟨u,v,rfl,r1,r2⟩:=r.two
  cases r1; cases r2
  exact PySem.W.kia_one PySem.W.kitx_bool I.kIn True.intro (by rfl) (fun z=>nomatch z) fun tk=>⟨.bl true,H,I.tok _,rfl,q⟩
 ·obtain ⟨u,v,rfl,r1,r2⟩:=r.two
  obtain ⟨t,rfl⟩:=r1; cases r2
  exact PySem.W.kia_one PySem.W.kitx_int I.kIn True.intro (by rfl) (fun z=>nomatch z) fun tk=>⟨.bl false,H,I.tok _,rfl,q⟩
 ·obtain ⟨u,v,rfl,r1,r2⟩:=r.two
  obtain ⟨t,rfl⟩:=r1; cases r2
  exact PySem.W.kia_one PySem.W.kitx_int I.kIn True.intro (by rfl) (fun z=>nomatch z) fun tk=>⟨.bl true,H,I.tok _,rfl,q⟩
 ·obtain ⟨u,v,rfl,r1,r2⟩:=r.two
  obtain ⟨t,rfl⟩:=r1; cases r2
  exact PySem.W.kia_one PySem.W.kitx_str I.kIn True.intro (by rfl) (fun z=>nomatch z) fun tk=>⟨.bl true,H,I.tok _,rfl,q⟩
 ·obtain ⟨u,v,rfl,r1,r2⟩:=r.two
  cases r1; cases r2
  obtain ⟨_,its,n,_,h1⟩:=I.hok p _ hp
  exact PySem.W.kia_one PySem.W.kitx_list I.kIn ⟨_,h1,rfl⟩ (by rfl) (fun z=>nomatch z) fun tk=>⟨.bl true,H,I.tok _,rfl,q⟩
end
end L2
set_option linter.all false
set_option maxRecDepth 100000
set_option maxHeartbeats 4000000
namespace L2
open PySem PySem.Spec PyProof.Rows
open Builtin Builtin.Str
section
variable {prog : Program} {w : World} {A : Around} {E : Value → Shared → Prop} {s : Shared}
structure J3h (z TI TO i1 i2 : Addr) : Prop where
 TIz : TI ≠ z
 TOz : TO ≠ z
 i1z : i1 ≠ z
 i2z : i2 ≠ z
 TITO : TI ≠ TO
 TIi1 : TI ≠ i1
 TIi2 : TI ≠ i2
 TOi1 : TO ≠ i1
 TOi2 : TO ≠ i2
 i12 : i1 ≠ i2
theorem J47 (n : Nat) : J3h (n + 4) (n + 2) (n + 3) n (n + 1) :=
 ⟨Nat.ne_of_lt (by omega),Nat.ne_of_lt (by omega),Nat.ne_of_lt (by omega),Nat.ne_of_lt (by omega),Nat.ne_of_lt (by omega),Nat.ne_of_gt (by omega),Nat.ne_of_gt (by omega),Nat.ne_of_gt (by omega),Nat.ne_of_gt (by omega),Nat.ne_of_lt (by omega)⟩
theorem J8T {it : Addr} {l : List Nat} {t : Tok} {nm : String} (hh : A.handled = none) (hn : nm = "str_ascii_iterator" ∨ nm = "str_iterator") :
  Draws prog w A it [it] l.length (fun i v=>∃ c u,l[i]? = some c ∧ v = .str ⟨#[c]⟩ u) (fun i h=>h.IsStrIter it nm ⟨l.toArray⟩ t i):=by
 rcases hn with rfl | rfl
 ·have D:=Draws.strAscii (prog:=prog) (w:=w) hh it ⟨l.toArray⟩ t
  simpa using D
 ·have D:=Draws.strWide (prog:=prog) (w:=w) hh it ⟨l.toArray⟩ t
  simpa using D
end
theorem Inv.turnedN {X : Cx} {pins : List (Addr × Obj)} {σ : St} {H : Hp} {s : Shared} {h' : Heap} {t' : Nat} {ch : List Addr} (I : Inv X pins σ H s) (k : ∀ b o,b ∉ ch → s.heap.get? b = some o → h'.get? b = some o) (hf : ∀ b ∈ ch,FpOk X pins H b) :
  Inv X pins σ H { s with heap:=h',toks:=t' }:=by
 have nch : ∀ b u,H b = some u → b ∉ ch:=fun b u e z=>by rw [(hf b z).1] at e; cases e
 refine I.step (g':=s.gens) (d':=s.drawn) (ch:=ch) (fun b hb=>?_) (fun b o _ _ hc e _=>k b o hc e) (fun b o _ _ hc e _=>⟨o.slots,k b o hc e⟩) (fun _ _ _ _ n=>n)
  (fun b o hc e=>⟨o,k b o hc e⟩) (fun _ _ e=>e) (fun _ _ _ e=>e) (fun b ps e=>⟨#[],by rw [e]; simp⟩) (fun m hm=>?_) (fun b u e=>?_) I.bare
 ·obtain ⟨f0,f1,f2,f3,f4,f5⟩:=hf b hb
  exact ⟨f3,f1,f4,f5⟩
 ·obtain ⟨o,es,ep,ho,r⟩:=hm
  exact ⟨o,es,ep,k _ o (fun z=>(hf _ z).2.1 rfl) ho,r⟩
 ·refine (I.hok b u e).stay (fun c v hc q=>k c v ?_ q) (fun _ q=>q) fun _ _ q=>q
  rcases hc with z | z
  ·rw [z]; exact nch b u e
  ·exact nch c _ z
noncomputable def J3j (l : List Nat) : String:=if (⟨l.toArray⟩ : Str).cps.all (· < 128) = true then "str_ascii_iterator" else "str_iterator"
theorem J77 (l : List Nat) : J3j l = "str_ascii_iterator" ∨ J3j l = "str_iterator":=by
 unfold J3j; split
 ·exact .inl rfl
 ·exact .inr rfl
theorem J8w {prog : Program} {w : World} {A : Around} {E : Value → Shared → Prop} {hp : Heap} {g : Array GenState} {d : Drawn} {tk : Nat} {os : OsState} {l : List Nat} {t : Tok} {Q : Value → Shared → Prop}
  (h : Q (.ref hp.objs.size) ⟨hp.push { cls:=.type (J3j l),data:=.fields #[.str ⟨l.toArray⟩ t,.int 0 0] },g,d,tk,os⟩) : wpAny (model prog w) A (pyIter (.str ⟨l.toArray⟩ t)) Q E ⟨hp,g,d,tk,os⟩:=by
 cases ha : (⟨l.toArray⟩ : Str).cps.all (· < 128) with
 | true =>
  have e : J3j l = "str_ascii_iterator":=by unfold J3j; rw [if_pos ha]
  rw [e] at h
  exact wpAny_pyIter_ascii (s:=⟨hp,g,d,tk,os⟩) ha h
 | false =>
  have e : J3j l = "str_iterator":=by unfold J3j; rw [if_neg (by rw [ha]; exact Bool.false_ne_true)]
  rw [e] at h
  exact wpAny_pyIter_wide (s:=⟨hp,g,d,tk,os⟩) ha h
section
variable {X : Cx} {es : List Expr} {k : Nat} {tpos : Pos}
end
end L2
set_option linter.all false
set_option maxRecDepth 100000
set_option maxHeartbeats 4000000
namespace L2
open PySem PySem.Spec PyProof.Rows
end L2
set_option linter.all false
set_option maxRecDepth 100000
set_option maxHeartbeats 4000000
namespace L2
open PySem PySem.Spec PyProof.Rows
noncomputable def GF (K : PySem.W.Frag) (mg : Str → Option Value) (x : Str) (st : Stmt) : Prop:=∃ f fd,Fun K x x st f fd ∧ mg x = some (.ref f)
noncomputable def FnG (P : Program) (w : World) (K : PySem.W.Frag) (mg : Str → Option Value) (base : Heap) (x : Str) (k : Nat) (ps : List Str) (sp : Sp) : Prop :=
 ∃ f fd,FnOk P w K mg base CX0 k f fd ps sp ∧ mg x = some (.ref f) ∧ PySem.W.keepIn K (.ref f) = true ∧ J3U K fd ps []
noncomputable def MF (K : PySem.W.Frag) (C : Addr) (m qual : Str) (st : Stmt) : Prop:=∃ f fd,Fun K m qual st f fd ∧ Meth K C m f
noncomputable def MtG (P : Program) (w : World) (K : PySem.W.Frag) (mg : Str → Option Value) (base : Heap) (C : Addr) (m : Str) (k : Nat) (ps : List Str) (sp : Sp) : Prop :=
 ∃ f fd,FnOk P w K mg base CX0 k f fd ps sp ∧ Cls K C ∧ Meth K C m f ∧ J3U K fd ps []
structure CF (K : PySem.W.Frag) (mg : Str → Option Value) (x : Str) (C : Addr) : Prop where
 cl : Cls K C
 mg : mg x = some (.ref C)
 makes : PySem.W.makesIn K C = true
 kp : PySem.W.keepIn K (.ref C) = true
noncomputable def MkG (P : Program) (w : World) (K : PySem.W.Frag) (mg : Str → Option Value) (base : Heap) (C : Addr) (x : Str) (k : Nat) (ps : List Str) (sp : Sp) : Prop :=
 ∃ f fd,FnOk P w K mg base CX0 k f fd ps sp ∧ Mk K C f ∧ mg x = some (.ref C) ∧ J3U K fd ps []
section
variable {P : Program} {w : World} {K : PySem.W.Frag} {mg : Str → Option Value} {base : Heap}
theorem GF.g {x : Str} {st : Stmt} {N ps : List Str} {k : Nat} {sp : Sp} (F : GF K mg x st) (S : Jn N ps (J2 st))
  (bnd : ∀ (kV doc pm : Value) (an : Option Addr) (cdv ct : Value) (us : List Value),us.length = ps.length → bindArgs (PySem.W.fnOf x x (Jm st) (Jl st) (J2 st) .none kV doc pm an cdv ct) ⟨us,[]⟩ = pure (ps.zip us))
  (len : ∀ vs H Q E,sp vs H Q E → vs.length = ps.length)
  (hbody : ∀ (f : Addr) (cdv : Value) (A : Around) (outer : List Env) (s : Shared) (H : Hp) (vs : List V) (Q : VK) (E : XK),Room k (A.deeper (envOfC x (J2 st) s.heap.objs.size f cdv)) → sp vs H Q E →
   ∃ t,PSs (cxOf CX0 P w K mg base N x (J2 st) f cdv A outer s H E).nox (Jl st) t ∧ t { nx:=fun _ H'=>Q .non H',rt:=Q } (start N vs) H) : FnG P w K mg base x (k + 1) ps sp:=by
 obtain ⟨f,fd,F,m⟩:=F
 exact ⟨f,fd,F.ok S len fun cdv A outer s H vs Q E hr h=>hbody f cdv A outer s H vs Q E hr h,m,F.kp,F.binds bnd⟩
theorem MF.g {C : Addr} {m qual : Str} {st : Stmt} {N ps : List Str} {k : Nat} {sp : Sp} (F : MF K C m qual st) (cl : Cls K C) (S : Jn N ps (J2 st))
  (bnd : ∀ (kV doc pm : Value) (an : Option Addr) (cdv ct : Value) (us : List Value),us.length = ps.length → bindArgs (PySem.W.fnOf m qual (Jm st) (Jl st) (J2 st) .none kV doc pm an cdv ct) ⟨us,[]⟩ = pure (ps.zip us))
  (len : ∀ vs H Q E,sp vs H Q E → vs.length = ps.length)
  (hbody : ∀ (f : Addr) (cdv : Value) (A : Around) (outer : List Env) (s : Shared) (H : Hp) (vs : List V) (Q : VK) (E : XK),Room k (A.deeper (envOfC qual (J2 st) s.heap.objs.size f cdv)) → sp vs H Q E →
   ∃ t,PSs (cxOf CX0 P w K mg base N qual (J2 st) f cdv A outer s H E).nox (Jl st) t ∧ t { nx:=fun _ H'=>Q .non H',rt:=Q } (start N vs) H) : MtG P w K mg base C m (k + 1) ps sp:=by
 obtain ⟨f,fd,F,m⟩:=F
 exact ⟨f,fd,F.ok S len fun cdv A outer s H vs Q E hr h=>hbody f cdv A outer s H vs Q E hr h,cl,m,F.binds bnd⟩
theorem CF.g {C : Addr} {x : Str} {k : Nat} {ps : List Str} {sp : Sp} (c : CF K mg x C) (G : MtG P w K mg base C "__init__" k ps sp) : MkG P w K mg base C x k ps sp:=by
 obtain ⟨f,fd,a,_,m,b⟩:=G
 exact ⟨f,fd,a,⟨c.makes,m.at_,m.fn,c.kp⟩,c.mg,b⟩
end
section
variable {X : Cx} {x m : Str} {k : Nat} {ps : List Str} {sp : Sp} {C : Addr} {p pos apos : Pos} {e o : Expr} {es : List Expr} {t : TA} {to : TE}
theorem Jz (G : FnG X.prog X.w X.K X.mg X.base x k ps sp) (hr : Room k X.A) (ha : PA X (e :: es) t) (hg : Gl X x:=by rfl) (hdb : (x == ("__debug__" : Str)) = false:=by decide)
  (he : starEach (e :: es) X.env = (false,eval e X.env) :: starEach es X.env:=by rfl) (hpl : (backTo pos (starEach es X.env)).any (·.1) = false:=by rfl) : PE X (.Call (.Name x p) (e :: es) [] pos) (JcU sp [] E0 t):=by
 obtain ⟨f,fd,a,b,c,d⟩:=G
 exact Jcj a hr hg b c d .nil J9Q ha hdb he hpl
theorem JcW {pl : Sem Bool} (G : MtG X.prog X.w X.K X.mg X.base C m k ps sp) (hr : Room k X.A) (ho : PE X o to) (ha : PA X (e :: es) t)
  (hst : starEach (e :: es) X.env = (false,eval e X.env) :: starEach es X.env:=by rfl) (hpl : (backTo pos (starEach es X.env)).any (·.1) = false:=by rfl)
  (ht : eval (.Call (.Attribute o m apos) (e :: es) [] pos) X.env = (do
   let ov ← eval o X.env
   standAt apos.atName
   let (f,first) ← holding [ov] (getMethod ov m pl)
   callWith pos f first (backTo pos (starEach (e :: es) X.env)) (backToKw pos (keywordEach [] X.env))):=by rfl) :
  PE X (.Call (.Attribute o m apos) (e :: es) [] pos) (Jd0 C m sp [] E0 to t):=by
 obtain ⟨f,fd,a,b,c,d⟩:=G
 exact JcG (pl:=pl) ho b c a hr d .nil J9Q ha hst hpl ht
noncomputable def JdP (P : Program) (w : World) (K : PySem.W.Frag) (mg : Str → Option Value) (base : Heap) (n : Nat) (m : Str) (ta : TE) (t : TA) : TE:=fun σ H Q=>ta σ H fun x H1=>∃ a C dx fs k ps sp,x = .ref a ∧ H1 a = some (.ins C dx fs) ∧ fs.lookup m = none ∧
 MtG P w K mg base C m k ps sp ∧ k ≤ n ∧ t σ H1 fun vs H2=>sp (x :: vs) H2 Q E0
theorem J80 {P : Program} {w : World} {K : PySem.W.Frag} {mg : Str → Option Value} {base : Heap} {n : Nat} {pl : Sem Bool} (hr : Room n X.A) (ho : PE X o to) (ha : PA X (e :: es) t) (hP : X.prog = P) (hw : X.w = w) (hK : X.K = K) (hmg : X.mg = mg) (hbs : X.base = base)
  (hst : starEach (e :: es) X.env = (false,eval e X.env) :: starEach es X.env:=by rfl) (hpl : (backTo pos (starEach es X.env)).any (·.1) = false:=by rfl)
  (ht : eval (.Call (.Attribute o m apos) (e :: es) [] pos) X.env = (do
   let ov ← eval o X.env
   standAt apos.atName
   let (f,first) ← holding [ov] (getMethod ov m pl)
   callWith pos f first (backTo pos (starEach (e :: es) X.env)) (backToKw pos (keywordEach [] X.env))):=by rfl) :
  PE X (.Call (.Attribute o m apos) (e :: es) [] pos) (JdP P w K mg base n m to t):=by
 subst hP hw hK hmg hbs
 intro pins s σ H Q I h
 refine PySem.W.methodCall_KW (pl:=pl) (thn (ho pins s σ H _ I h) fun u s1 ⟨x,H1,I1,rx,a,C,dx,fs,k,ps,sp,ex,ea,l,G,hk,q⟩=>?_) ht
 have hr:=hr.mono hk
 obtain ⟨f,fd,F,c,hm,hb⟩:=G
 subst ex
 obtain rfl : u = Value.ref a:=rx
 refine J6d I1 ea c hm l ?_
 refine PySem.W.callWith_K (first:=[.ref a]) (h₀:=X.base) I.ok.mod.kin hm.kp (thn (ha pos pins s1 σ H1 _ I1 q) fun us s2 ⟨vs,H2,I2,r,q2⟩=>⟨I2.kIn,?_⟩) hst hpl
 exact J9h (us:=.ref a :: us) (vs:=.ref a :: vs) (E:=E0) F hr hb .nil J9Q I2 (.cons rfl r) (by rw [List.append_nil]; exact q2)
theorem JcT {n : Str} {T : String} (hm : X.mg n = none) (hv : bootBuiltins n = some (.type T)) (hg : Gl X n:=by rfl) (hn : n ≠ "__name__":=by decide) (hd : (n == ("__debug__" : Str)) = false:=by decide) : PE X (.Name n pos) (tC (.ty T)) :=
 Jcc hg hm hv rfl hn hd
end
section
variable {X : Cx} {K : PySem.W.Frag}
theorem J2e (h : X.K = K) : IxR X (rIxL K):=h ▸ Jcq
theorem Jw (h : X.K = K) : IxR X (rIxT K):=h ▸ Jdh
theorem JbR (h : X.K = K) : SlR X (rSlL K):=h ▸ Jcl
theorem JH (h : X.K = K) : J1p X (.builtin "len") (fun xs H Q=>∃ p ys,xs = [.ref p] ∧ (SqL K H p ys ∨ SqT K H p ys) ∧ Q (.int ys.length) H):=h ▸ J7T
theorem Jr {e : Expr} {f : Str} {ta : TE} {pos : Pos} (h : X.K = K) (he : PE X e ta) (hb : attributeBase e f X.env (eval e X.env) = eval e X.env) : PE X (.Attribute e f pos) (tFld K ta f):=h ▸ JdM he hb
theorem Jbk {o e : Expr} {to : TE} {t : TA} {apos cpos : Pos} (h : X.K = K) (ho : PE X o to) (ha : PA X [e] t)
  (hbase : attributeBase o "join" X.env (eval o X.env) = eval o X.env:=by rfl)
  (hfew : ((backTo cpos (starEach [e] X.env)).all (fun x=>!x.1) && (backToKw cpos (keywordEach [] X.env)).all (fun x=>x.1.isSome)
   && decide ([e].length + ([] : List Keyword).length + (if ([] : List Keyword).isEmpty then 0 else 1) < 30)) = true:=by rfl)
  (hline : (apos.endLine == cpos.line) = true:=by rfl) (hs : starEach [e] X.env = (false,eval e X.env) :: starEach [] X.env:=by rfl) (hplain : (backTo cpos (starEach [] X.env)).any (·.1) = false:=by rfl) :
  PE X (.Call (.Attribute o "join" apos) [e] [] cpos) (tBM K "str" (JaX K) to t):=h ▸ Jcm ho ha hbase hfew hline hs hplain
theorem Jt {tg l : Expr} {tl : TE} (h : X.K = K) (hl : PE X l tl) : PI X tg l (JcI K tl):=h ▸ Jc7 hl
theorem J3x {i j : Nat} {x y : Str} {px py pos : Pos} {k : Nat} (h : X.K = K) (hc : X.calm = true) (hN : X.N.Nodup) (hi : X.N[i]? = some x) (hj : X.N[j]? = some y) (hx : Loc X.env.scope x) (hy : Loc X.env.scope y)
  (hfx : X.fn x = true ∨ X.env.scope.names.lookup x = some .local:=by first | exact .inl rfl | exact .inr rfl | assumption) (hfy : X.fn y = true ∨ X.env.scope.names.lookup y = some .local:=by first | exact .inl rfl | exact .inr rfl | assumption) :
  PG X (.Tuple [.Name x px,.Name y py] k pos) (gTup K 2 (J8Q (J3V i) (J8Q (J3V j) gNil))):=h ▸ J1Y hc (Jp (Jk hN hi hx hfx) (Jp (Jk hN hj hy hfy) J0Y))
end
theorem J9w : bootBuiltins "bool" = some (.type "bool"):=by decide +kernel
theorem JaB : bootBuiltins "int" = some (.type "int"):=by decide +kernel
theorem J0w : bootBuiltins "list" = some (.type "list"):=by decide +kernel
theorem J6h : bootBuiltins "min" = some (.builtin "min"):=by decide +kernel
theorem J1o : bootBuiltins "isinstance" = some (.builtin "isinstance"):=by decide +kernel
end L2
set_option linter.all false
set_option maxRecDepth 100000
set_option maxHeartbeats 4000000
namespace L2
open PySem PySem.Spec PyProof.Rows
theorem Vals.rel {xs : List V} {us : List Value} (r : Vals xs us) : ∀ (j : Nat) (h1 : j < xs.length) (h2 : j < us.length),RelV xs[j] us[j]:=by
 induction r with
 | nil=>intro j h1; simp at h1
 | cons a t ih =>
  intro j h1 h2
  cases j with
  | zero=>exact a
  | succ j=>exact ih j (by simpa using h1) (by simpa using h2)
noncomputable def eqVs : List V → List V → Bool
 | [],[]=>true
 | x :: xs,y :: ys=>eqV x y && eqVs xs ys
 | _,_=>false
theorem J65 : ∀ {xs ys : List V},xs.length ≠ ys.length → eqVs xs ys = false
 | [],[],h=>absurd rfl h
 | [],_ :: _,_=>rfl
 | _ :: _,[],_=>rfl
 | x :: xs,y :: ys,h=>by
  have : xs.length ≠ ys.length:=fun e=>h (by simp [e])
  rw [eqVs,J65 this,Bool.and_false]
theorem J4a : ∀ {xs ys : List V},xs.length = ys.length → (List.range xs.length).all (fun j=>eqV (xs.getD j .non) (ys.getD j .non)) = eqVs xs ys
 | [],[],_=>rfl
 | [],_ :: _,h=>by simp at h
 | _ :: _,[],h=>by simp at h
 | x :: xs,y :: ys,h=>by
  have h' : xs.length = ys.length:=by simpa using h
  rw [List.length_cons,List.range_succ_eq_map,List.all_cons,List.all_map,eqVs,← J4a h']
  rfl
section
variable {X : Cx} {K : PySem.W.Frag}
theorem J8R {A : Around} {s : Shared} {xs ys : List V} {ia ib : List Value} (ra : Vals xs ia) (rb : Vals ys ib) (fx : xs.all J1D = true) (fy : ys.all J1D = true) :
  ∀ j (h1 : j < ia.toArray.size) (h2 : j < ib.toArray.size),SeqAt.EqAt A s ia.toArray[j] ib.toArray[j] (eqV (xs.getD j .non) (ys.getD j .non)):=by
 intro j h1 h2
 have la:=ra.length
 have lb:=rb.length
 have g1 : j < ia.length:=by simpa using h1
 have g2 : j < ib.length:=by simpa using h2
 have e1 : xs.getD j .non = xs[j]'(by omega):=by rw [List.getD_eq_getElem?_getD,List.getElem?_eq_getElem (by omega)]; rfl
 have e2 : ys.getD j .non = ys[j]'(by omega):=by rw [List.getD_eq_getElem?_getD,List.getElem?_eq_getElem (by omega)]; rfl
 rw [e1,e2]
 have k1:=ra.rel j (by omega) g1
 have k2:=rb.rel j (by omega) g2
 have q:=J9d (A:=A) (s:=s) k1 k2 (List.all_eq_true.mp fx _ (List.getElem_mem _)) (List.all_eq_true.mp fy _ (List.getElem_mem _))
 simpa using q
noncomputable def rEqL (K : PySem.W.Frag) (neg : Bool) : R2:=fun x y H Q=>∃ p r xs ys,x = .ref p ∧ y = .ref r ∧ SqL K H p xs ∧ SqL K H r ys ∧ xs.all J1D = true ∧ ys.all J1D = true ∧ Q (.bl (if neg then !eqVs xs ys else eqVs xs ys)) H
theorem Jb4 (h : X.K = K) (hu : X.A.units < cLine) : OpR X (compareOp .NotEq) (rEqL K true):=by
 subst h
 intro pins s σ H x y v u Q I rx ry h
 obtain ⟨p,r,xs,ys,rfl,rfl,hp,hr,fx,fy,q⟩:=h
 cases rx; cases ry
 obtain ⟨ia,ra,pa,za⟩:=I.list hp
 obtain ⟨ib,rb,pb,zb⟩:=I.list hr
 have la:=ra.length
 have lb:=rb.length
 have q' : Q (.bl (!eqVs xs ys)) H:=q
 by_cases hsz : xs.length = ys.length
 ·refine SeqAt.RcNeAt.lists (e:=fun j=>eqV (xs.getD j .non) (ys.getD j .non)) pa.isList pb.isList (by simp; omega) hu (J8R ra rb fx fy) _ _ _ _ ⟨.bl _,H,I,rfl,?_⟩
  rw [List.size_toArray,← la,J4a hsz]
  exact q'
 ·refine SeqAt.RcNeAt.lists_lengths pa.isList pb.isList (by simp; omega) hu _ _ _ _ ⟨.bl true,H,I,rfl,?_⟩
  rw [J65 hsz] at q'
  exact q'
end
end L2
set_option linter.all false
set_option maxRecDepth 100000
set_option maxHeartbeats 4000000
namespace L2
open PySem PySem.Spec PyProof.Rows
structure J9L (K : PySem.W.Frag) (C : Addr) : Prop where
 cl : Cls K C
 ha : PySem.W.findIn K (.ref C) "__class__" = some (some (.builtin "object.__class__"))
 hn : PySem.W.specialIn K (.builtin "object.__class__") "__get__" = some (some (.builtin "getset_descriptor.__get__"))
 htk : PySem.W.takesIn K (.builtin "object.__class__") = some true
 hm : PySem.W.mroIn K C (.type "object") = some true
section
variable {X : Cx} {K : PySem.W.Frag}
theorem J49 (h : X.K = K) : J1p X (.builtin "isinstance") (fun xs H Q=>∃ p D C dx fs b,xs = [.ref p,.ref D] ∧ H p = some (.ins C dx fs) ∧ J9L K C ∧ PySem.W.kitOne K (.ref C) (.ref D) = some b ∧ Q (.bl b) H):=by
 subst h
 intro pins s σ H xs us Q I r h
 obtain ⟨p,D,C,dx,fs,b,rfl,hp,ty,hk,q⟩:=h
 obtain ⟨u,v,rfl,r1,r2⟩:=r.two
 cases r2
 exact Jaq I r1 (.ins hp ty.cl ty.ha ty.hn ty.htk ty.hm) hk fun tk=>⟨.bl b,H,I.tok _,rfl,q⟩
end
section
variable {prog : Program} {w : World} {A : Around} {E : Value → Shared → Prop} {s : Shared}
end
section
variable {X : Cx} {K : PySem.W.Frag} {pos : Pos}
end
end L2
set_option linter.all false
set_option maxRecDepth 100000
set_option maxHeartbeats 4000000
namespace L2
open PySem PySem.Spec PyProof.Rows
theorem J20 {h : Heap} {a b : Addr} {o p : Obj} (ha : h.get? a = some o) (hb : h.get? b = some p) (hc : o.cls ≠ p.cls) : a ≠ b:=by
 rintro rfl
 rw [ha] at hb
 cases hb
 exact hc rfl
theorem J4Y {h : Heap} {z TI TO i1 i2 l1 l2 : Addr} {f0 a b : Value} {k1 k2 : Nat} {xs ys : Array Value} (F : J3h z TI TO i1 i2) (hz : IsZip h z TI TO f0) (hTI : IsPair h TI (.ref i1) (.ref i2)) (hTO : IsPair h TO a b)
  (h1 : h.IsListIter i1 l1 k1) (h2 : h.IsListIter i2 l2 k2) (hl1 : h.IsList l1 xs) (hl2 : h.IsList l2 ys) : ZipApart z TI TO i1 i2 l1 l2:=by
 obtain ⟨o1,e1,c1,_⟩:=h1
 obtain ⟨o2,e2,c2,_⟩:=h2
 obtain ⟨p1,q1,d1,_⟩:=hl1
 obtain ⟨p2,q2,d2,_⟩:=hl2
 have n1 : (Value.type "list") ≠ .type "zip":=by intro z; injection z with z; revert z; decide
 have n2 : (Value.type "list") ≠ .type "tuple":=by intro z; injection z with z; revert z; decide
 have n3 : (Value.type "list") ≠ .type "list_iterator":=by intro z; injection z with z; revert z; decide
 exact ⟨F.TIz,F.TOz,F.i1z,F.i2z,F.TITO,F.TIi1,F.TIi2,F.TOi1,F.TOi2,F.i12,
  J20 q1 hz (by rw [d1]; exact n1),J20 q1 hTO (by rw [d1]; exact n2),J20 q1 e1 (by rw [d1,c1]; exact n3),J20 q1 e2 (by rw [d1,c2]; exact n3),
  J20 q2 hz (by rw [d2]; exact n1),J20 q2 hTO (by rw [d2]; exact n2),J20 q2 e1 (by rw [d2,c1]; exact n3),J20 q2 e2 (by rw [d2,c2]; exact n3)⟩
noncomputable def Izl (K : PySem.W.Frag) (a b : Addr) : It :=
  ⟨fun i H=>∃ xs ys x y,SqL K H a xs ∧ SqL K H b ys ∧ xs[i]? = some x ∧ ys[i]? = some y,
   fun i H v H'=>∃ p x y,H p = none ∧ (∀ xs,SqL K H a xs → xs[i]? = some x) ∧ (∀ ys,SqL K H b ys → ys[i]? = some y) ∧ v = .ref p ∧ H' = upd H p (.tup [x,y]),
   fun i H=>∃ xs ys,SqL K H a xs ∧ SqL K H b ys ∧ (xs.length ≤ i ∨ ys.length ≤ i)⟩
theorem Jap {P : Program} {w : World} {K : PySem.W.Frag} {es : List Expr} {k : Nat} {pos : Pos} {z TI TO i1 i2 l1 l2 : Addr} (F : J3h z TI TO i1 i2) :
  Turn P w K (.Tuple es k pos) (Izl K l1 l2) [z,TI,TO,i1,i2] z (fun i h=>IsZip h z TI TO .none ∧ IsPair h TI (.ref i1) (.ref i2) ∧ (∃ a b,IsPair h TO a b) ∧ h.IsListIter i1 l1 i ∧ h.IsListIter i2 l2 i) where
 mem:=by simp
 obj:=fun i h st b hb=>by
  obtain ⟨hz,hTI,⟨a,b',hTO⟩,⟨o1,e1,c1,d1⟩,o2,e2,c2,d2⟩:=st
  simp only [List.mem_cons,List.not_mem_nil,or_false] at hb
  rcases hb with rfl | rfl | rfl | rfl | rfl
  ·exact ⟨_,hz,fun v q=>by cases q⟩
  ·exact ⟨_,hTI,fun v q=>by cases q⟩
  ·exact ⟨_,hTO,fun v q=>by cases q⟩
  ·exact ⟨o1,e1,fun v q=>by rw [d1] at q; cases q⟩
  ·exact ⟨o2,e2,fun v q=>by rw [d2] at q; cases q⟩
 keep:=fun i h h' st kk=>by
  obtain ⟨hz,hTI,⟨a,b',hTO⟩,⟨o1,e1,r1⟩,o2,e2,r2⟩:=st
  exact ⟨kk z (by simp) _ hz,kk TI (by simp) _ hTI,⟨a,b',kk TO (by simp) _ hTO⟩,⟨o1,kk i1 (by simp) _ e1,r1⟩,o2,kk i2 (by simp) _ e2,r2⟩
 item:=by
  intro X hP hw hK hc i pins s σ H E I hf st hg
  subst hP hw hK
  obtain ⟨hz,hTI,⟨a,b,hTO⟩,h1,h2⟩:=st
  obtain ⟨xs,ys,x,y,hq1,hq2,hx,hy⟩:=hg
  obtain ⟨ia,ra,pa,_⟩:=I.list hq1
  obtain ⟨ib,rb,pb,_⟩:=I.list hq2
  obtain ⟨u,hu,ru⟩:=ra.get hx
  obtain ⟨v,hv,rv⟩:=rb.get hy
  have D:=J4Y F hz hTI hTO h1 h2 pa.isList pb.isList
  obtain ⟨tk,htk⟩ : ∃ tk,tk = s.toks:=⟨_,rfl⟩
  refine wpAny_pyNext_zip_item D hz hTI hTO h1 h2 pa.isList pb.isList (x:=u) (y:=v) (by simpa using hu) (by simpa using hv) fun h' a1 a2 a3 a4 a5 a6 kp=>?_
  refine ⟨_,rfl,?_⟩
  refine wpAny_letOwnedTupleGo_zip (s:={ s with heap:=h',toks:=s.toks }) a1 fun h2' hz' hs'=>?_
  replace hs' : Heap.SameBut z h' h2':=hs'
  have zlt : z < s.heap.objs.size:=Heap.lt_size hz
  have far : ∀ q ∈ [z,TI,TO,i1,i2],q < s.heap.objs.size:=by
   intro q hq
   obtain ⟨o1,e1,_⟩:=h1
   obtain ⟨o2,e2,_⟩:=h2
   simp only [List.mem_cons,List.not_mem_nil,or_false] at hq
   rcases hq with rfl | rfl | rfl | rfl | rfl
   ·exact zlt
   ·exact Heap.lt_size hTI
   ·exact Heap.lt_size hTO
   ·exact Heap.lt_size e1
   ·exact Heap.lt_size e2
  have fz:=hf z (by simp)
  have fTO:=hf TO (by simp)
  have f1:=hf i1 (by simp)
  have f2:=hf i2 (by simp)
  have I1 : Inv X pins σ H { s with heap:=s.heap.push { cls:=.type "tuple",data:=.seq #[u,v] },toks:=s.toks }:=I.kept fun b o e=>Heap.get?_push_of_some _ e
  have keepAll : ∀ b o,b ≠ z → b ≠ TO → b ≠ i1 → b ≠ i2 → s.heap.get? b = some o → h2'.get? b = some o:=fun b o b1 b2 b3 b4 e=>hs'.extBut _ _ b1 (kp b o b1 b2 b3 b4 e)
  have hnew : H s.heap.objs.size = none:=I.hok.fresh (Nat.le_refl _)
  have Tz : s.heap.objs.size ≠ z:=Nat.ne_of_gt zlt
  have ht2 : h2'.get? s.heap.objs.size = some { cls:=.type "tuple",data:=.seq #[u,v] }:=hs'.extBut _ _ Tz a5
  have I2 : Inv X pins σ (upd H s.heap.objs.size (.tup [x,y])) { s with heap:=h2',toks:=s.toks }:=by
   have there : ∀ q ∈ [z,TO,i1,i2],∃ o',h2'.get? q = some o':=by
    intro q hq
    obtain ⟨o1,e1,_⟩:=a3
    obtain ⟨o2,e2,_⟩:=a4
    simp only [List.mem_cons,List.not_mem_nil,or_false] at hq
    rcases hq with rfl | rfl | rfl | rfl
    ·exact ⟨_,hz'⟩
    ·exact ⟨_,hs'.extBut _ _ F.TOz a2⟩
    ·exact ⟨_,hs'.extBut _ _ F.i1z e1⟩
    ·exact ⟨_,hs'.extBut _ _ F.i2z e2⟩
   have nch : ∀ b,b ∉ [z,TO,i1,i2] → b ≠ z ∧ b ≠ TO ∧ b ≠ i1 ∧ b ≠ i2:=fun b hb=>by
    simp only [List.mem_cons,List.not_mem_nil,or_false,not_or] at hb
    exact hb
   have trk : ∀ b u',H b = some u' → b ≠ z ∧ b ≠ TO ∧ b ≠ i1 ∧ b ≠ i2:=fun b u' e =>
    ⟨fun q=>(by rw [q,fz.1] at e; cases e),fun q=>(by rw [q,fTO.1] at e; cases e),fun q=>(by rw [q,f1.1] at e; cases e),fun q=>(by rw [q,f2.1] at e; cases e)⟩
   have okH : HOk X.prog X.w (upd H s.heap.objs.size (.tup [x,y])) h2':=fun b u' e=>by
    by_cases hb : b = s.heap.objs.size
    ·subst hb
     rw [Jd] at e
     cases e
     exact ⟨(show 2 ≤ sizeLine by decide),[u,v],.cons ru (.cons rv .nil),⟨_,ht2,rfl,_,rfl⟩⟩
    ·rw [Ja hb] at e
     have hx:=I.hok b u' e
     refine hx.stay (fun q o hq e2=>?_) (fun q e2=>?_) (fun q xs e2=>?_)
     ·rcases hq with rfl | hq
      ·obtain ⟨b1,b2,b3,b4⟩:=trk q _ e
       exact keepAll q o b1 b2 b3 b4 e2
      ·obtain ⟨b1,b2,b3,b4⟩:=trk q _ hq
       exact keepAll q o b1 b2 b3 b4 e2
     ·rw [Ja (J9 e2 hnew)]; exact e2
     ·rw [Ja (J9 e2 hnew)]; exact e2
   refine I.step (g':=s.gens) (d':=s.drawn) (ch:=[z,TO,i1,i2]) (fun b hb=>?_) (fun b o _ _ hcb e n=>?_) (fun b o _ _ hcb e n=>?_) (fun b o hcb e n=>?_) (fun b o hcb e=>?_) (fun b xs e=>?_) (fun b o u' e=>?_) (fun b ps e=>?_) (fun m hm=>?_) okH I.bare
   ·simp only [List.mem_cons,List.not_mem_nil,or_false] at hb
    rcases hb with rfl | rfl | rfl | rfl
    ·exact ⟨fz.2.2.2.1,fz.2.1,fz.2.2.2.2.1,fz.2.2.2.2.2⟩
    ·exact ⟨fTO.2.2.2.1,fTO.2.1,fTO.2.2.2.2.1,fTO.2.2.2.2.2⟩
    ·exact ⟨f1.2.2.2.1,f1.2.1,f1.2.2.2.2.1,f1.2.2.2.2.2⟩
    ·exact ⟨f2.2.2.2.1,f2.2.1,f2.2.2.2.2.1,f2.2.2.2.2.2⟩
   ·obtain ⟨b1,b2,b3,b4⟩:=nch b hcb
    exact keepAll b o b1 b2 b3 b4 e
   ·obtain ⟨b1,b2,b3,b4⟩:=nch b hcb
    exact ⟨o.slots,keepAll b o b1 b2 b3 b4 e⟩
   ·rw [Ja (Nat.ne_of_lt (Heap.lt_size e))]; exact n
   ·obtain ⟨b1,b2,b3,b4⟩:=nch b hcb
    exact ⟨o,keepAll b o b1 b2 b3 b4 e⟩
   ·rw [Ja (J9 e hnew)]; exact e
   ·rw [Ja (J9 e hnew)]; exact e
   ·exact ⟨#[],by rw [Ja (J9 e hnew),e]; simp⟩
   ·obtain ⟨o,es',ep,ho,r⟩:=hm
    exact ⟨o,es',ep,keepAll _ o fz.2.1.symm fTO.2.1.symm f1.2.1.symm f2.2.1.symm ho,r⟩
  refine ⟨.ref s.heap.objs.size,_,I2,rfl,⟨_,x,y,hnew,fun zs hz=>by rw [I.list_inj hz hq1]; exact hx,fun zs hz=>by rw [I.list_inj hz hq2]; exact hy,rfl,rfl⟩,⟨hz',hs'.extBut _ _ F.TIz (kp _ _ F.TIz F.TITO F.TIi1 F.TIi2 hTI),⟨_,_,hs'.extBut _ _ F.TOz a2⟩,?_,?_⟩,fun b hb=>?_⟩
  ·obtain ⟨o,e,r⟩:=a3; exact ⟨o,hs'.extBut _ _ F.i1z e,r⟩
  ·obtain ⟨o,e,r⟩:=a4; exact ⟨o,hs'.extBut _ _ F.i2z e,r⟩
  ·rw [Ja (Nat.ne_of_lt (far b hb))]; exact (hf b hb).1
 done:=by
  intro X hP hw hK hc i pins s σ H E I hf st hg
  subst hP hw hK
  obtain ⟨hz,hTI,⟨a,b,hTO⟩,h1,h2⟩:=st
  obtain ⟨xs,ys,hq1,hq2,hg⟩:=hg
  obtain ⟨ia,ra,pa,_⟩:=I.list hq1
  obtain ⟨ib,rb,pb,_⟩:=I.list hq2
  have la:=ra.length
  have lb:=rb.length
  have D:=J4Y F hz hTI hTO h1 h2 pa.isList pb.isList
  refine wpAny_pyNext_zip_end (I.ok.hd hc) D hz hTI hTO h1 h2 pa.isList pb.isList (by rcases hg with q | q; exact .inl (by simp; omega); exact .inr (by simp; omega)) fun h' kp=>⟨rfl,?_⟩
  refine I.turnedN (t':=s.toks) (ch:=[z,TO,i1,i2]) (fun b o hb q=>?_) fun b hb=>hf b ?_
  ·simp only [List.mem_cons,List.not_mem_nil,or_false,not_or] at hb
   exact kp b o hb.1 hb.2.1 hb.2.2.1 hb.2.2.2 q
  ·simp only [List.mem_cons,List.not_mem_nil,or_false] at hb ⊢
   rcases hb with q | q | q | q
   ·exact .inl q
   ·exact .inr (.inr (.inl q))
   ·exact .inr (.inr (.inr (.inl q)))
   ·exact .inr (.inr (.inr (.inr q)))
 self:=fun _ _ _ _ _ st h=>wpAny_pyIter_zip st.1 h
section
variable {X : Cx} {es : List Expr} {k : Nat} {tpos : Pos}
noncomputable def JcS (K : PySem.W.Frag) (ta : TA) : TI:=fun σ H R=>ta σ H fun vs H1=>∃ a b,vs = [.ref a,.ref b] ∧ (∃ xs,SqL K H1 a xs) ∧ (∃ ys,SqL K H1 b ys) ∧ R (Izl K a b) H1
theorem JcD {a b : Expr} {ta : TA} {p pos : Pos} (hg : Gl X "zip") (hm : X.mg "zip" = none) (ha : PA X [a,b] ta) (hv : bootBuiltins "zip" = some (.type "zip"):=by decide +kernel) (hs : starEach [a,b] X.env = [(false,eval a X.env),(false,eval b X.env)]:=by rfl) (hs2 : starEach [b] X.env = [(false,eval b X.env)]:=by rfl) :
  PI X (.Tuple es k tpos) (.Call (.Name "zip" p) [a,b] [] pos) (JcS X.K ta):=by
 intro pins s σ H R I h
 refine Call_ (J2q I hg hm hv (PyProof.Rows.callWith_type1 (thn (ha pos pins s σ H _ I h) fun us s1 ⟨vs,H1,I1,r1,q1⟩=>?_) (by rw [hs,hs2]) (by rw [hs2]; rfl)))
 obtain ⟨l1,l2,e,⟨xs,hq1⟩,⟨ys,hq2⟩,q⟩:=q1
 subst e
 obtain ⟨u,v,rfl,ru,rv⟩:=r1.two
 cases ru; cases rv
 obtain ⟨ia,ra,pa,_⟩:=I1.list hq1
 obtain ⟨ib,rb,pb,_⟩:=I1.list hq2
 refine call_zip_2 pa.isList pb.isList fun h' a1 a2 a3 a4 a5 a6 kp=>?_
 have far : J3h (s1.heap.objs.size + 4) (s1.heap.objs.size + 2) (s1.heap.objs.size + 3) s1.heap.objs.size (s1.heap.objs.size + 1):=J47 _
 have I2 : Inv X pins σ H1 { s1 with heap:=h' }:=I1.kept (t':=s1.toks) kp
 refine wpAny_pyIter_zip a1 ⟨s1.heap.objs.size + 4,[s1.heap.objs.size + 4,s1.heap.objs.size + 2,s1.heap.objs.size + 3,s1.heap.objs.size,s1.heap.objs.size + 1],_,_,H1,rfl,I2,Jap far,⟨a1,a2,⟨_,_,a3⟩,a4,a5⟩,fun b hb=>?_,q⟩
 have hb' : s1.heap.objs.size ≤ b:=by
  simp only [List.mem_cons,List.not_mem_nil,or_false] at hb
  rcases hb with rfl | rfl | rfl | rfl | rfl
  ·exact Nat.le_add_right _ _
  ·exact Nat.le_add_right _ _
  ·exact Nat.le_add_right _ _
  ·exact Nat.le_refl _
  ·exact Nat.le_add_right _ _
 exact I1.fpOk hb' (I1.hok.fresh hb')
end
theorem J8O {X : Cx} {es : List Expr} {k : Nat} {tpos : Pos} {K : PySem.W.Frag} {a b : Expr} {ta : TA} {p pos : Pos} (h : X.K = K) (hg : Gl X "zip") (hm : X.mg "zip" = none) (ha : PA X [a,b] ta) (hv : bootBuiltins "zip" = some (.type "zip"):=by decide +kernel) (hs : starEach [a,b] X.env = [(false,eval a X.env),(false,eval b X.env)]:=by rfl) (hs2 : starEach [b] X.env = [(false,eval b X.env)]:=by rfl) :
  PI X (.Tuple es k tpos) (.Call (.Name "zip" p) [a,b] [] pos) (JcS K ta):=h ▸ JcD hg hm ha hv hs hs2
end L2
set_option linter.all false
set_option maxRecDepth 100000
set_option maxHeartbeats 4000000
namespace L2
open PySem PySem.Spec PyProof.Rows
section
variable {X : Cx} {elt tg iter : Expr} {ifs : List Expr} {scope : Scope} {pos : Pos} {N : List Str} {js : List (Option Nat)} {wi : TI} {g : TG} {tc : TT} {te : TE}
theorem J3e {osc : Scope} {ON : List Str} {k : Nat} {y : Str} {py spos : Pos} (hN : X.N.Nodup) (hk : X.N[k]? = some y) (hky : Loc X.env.scope y) (cs : J3E osc ON scope N js) (ho : X.env.scope = osc) (hON : X.N = ON) (hc : X.calm = true) (hi : PI X tg iter wi)
    (hg : ∀ s₀ H₀ cl C ex,PG (J0Z X scope N s₀ H₀ cl C ex) tg g) (hif : ∀ s₀ H₀ cl C ex,PIfs (J0Z X scope N s₀ H₀ cl C ex) ifs tc) (he : ∀ s₀ H₀ cl C ex,PE (J0Z X scope N s₀ H₀ cl C ex) elt te)
    (hsw : swapsWith (.ListComp elt [⟨tg,iter,ifs,0⟩] scope pos) (some (.Name y py)) spos.line X.env = pure true:=by rfl)
    (hs : ∀ x,foldedSetIterable iter X.env x = pure x:=by intro _; rfl) (hf : X.fn y = true ∨ X.env.scope.names.lookup y = some .local:=by first | exact .inl rfl | exact .inr rfl | assumption) :
    PS X (.Assign [.Name y py] (.ListComp elt [⟨tg,iter,ifs,0⟩] scope pos) spos) (tAsg (JbS wi (subσ js) g tc te) (J3V k)):=by
  intro pins s σ H Dn I h0
  have h : JbS wi (subσ js) g tc te σ H (fun v H'=>Dn.nx (σ.set k (some v)) H'):=h0
  subst ho hON
  obtain ⟨cl,hcl,cl1,cl2⟩:=J3T (scope:=scope) (env:=X.env) fun y hy hf=>I.ok.has y.1 (cs.free y hy hf)
  rw [exec_Assign_Name_used _ _ _ _ hsw]
  refine wpAny_bind (wpAny_standAt (wpAny_bind ?_))
  show wpAny _ X.A (do let _ ← comprehension (.ListComp elt [⟨tg,iter,ifs,0⟩] scope pos) scope X.env _ (newList []) false (eval iter X.env) (some (assign (.Name y py) X.env))) _ _ s
  refine wpAny_bind (wpAny_mono (wpAny_comprehension_free (use:=some (assign (.Name y py) X.env)) (Q:=fun _ s'=>SP X pins Dn .next s') rfl hs hcl cs.kind cs.names ?_) (fun _ s' hq=>wpAny_pure (wpAny_pure hq)) fun _ _ e=>e)
  refine thn (hi pins s σ H _ I h) fun v s1 h1=>thn h1 fun itv s2 h2=>?_
  obtain ⟨it,fp,tn,J,H2,e,I2,T,st2,f2,hW⟩:=h2
  subst e
  have hD0 : H2 s2.heap.objs.size = none:=I2.hok.fresh (Nat.le_refl _)
  obtain ⟨W,⟨m0,w0⟩,turn⟩:=hW s2.heap.objs.size hD0
  have I3:=I2.lnew (t':=s2.toks) (ys:=[]) (its:=[]) .nil (Nat.zero_le _)
  refine wpAny_newObj_type (wpAny_newFunctionEnv cs.cell (by intro y hy; simp at hy) (fun h₁ hns₁ hsb₁=>?_) cs.kind)
  dsimp only at hns₁ hsb₁ ⊢
  obtain ⟨s3,hs3⟩ : ∃ s3 : Shared,s3 = { s2 with heap:=s2.heap.push { cls:=.type "list",data:=.seq ([] : List Value).toArray },toks:=s2.toks }:=⟨_,rfl⟩
  rw [← hs3] at I3
  have e3 : s3.heap = s2.heap.push { cls:=.type "list",dict:=none,data:=.seq ([] : List Value).toArray }:=by rw [hs3]
  have e3o : s3.os = s2.os:=by rw [hs3]
  have e3g : s3.gens = s2.gens:=by rw [hs3]
  rw [← e3] at hns₁ hsb₁ ⊢
  obtain ⟨H3,hH3⟩ : ∃ H3 : Hp,H3 = upd H2 s2.heap.objs.size (.lst []):=⟨_,rfl⟩
  rw [← hH3] at I3 w0
  have up1 : ∀ b o,s2.heap.get? b = some o → s3.heap.get? b = some o:=fun b o q=>by rw [e3]; exact Heap.get?_push_of_some _ q
  have up2 : ∀ b o,s3.heap.get? b = some o → h₁.get? b = some o:=fun b o q=>hsb₁.extBut b o (Nat.ne_of_lt (Heap.lt_size q)) (Heap.get?_push_of_some _ q)
  have fpo : ∀ b ∈ fp,∃ o,s3.heap.get? b = some o:=fun b hb=>by
    obtain ⟨o,ho,_⟩:=T.obj 0 _ st2 b hb
    exact ⟨o,up1 b o ho⟩
  have fr3 : ∀ b ∈ fp,H3 b = none:=fun b hb=>by
    obtain ⟨o,ho,_⟩:=T.obj 0 _ st2 b hb
    rw [hH3,Ja (Nat.ne_of_lt (Heap.lt_size ho))]
    exact (f2 b hb).1
  have fpC : ∀ b ∈ fp,b ≠ s3.heap.objs.size:=fun b hb=>by
    obtain ⟨o,ho⟩:=fpo b hb
    exact Nat.ne_of_lt (Heap.lt_size ho)
  have fpS : ∀ b ∈ fp,b ∉ frs X.stack:=fun b hb hs'=>by
    rcases List.mem_cons.mp (I2.stkSub b hs') with z | z
    · exact (f2 b hb).2.1 z
    · exact (f2 b hb).2.2.1 z
  have ok' : (J0Z X scope N s3 H3 cl s3.heap.objs.size fp).Ok:=by
    refine ⟨I.ok.mod,cs.kind,I.ok.glob,I.ok.blt,Nat.le_refl _,fun x y c e1 e2=>I.ok.inj x y c (cl2 x c e1) (cl2 y c e2),fun x hx=>?_,fun x c hf=>(nomatch hf),I.ok.hd,I.ok.frames,.inl rfl,fun b hb=>⟨fpC b hb,fun x c e=>(f2 b hb).2.2.2.2.1 x c (cl2 x c e)⟩,
      I3.bs,Nat.le_trans I.ok.bsz I3.sz,fun b o e hb=>?_,fun b hb=>fpS b hb,I3.stack,I3.stkFree⟩
    · have hm : (x,NameKind.free) ∈ scope.names:=J3b cs.cell hx
      obtain ⟨c,hc⟩:=I.ok.has x (cs.free _ hm rfl)
      exact ⟨c,(cl1 _ hm rfl).trans hc⟩
    · rcases (f2 b hb).2.2.2.1 with z | z
      · exact I.ok.noex b o e z
      · exact absurd (Nat.lt_of_lt_of_le (Heap.lt_size e) (Nat.le_trans I.ok.bsz z)) (Nat.lt_irrefl _)
  have cellK : ∀ c v,s3.heap.IsCell c v → h₁.IsCell c v:=fun c v ⟨o,ho,hd⟩=>⟨o,up2 c o ho,hd⟩
  have I4 : ∀ t : Nat,Inv (J0Z X scope N s3 H3 cl s3.heap.objs.size fp) [] (subσ js σ) H3 { s2 with heap:=h₁,toks:=t }:=fun t=>by
    refine ⟨ok',e3o.symm,I2.bare,Un.kept up2,⟨_,hns₁,fun i x v hi hv hx=>?_⟩,fun x c e=>?_,I3.hok.fresh (Nat.le_refl _),fun x c e=>I3.freeC x c (cl2 x c e),fun p hp=>(nomatch hp),I3.hok.kept up2,?_⟩
    ·
      have hv' : ∃ j,js[i]? = some (some j) ∧ σ[j]? = some (some v):=by
        unfold subσ at hv
        rw [List.getElem?_map] at hv
        cases hj : js[i]? with
        | none=>rw [hj] at hv; cases hv
        | some o =>
          rw [hj] at hv
          cases o with
          | none=>cases hv
          | some j =>
            refine ⟨j,rfl,?_⟩
            have hv2 : (σ[j]?).join = some v:=Option.some.inj hv
            cases hs2 : σ[j]? with
            | none=>rw [hs2] at hv2; cases hv2
            | some u=>rw [hs2] at hv2; exact congrArg some hv2
      obtain ⟨j,hj,hσ⟩:=hv'
      obtain ⟨x',h1',h2',h3'⟩:=cs.sub i j hj
      have hxx : x = x':=Option.some.inj (hi.symm.trans h1')
      subst hxx
      have hm : (x,NameKind.free) ∈ scope.names:=mem_of_lookup h3'
      have hk:=cs.free _ hm rfl
      obtain ⟨m,hn,hl⟩:=id I3.loc
      obtain ⟨u,ru,lk⟩:=hl j x v h2' hσ (by rcases hk with z | z; exact .inr (.inl z); exact .inr (.inr z))
      refine ⟨u,ru,?_⟩
      rcases lk with ⟨k1,_⟩ | ⟨k1,c,e1,z⟩
      · rcases hk with z | z <;> (rw [show X.env.kindOf x = _ from z] at k1; cases k1)
      · exact .inr ⟨J1g h3',c,(cl1 _ hm rfl).trans e1,cellK c _ z⟩
    · obtain ⟨v,z⟩:=I3.cell x c (cl2 x c e)
      exact ⟨v,cellK c v z⟩
    · unfold subσ
      rw [List.length_map]
      exact cs.len
  have hst₁ : tn 0 h₁:=T.keep 0 _ _ st2 fun b hb o q=>up2 b o (up1 b o q)
  have stat : ∀ {H' : Hp},(∀ b ∈ fp,H' b = none) → ∀ b ∈ fp,FpOk (J0Z X scope N s3 H3 cl s3.heap.objs.size fp) [] H' b:=fun hn b hb =>
    ⟨hn b hb,fpC b hb,fpS b hb,.inl hb,fun x c e=>(f2 b hb).2.2.2.2.1 x c (cl2 x c e),fun p hp=>(nomatch hp)⟩
  have loop : ∀ s4 : Shared,(∃ t,s4 = { s2 with heap:=h₁,toks:=t }) →
      codeAny (model X.prog X.w) X.A (.compLoop (.ListComp elt [⟨tg,iter,ifs,0⟩] scope pos) 0 (.ref it) (.ref s2.heap.objs.size) (compEnvC scope cl s3.heap.objs.size X.env))
        (compPost (model X.prog X.w) X.A X.xe (some (assign (.Name y py) X.env)) (fun _ s'=>SP X pins Dn .next s') (.ref s2.heap.objs.size) s3.heap.objs.size) s4:=by
    rintro s4 ⟨t,rfl⟩
    refine J4t (fun n s'=>∃ i σ' ys H',Inv (J0Z X scope N s3 H3 cl s3.heap.objs.size fp) [] σ' H' s' ∧ tn i s'.heap ∧ (∀ b ∈ fp,H' b = none) ∧ W i n σ' ys H') ?_ m0 ⟨0,_,[],H3,I4 t,hst₁,fr3,w0⟩
    rintro n s5 ⟨i,σ5,ys,H5,I5,st5,fr5,w5⟩
    rcases turn i n σ5 ys H5 w5 with ⟨stop,qn⟩ | ⟨go,step⟩
    · refine thn (T.done (J0Z X scope N s3 H3 cl s3.heap.objs.size fp) rfl rfl rfl hc i [] s5 σ5 H5 _ I5 (stat fr5) st5 stop) fun r s6 ⟨hr,I6⟩=>?_
      subst hr
      obtain ⟨m,hn,_⟩:=id I6.loc
      have IX : ∀ h',Heap.SameBut s3.heap.objs.size s6.heap h' → Inv X pins σ H5 { s6 with heap:=h' }:=fun h' hs'=>by
        have neC : ∀ b o,s3.heap.get? b = some o → b ≠ s3.heap.objs.size:=fun b o q=>Nat.ne_of_lt (Heap.lt_size q)
        have un : Un (frs X.stack) fp H3 H5 s3.heap h' :=
          ⟨fun b o q n1 hb hx=>(hs'.2 b (neC b o q)).trans (I6.base.keep b o q n1 hb hx),
           fun b o q n1 hb hx=>by
             obtain ⟨sl,e⟩:=I6.base.slot b o q n1 hb hx
             exact ⟨sl,(hs'.2 b (neC b o q)).trans e⟩,
           fun b o q n1 hx=>I6.base.free b o q n1 hx,
           fun b o q hx=>by
             obtain ⟨o',e⟩:=I6.base.there b o q hx
             exact ⟨o',(hs'.2 b (neC b o q)).trans e⟩,
           I6.base.tups,I6.base.frzs,I6.base.tbls⟩
        refine I3.call' (ch:=fp) (s':={ s6 with heap:=h' }) I6.os un (fun b ob e=>?_) I6.bare (fun b hb=>⟨(f2 b hb).2.2.2.1,(f2 b hb).2.1,(f2 b hb).2.2.2.2.1,(f2 b hb).2.2.2.2.2⟩)
        refine (I6.hok b ob e).stay (fun c w' hc' q=>(hs'.2 c ?_).trans q) (fun _ q=>q) fun _ _ q=>q
        rintro rfl
        have fC : H5 s3.heap.objs.size = none:=I6.free
        rcases hc' with z | z
        · rw [← z,fC] at e; cases e
        · rw [fC] at z; cases z
      have fC : H5 s3.heap.objs.size = none:=I6.free
      have IY : Inv X pins σ H5 s6:=IX s6.heap (Heap.SameBut.refl ..)
      have fo : FpOk X pins H5 s3.heap.objs.size:=I3.fpOk (Nat.le_refl _) fC
      obtain ⟨oC,es,ep,ho1,hd1,hrest⟩:=id hn
      have IZ:=IY.pinned (fp:=[s3.heap.objs.size]) (fun b hb=>by obtain rfl : b = _:=(by simpa using hb); exact fo) (fun b hb=>by obtain rfl : b = _:=(by simpa using hb); exact ⟨oC,ho1,fun v z=>by rw [hd1] at z; cases z⟩)
      show wpAny _ X.A (assign (.Name y py) X.env (.ref s2.heap.objs.size)) _ _ s6
      refine wpAny_assign_Name (J4w IZ hN hk hky (show RelV (.ref s2.heap.objs.size) (.ref s2.heap.objs.size) from rfl) (fun s7 I7=>?_) hf)
      have hC7 : s7.heap.get? s3.heap.objs.size = some oC:=(I7.pin (s3.heap.objs.size,oC) (List.mem_append_right _ (List.mem_append_right _ (J1t (by simp) ho1)))).1
      refine ⟨m,hn.at' fun o e=>?_,fun h' hs'=>⟨_,H5,?_,qn⟩⟩
      · rw [ho1] at e; cases e; exact hC7
      · have I8:=I7.unpinned
        exact I8.turned (t':=s7.toks) (fun b o hb e=>(hs'.2 b hb).trans e) fo.1 fo.2.1 fo.2.2.2.1 fo.2.2.2.2.1 fo.2.2.2.2.2
    · refine thn (T.item (J0Z X scope N s3 H3 cl s3.heap.objs.size fp) rfl rfl rfl hc i [] s5 σ5 H5 _ I5 (stat fr5) st5 go) fun r s6 ⟨u,hr,h6⟩=>?_
      subst hr
      refine thn h6 fun _ s7 ⟨x,H7,I7,r7,y7,st7,fr7⟩=>?_
      have I7':=I7.pinned (stat fr7) (T.obj _ _ st7)
      refine thn (hg _ _ _ _ _ _ s7 σ5 H7 x u _ I7' r7 (step x H7 y7)) fun _ s8 ⟨σ8,H8,I8,q8⟩=>?_
      refine thn (hif _ _ _ _ _ _ s8 σ8 H8 _ I8 q8) fun ok s9 ⟨H9,I9,q9⟩=>?_
      have again : ∀ {σ' : St} {H' : Hp} {s' : Shared},Inv (J0Z X scope N s3 H3 cl s3.heap.objs.size fp) ([] ++ J4O fp s7.heap) σ' H' s' →
          Inv (J0Z X scope N s3 H3 cl s3.heap.objs.size fp) [] σ' H' s' ∧ tn (i + 1) s'.heap ∧ ∀ b ∈ fp,H' b = none:=fun {σ' H' s'} I'=>by
        refine ⟨I'.unpinned,T.keep _ _ _ st7 fun b hb o e=>(I'.pin (b,o) (List.mem_append_right _ (List.mem_append_right _ (J1t hb e)))).1,fun b hb=>?_⟩
        obtain ⟨o,e,d⟩:=T.obj _ _ st7 b hb
        exact (I'.pin (b,o) (List.mem_append_right _ (List.mem_append_right _ (J1t hb e)))).2.1
      cases ok with
      | false =>
        rw [if_neg Bool.false_ne_true] at q9 ⊢
        obtain ⟨m',hm,w9⟩:=q9
        obtain ⟨a1,a2,a3⟩:=again I9
        exact ⟨m',hm,i + 1,σ8,ys,H9,a1,a2,a3,w9⟩
      | true =>
        rw [if_pos rfl] at q9 ⊢
        refine thn (he _ _ _ _ _ _ s9 σ8 H9 _ I9 q9) fun yv s10 ⟨y,H10,I10,r10,q10⟩=>?_
        obtain ⟨hD,hz,m',hm,w10⟩:=q10
        refine thn (J2i (X:=J0Z X scope N s3 H3 cl s3.heap.objs.size fp) _ s10 σ8 H10 (.ref s2.heap.objs.size) [y] (.ref s2.heap.objs.size) [yv] (fun v H'=>H' = upd H10 s2.heap.objs.size (.lst (ys ++ [y]))) I10 rfl (.cons r10 .nil)
          ⟨s2.heap.objs.size,ys,y,rfl,rfl,hD,hz,rfl⟩) fun _ s11 ⟨v11,H11,I11,_,e11⟩=>?_
        have e11' : H11 = upd H10 s2.heap.objs.size (.lst (ys ++ [y])):=e11
        subst e11'
        obtain ⟨a1,a2,a3⟩:=again I11
        exact ⟨m',hm,i + 1,σ8,ys ++ [y],_,a1,a2,a3,w10⟩
  exact codeAny_compStart_list (loop _ ⟨_,rfl⟩) (T.self X.A 0 _ _ _ hst₁ (loop _ ⟨_,rfl⟩))
end
end L2
set_option linter.all false
namespace L2
open PySem PySem.StrLaws Builtin Builtin.Str
end L2
set_option linter.all false
set_option maxRecDepth 100000
set_option maxHeartbeats 4000000
namespace L2
open PySem PySem.Spec PyProof.Rows
section
variable {X : Cx} {e : Expr} {es : List Expr} {te : TE} {tr : TF} {pos : Pos}
end
end L2
set_option linter.all false
set_option maxRecDepth 100000
set_option maxHeartbeats 4000000
namespace L2
open PySem PySem.Spec PyProof.Rows
section
variable {X : Cx} {x m : Str} {k : Nat} {ps : List Str} {sp : Sp} {C : Addr} {p pos apos : Pos} {e o : Expr} {es : List Expr} {t : TA} {to : TE}
theorem J2w {r : List V → Hp → VK → Prop} (G : MkG X.prog X.w X.K X.mg X.base C x k ps sp) (hr : Room (k + 1) X.A)
  (imp : ∀ vs H Q,r vs H Q → ∀ x dx,H x = none → H dx = none → dx ≠ x → sp (.ref x :: (vs ++ [])) (upd (upd H dx (.own x)) x (.ins C dx [])) (fun v H2=>v = .non ∧ Q (.ref x) H2) E0)
  (ha : PA X (e :: es) t) (hg : Gl X x:=by rfl) (hdb : (x == ("__debug__" : Str)) = false:=by decide)
  (he : starEach (e :: es) X.env = (false,eval e X.env) :: starEach es X.env:=by rfl) (hpl : (backTo pos (starEach es X.env)).any (·.1) = false:=by rfl) : PE X (.Call (.Name x p) (e :: es) [] pos) (tCB r t):=by
 obtain ⟨f,fd,a,M,hm,hb⟩:=G
 intro pins s σ H Q I h
 refine wpAny_Call_Name_kw (J5c I hg hm ?_ hdb)
 refine PySem.W.callWith_K (h₀:=X.base) I.ok.mod.kin M.kp (thn (ha pos pins s σ H _ I h) fun us s1 ⟨vs,H1,I1,rv,q⟩=>⟨I1.kIn,?_⟩) he hpl
 exact JbK M a hr hb .nil J9Q I1 rv (imp vs H1 Q q)
end
end L2
set_option linter.all false
set_option maxRecDepth 100000
set_option maxHeartbeats 4000000
namespace L2
open PySem PySem.Spec PyProof.Rows
noncomputable def All2 {α : Type} (P : α → V → Hp → Prop) (H : Hp) : List α → List V → Prop
 | [],[]=>True
 | a :: as,y :: ys=>P a y H ∧ All2 P H as ys
 | _,_=>False
section
variable {α : Type} {P : α → V → Hp → Prop} {H H' : Hp}
theorem All2.len : ∀ {as : List α} {ys : List V},All2 P H as ys → ys.length = as.length
 | [],[],_=>rfl
 | _ :: _,_ :: _,h=>by rw [List.length_cons,List.length_cons,All2.len h.2]
 | [],_ :: _,h=>h.elim
 | _ :: _,[],h=>h.elim
theorem All2.snoc : ∀ {as : List α} {ys : List V} {a : α} {y : V},All2 P H as ys → P a y H → All2 P H (as ++ [a]) (ys ++ [y])
 | [],[],_,_,_,p=>⟨p,trivial⟩
 | _ :: _,_ :: _,_,_,h,p=>⟨h.1,All2.snoc h.2 p⟩
 | [],_ :: _,_,_,h,_=>h.elim
 | _ :: _,[],_,_,h,_=>h.elim
theorem All2.imp {P' : α → V → Hp → Prop} : ∀ {as : List α} {ys : List V},All2 P H as ys → (∀ a y,P a y H → P' a y H') → All2 P' H' as ys
 | [],[],_,_=>trivial
 | _ :: _,_ :: _,h,f=>⟨f _ _ h.1,All2.imp h.2 f⟩
 | [],_ :: _,h,_=>h.elim
 | _ :: _,[],h,_=>h.elim
theorem All2.back : ∀ {as : List α} {ys : List V} {i : Nat} {y : V},All2 P H as ys → ys[i]? = some y → ∃ a,as[i]? = some a ∧ P a y H
 | [],[],_,_,_,e=>by simp at e
 | b :: _,z :: _,0,y,h,e=>⟨b,rfl,by rw [← (Option.some.inj e : z = y)]; exact h.1⟩
 | _ :: as,_ :: ys,i + 1,y,h,e=>All2.back (as:=as) (ys:=ys) (i:=i) h.2 (by simpa using e)
 | [],_ :: _,_,_,h,_=>h.elim
 | _ :: _,[],_,_,h,_=>h.elim
theorem All2.eqmap {f : α → V} : ∀ {as : List α} {ys : List V},All2 P H as ys → (∀ a y,P a y H → y = f a) → ys = as.map f
 | [],[],_,_=>rfl
 | _ :: _,_ :: _,h,g=>by rw [List.map_cons,← g _ _ h.1,← All2.eqmap h.2 g]
 | [],_ :: _,h,_=>h.elim
 | _ :: _,[],h,_=>h.elim
end
noncomputable def J3o (Ha Hb : Hp) : Prop:=∀ a ob,Ha a = some ob → (∀ zs,ob ≠ .lst zs) → Hb a = some ob
theorem Same.keeps {Ha Hb : Hp} (h : Same Ha Hb) : J3o Ha Hb:=fun a ob e _=>h a ob e
theorem J3o.trans {Ha Hb Hc : Hp} (h : J3o Ha Hb) (h' : J3o Hb Hc) : J3o Ha Hc:=fun a ob e n=>h' a ob (h a ob e n) n
theorem J75 {Ha : Hp} {D : Addr} {zs ys : List V} (h : Ha D = some (.lst zs)) : J3o Ha (upd Ha D (.lst ys)):=fun a ob e hn=>by
 by_cases c : a = D
 ·subst c; rw [h] at e; cases e; exact absurd rfl (hn zs)
 ·rw [Ja c]; exact e
theorem JbL {α : Type} {J : It} {H : Hp} {σ0 : St} {g : TG} {tc : TT} {te : TE} {Q : VK} (xs : List α) (p : α → Bool) (P : α → V → Hp → Prop) (sh : St → Prop) (hx : xs.length ≤ 1000000) (h0 : sh σ0)
  (hgo : ∀ i H',Same H H' → i < xs.length → J.go i H') (hstop : ∀ H',Same H H' → J.stop xs.length H')
  (hk : ∀ a y Ha Hb,J3o Ha Hb → P a y Ha → P a y Hb)
  (step : ∀ (i : Nat) a σ x H' H'',xs[i]? = some a → sh σ → Same H H' → J.yld i H' x H'' → ∀ (Rf : St → Hp → Prop) (Rt : St → V → Hp → Prop),
   (∀ σ2 H3,p a = false → sh σ2 → Same H' H3 → Rf σ2 H3) → (∀ σ2 y H4,p a = true → sh σ2 → Same H' H4 → P a y H4 → Rt σ2 y H4) →
   g x σ H'' fun σ2 H2=>tc σ2 H2 fun b H3=>if b = true then te σ2 H3 (fun y H4=>Rt σ2 y H4) else Rf σ2 H3)
  (hQ : ∀ D H' ys,H D = none → Same H H' → All2 P H' (xs.filter p) ys → H' D = some (.lst ys) → Q (.ref D) H') : J6a J H σ0 g tc te Q:=by
 intro D hD
 refine ⟨fun i m σ1 ys H'=>m = xs.length - i ∧ i ≤ xs.length ∧ sh σ1 ∧ All2 P H' ((xs.take i).filter p) ys ∧ H' D = some (.lst ys) ∧ Same H H',⟨xs.length,by simp,Nat.zero_le _,h0,trivial,Jd,J0n hD _⟩,?_⟩
 rintro i m σ1 ys H' ⟨rfl,hi,hσ,hP,hDD,hs⟩
 by_cases hlt : i < xs.length
 ·refine .inr ⟨hgo i H' hs hlt,fun x H'' hy=>?_⟩
  have ha : xs[i]? = some xs[i]:=List.getElem?_eq_getElem hlt
  have ht : xs.take (i + 1) = xs.take i ++ [xs[i]]:=by rw [List.take_add_one,ha]; rfl
  refine step i xs[i] σ1 x H' H'' ha hσ hs hy _ _ (fun σ2 H3 hf sh2 s3=>?_) (fun σ2 y H4 hf sh2 s4 py=>?_)
  ·refine ⟨xs.length - (i + 1),by omega,rfl,hlt,sh2,?_,s3 _ _ hDD,hs.trans s3⟩
   rw [ht,List.filter_append,List.filter_cons,hf]
   show All2 P H3 (List.filter p (xs.take i) ++ []) ys
   rw [List.append_nil]
   exact hP.imp fun a y=>hk a y _ _ s3.keeps
  ·have hl:=hP.len
   refine ⟨s4 _ _ hDD,?_,xs.length - (i + 1),by omega,rfl,hlt,sh2,?_,Jd,(hs.trans s4).upd hD⟩
   ·have h1:=List.length_filter_le p (xs.take i)
    rw [List.length_take] at h1
    have : (1000001 : Nat) ≤ sizeLine:=by decide
    omega
   ·rw [ht,List.filter_append,List.filter_cons,hf]
    have kk : J3o H4 (upd H4 D (.lst (ys ++ [y]))):=J75 (s4 _ _ hDD)
    exact All2.snoc (hP.imp fun a y=>hk a y _ _ (s4.keeps.trans kk)) (hk _ _ _ _ kk py)
 ·have e : i = xs.length:=by omega
  subst e
  refine .inl ⟨hstop H' hs,hQ D H' ys hD hs ?_ hDD⟩
  rw [List.take_of_length_le (Nat.le_refl _)] at hP
  exact hP
theorem J2s {α : Type} {J : It} {H : Hp} {σ0 : St} {g : TG} {tc : TT} {te : TE} {Q : VK} {vs : List V} (xs : List α) (p : α → Bool) (P : α → V → Hp → Prop) (sh : St → Prop) (hJ : J9R J H vs) (hv : vs.length = xs.length) (hx : xs.length ≤ 1000000) (h0 : sh σ0)
  (hk : ∀ a y Ha Hb,J3o Ha Hb → P a y Ha → P a y Hb)
  (step : ∀ (i : Nat) a v σ H',xs[i]? = some a → vs[i]? = some v → sh σ → Same H H' → ∀ (Rf : St → Hp → Prop) (Rt : St → V → Hp → Prop),
   (∀ σ2 H3,p a = false → sh σ2 → Same H' H3 → Rf σ2 H3) → (∀ σ2 y H4,p a = true → sh σ2 → Same H' H4 → P a y H4 → Rt σ2 y H4) →
   g v σ H' fun σ2 H2=>tc σ2 H2 fun b H3=>if b = true then te σ2 H3 (fun y H4=>Rt σ2 y H4) else Rf σ2 H3)
  (hQ : ∀ D H' ys,H D = none → Same H H' → All2 P H' (xs.filter p) ys → H' D = some (.lst ys) → Q (.ref D) H') : J6a J H σ0 g tc te Q:=by
 refine JbL xs p P sh hx h0 (fun i H' s hi=>hJ.go i H' s (by omega)) (fun H' s=>by rw [← hv]; exact hJ.stop H' s) hk (fun i a σ x H' H'' ha hσ s hy=>?_) hQ
 have hi : i < xs.length:=(List.getElem?_eq_some_iff.mp ha).1
 obtain ⟨e,hx⟩:=hJ.yld i H' x H'' s (by omega) hy
 subst e
 exact step i a x σ H'' ha hx hσ s
theorem J3g : ∀ {ns : List Int} {its : List Value},Vals (ns.map V.int) its → ∃ xs : List (Int × Tok),its = xs.map (fun p=>Value.int p.1 p.2) ∧ xs.map (·.1) = ns
 | [],_,.nil=>⟨[],rfl,rfl⟩
 | n :: ns,_,.cons r t=>by
  obtain ⟨k,rfl⟩:=r
  obtain ⟨xs,e,h⟩:=J3g t
  exact ⟨(n,k) :: xs,by rw [e]; rfl,by rw [List.map_cons,h]⟩
section
variable {X : Cx} {K : PySem.W.Frag}
theorem J6U (hc : X.calm = true) (h : X.K = K) : J1p X (.builtin "sum") (fun xs H Q=>∃ (D : Addr) (ns : List Int),xs = [.ref D] ∧ SqL K H D (ns.map V.int) ∧ Q (.int ns.sum) H):=by
 subst h
 intro pins s σ H xs us Q I r h
 obtain ⟨D,ns,rfl,hq,q⟩:=h
 obtain ⟨u,rfl,ru⟩:=r.one
 cases ru
 obtain ⟨its,rv,pl,_⟩:=I.list hq
 obtain ⟨xs,rfl,rfl⟩:=J3g rv
 have e : (xs.map fun p=>Value.int p.1 p.2).toArray = intItems xs.toArray:=by simp [intItems]
 refine sum_intListG (xs:=xs.toArray) (I.ok.hd hc) (by rw [← e]; exact pl.isList) fun h' tk t' hk=>?_
 rw [preSum_eq,List.take_of_length_le (by simp)]
 exact ⟨.int (xs.map (·.1)).sum,H,I.kept (fun b o e=>hk b o e),⟨t',rfl⟩,q⟩
theorem Jct {es : List Expr} {k : Nat} {t : TGs} {n : Nat} {pos : Pos} (hK : X.K = K) (hc : X.calm = true) (h : PGs X es t)
  (hn : (assignEach es X.env).length = n:=by rfl) (hst : (assignEach es X.env).findIdx? (·.1) = none:=by rfl) : PG X (.Tuple es k pos) (gTup K n t):=hK ▸ J1Y hc h hn hst
end
theorem JaV : bootBuiltins "sum" = some (.builtin "sum"):=by decide +kernel
theorem J2C : bootBuiltins "tuple" = some (.type "tuple"):=by decide +kernel
end L2
set_option linter.all false
set_option maxRecDepth 100000
set_option maxHeartbeats 4000000
namespace L2
open PySem PySem.Spec PyProof.Rows
noncomputable def Iel (K : PySem.W.Frag) (l : Addr) : It :=
  ⟨fun i H=>∃ xs x,SqL K H l xs ∧ xs[i]? = some x,
   fun i H v H'=>∃ p x,H p = none ∧ (∀ xs,SqL K H l xs → xs[i]? = some x) ∧ v = .ref p ∧ H' = upd H p (.tup [.int i,x]),
   fun i H=>∃ xs,SqL K H l xs ∧ xs.length ≤ i⟩
theorem J9p {P : Program} {w : World} {K : PySem.W.Frag} {es : List Expr} {k : Nat} {pos : Pos} {z it l : Addr} (zi : z ≠ it) :
  Turn P w K (.Tuple es k pos) (Iel K l) [z,it] z (fun i h=>(∃ old,IsEnum h z it (i : Int) old) ∧ h.IsListIter it l i) where
 mem:=by simp
 obj:=fun i h st b hb=>by
  obtain ⟨⟨old,hz⟩,o1,e1,c1,d1⟩:=st
  simp only [List.mem_cons,List.not_mem_nil,or_false] at hb
  rcases hb with rfl | rfl
  ·exact ⟨_,hz,fun v q=>by cases q⟩
  ·exact ⟨o1,e1,fun v q=>by rw [d1] at q; cases q⟩
 keep:=fun i h h' st kk=>by
  obtain ⟨⟨old,hz⟩,o1,e1,r1⟩:=st
  exact ⟨⟨old,kk z (by simp) _ hz⟩,⟨o1,kk it (by simp) _ e1,r1⟩⟩
 item:=by
  intro X hP hw hK hc i pins s σ H E I hf st hg
  subst hP hw hK
  obtain ⟨⟨old,hz⟩,h1⟩:=st
  obtain ⟨xs,x,hq1,hx⟩:=hg
  obtain ⟨ia,ra,pa,_⟩:=I.list hq1
  obtain ⟨u,hu,ru⟩:=ra.get hx
  refine wpAny_pyNext_enum_item hz h1 pa.isList (x:=u) (by simpa using hu) zi fun h' a1 a2 a3 a4 kp=>?_
  refine ⟨_,rfl,?_⟩
  refine wpAny_letOwnedTupleGo_enum (s:={ s with heap:=h',toks:=s.toks + 1 }) a1 fun h2' hz' hs'=>?_
  replace hs' : Heap.SameBut z h' h2':=hs'
  have zlt : z < s.heap.objs.size:=Heap.lt_size hz
  have far : ∀ q ∈ [z,it],q < s.heap.objs.size:=by
   intro q hq
   obtain ⟨o1,e1,_⟩:=h1
   simp only [List.mem_cons,List.not_mem_nil,or_false] at hq
   rcases hq with rfl | rfl
   ·exact zlt
   ·exact Heap.lt_size e1
  have fz:=hf z (by simp)
  have f1:=hf it (by simp)
  have keepAll : ∀ b o,b ≠ z → b ≠ it → s.heap.get? b = some o → h2'.get? b = some o:=fun b o b1 b2 e=>hs'.extBut _ _ b1 (kp b o b1 b2 e)
  have hnew : H s.heap.objs.size = none:=I.hok.fresh (Nat.le_refl _)
  have Tz : s.heap.objs.size ≠ z:=Nat.ne_of_gt zlt
  have ht2 : h2'.get? s.heap.objs.size = some { cls:=.type "tuple",data:=.seq #[.int i s.toks,u] }:=hs'.extBut _ _ Tz a3
  have I2 : Inv X pins σ (upd H s.heap.objs.size (.tup [.int i,x])) { s with heap:=h2',toks:=s.toks + 1 }:=by
   have there : ∀ q ∈ [z,it],∃ o',h2'.get? q = some o':=by
    intro q hq
    obtain ⟨o1,e1,_⟩:=a2
    simp only [List.mem_cons,List.not_mem_nil,or_false] at hq
    rcases hq with rfl | rfl
    ·exact ⟨_,hz'⟩
    ·exact ⟨_,hs'.extBut _ _ zi.symm e1⟩
   have nch : ∀ b,b ∉ [z,it] → b ≠ z ∧ b ≠ it:=fun b hb=>by
    simp only [List.mem_cons,List.not_mem_nil,or_false,not_or] at hb
    exact hb
   have trk : ∀ b u',H b = some u' → b ≠ z ∧ b ≠ it:=fun b u' e =>
    ⟨fun q=>(by rw [q,fz.1] at e; cases e),fun q=>(by rw [q,f1.1] at e; cases e)⟩
   have okH : HOk X.prog X.w (upd H s.heap.objs.size (.tup [.int i,x])) h2':=fun b u' e=>by
    by_cases hb : b = s.heap.objs.size
    ·subst hb
     rw [Jd] at e
     cases e
     exact ⟨(show 2 ≤ sizeLine by decide),[.int i s.toks,u],.cons ⟨_,rfl⟩ (.cons ru .nil),⟨_,ht2,rfl,_,rfl⟩⟩
    ·rw [Ja hb] at e
     have hx:=I.hok b u' e
     refine hx.stay (fun q o hq e2=>?_) (fun q e2=>?_) (fun q xs e2=>?_)
     ·rcases hq with rfl | hq
      ·obtain ⟨b1,b2⟩:=trk q _ e
       exact keepAll q o b1 b2 e2
      ·obtain ⟨b1,b2⟩:=trk q _ hq
       exact keepAll q o b1 b2 e2
     ·rw [Ja (J9 e2 hnew)]; exact e2
     ·rw [Ja (J9 e2 hnew)]; exact e2
   refine I.step (g':=s.gens) (d':=s.drawn) (ch:=[z,it]) (fun b hb=>?_) (fun b o _ _ hcb e n=>?_) (fun b o _ _ hcb e n=>?_) (fun b o hcb e n=>?_) (fun b o hcb e=>?_) (fun b xs e=>?_) (fun b o u' e=>?_) (fun b ps e=>?_) (fun m hm=>?_) okH I.bare
   ·simp only [List.mem_cons,List.not_mem_nil,or_false] at hb
    rcases hb with rfl | rfl
    ·exact ⟨fz.2.2.2.1,fz.2.1,fz.2.2.2.2.1,fz.2.2.2.2.2⟩
    ·exact ⟨f1.2.2.2.1,f1.2.1,f1.2.2.2.2.1,f1.2.2.2.2.2⟩
   ·obtain ⟨b1,b2⟩:=nch b hcb
    exact keepAll b o b1 b2 e
   ·obtain ⟨b1,b2⟩:=nch b hcb
    exact ⟨o.slots,keepAll b o b1 b2 e⟩
   ·rw [Ja (Nat.ne_of_lt (Heap.lt_size e))]; exact n
   ·obtain ⟨b1,b2⟩:=nch b hcb
    exact ⟨o,keepAll b o b1 b2 e⟩
   ·rw [Ja (J9 e hnew)]; exact e
   ·rw [Ja (J9 e hnew)]; exact e
   ·exact ⟨#[],by rw [Ja (J9 e hnew),e]; simp⟩
   ·obtain ⟨o,es',ep,ho,r⟩:=hm
    exact ⟨o,es',ep,keepAll _ o fz.2.1.symm f1.2.1.symm ho,r⟩
  refine ⟨.ref s.heap.objs.size,_,I2,rfl,⟨_,x,hnew,fun zs hz=>by rw [I.list_inj hz hq1]; exact hx,rfl,rfl⟩,⟨⟨_,by rw [Int.natCast_add]; exact hz'⟩,?_⟩,fun b hb=>?_⟩
  ·obtain ⟨o,e,r⟩:=a2; exact ⟨o,hs'.extBut _ _ zi.symm e,r⟩
  ·rw [Ja (Nat.ne_of_lt (far b hb))]; exact (hf b hb).1
 done:=by
  intro X hP hw hK hc i pins s σ H E I hf st hg
  subst hP hw hK
  obtain ⟨⟨old,hz⟩,h1⟩:=st
  obtain ⟨xs,hq1,hg⟩:=hg
  obtain ⟨ia,ra,pa,_⟩:=I.list hq1
  have la:=ra.length
  obtain ⟨f0,f1,f2,f3,f4,f5⟩:=hf it (by simp)
  refine wpAny_pyNext_enum_end (I.ok.hd hc) hz h1 pa.isList (by simp; omega) fun h' eb=>⟨rfl,I.turned (t':=s.toks) (fun b o hb e=>eb b o hb e) f0 f1 f3 f4 f5⟩
 self:=fun _ _ _ _ _ st h=>by
  obtain ⟨⟨old,hz⟩,_⟩:=st
  exact wpAny_pyIter_enum hz h
section
variable {X : Cx} {es : List Expr} {k : Nat} {tpos : Pos}
noncomputable def JbI (K : PySem.W.Frag) (ta : TA) : TI:=fun σ H R=>ta σ H fun vs H1=>∃ a,vs = [.ref a] ∧ (∃ xs,SqL K H1 a xs) ∧ R (Iel K a) H1
theorem JbC {a : Expr} {ta : TA} {p pos : Pos} (hg : Gl X "enumerate") (hm : X.mg "enumerate" = none) (ha : PA X [a] ta) (hv : bootBuiltins "enumerate" = some (.type "enumerate"):=by decide +kernel) (hs : starEach [a] X.env = [(false,eval a X.env)]:=by rfl) :
  PI X (.Tuple es k tpos) (.Call (.Name "enumerate" p) [a] [] pos) (JbI X.K ta):=by
 intro pins s σ H R I h
 refine Call_ (J2q I hg hm hv (PyProof.Rows.callWith_type1 (thn (ha pos pins s σ H _ I h) fun us s1 ⟨vs,H1,I1,r1,q1⟩=>?_) (by rw [hs]; rfl) (by rfl)))
 obtain ⟨l1,e,⟨xs,hq1⟩,q⟩:=q1
 subst e
 obtain ⟨u,rfl,ru⟩:=r1.one
 cases ru
 obtain ⟨ia,ra,pa,_⟩:=I1.list hq1
 refine call_enumerate_list pa.isList fun h' a1 a2 a3 kp=>?_
 have I2 : Inv X pins σ H1 { s1 with heap:=h' }:=I1.kept (t':=s1.toks) kp
 refine wpAny_pyIter_enum a1 ⟨s1.heap.objs.size + 1,[s1.heap.objs.size + 1,s1.heap.objs.size],_,_,H1,rfl,I2,J9p (Nat.ne_of_gt (Nat.lt_succ_self _)),⟨⟨_,a1⟩,a2⟩,fun b hb=>?_,q⟩
 have hb' : s1.heap.objs.size ≤ b:=by
  simp only [List.mem_cons,List.not_mem_nil,or_false] at hb
  rcases hb with rfl | rfl
  ·exact Nat.le_add_right _ _
  ·exact Nat.le_refl _
 exact I1.fpOk hb' (I1.hok.fresh hb')
theorem J3C {K : PySem.W.Frag} {a : Expr} {ta : TA} {p pos : Pos} (h : X.K = K) (hg : Gl X "enumerate") (hm : X.mg "enumerate" = none) (ha : PA X [a] ta) (hv : bootBuiltins "enumerate" = some (.type "enumerate"):=by decide +kernel) (hs : starEach [a] X.env = [(false,eval a X.env)]:=by rfl) :
  PI X (.Tuple es k tpos) (.Call (.Name "enumerate" p) [a] [] pos) (JbI K ta):=h ▸ JbC hg hm ha hv hs
end
theorem Jak {K : PySem.W.Frag} {a : Addr} {xs : List V} {g : TG} {tb : TS} {D : Ends} {σ : St} {H : Hp} (Pv : Nat → St → Hp → Prop) (h0 : Pv 0 σ H) (hl : ∀ i σ H,i ≤ xs.length → Pv i σ H → SqL K H a xs)
  (hs : ∀ i x p σ H,xs[i]? = some x → H p = none → Pv i σ H → g (.ref p) σ (upd H p (.tup [.int i,x])) fun σ2 H2=>tb { D with nx:=Pv (i + 1),ct:=Pv (i + 1),bk:=D.nx } σ2 H2) (hd : ∀ σ H,Pv xs.length σ H → D.nx σ H) :
  ∃ W : Nat → Nat → St → Hp → Prop,(∃ m,W 0 m σ H) ∧ ∀ i m σ H,W i m σ H →
   ((Iel K a).stop i H ∧ D.nx σ H) ∨ ((Iel K a).go i H ∧ ∃ N : St → Hp → Prop,(∀ σ' H',N σ' H' → ∃ m',m' < m ∧ W (i + 1) m' σ' H') ∧ ∀ x H',(Iel K a).yld i H x H' → g x σ H' fun σ2 H2=>tb { D with nx:=N,ct:=N,bk:=D.nx } σ2 H2):=by
 refine ⟨fun i m σ H=>m = xs.length - i ∧ i ≤ xs.length ∧ Pv i σ H,⟨xs.length,by simp,Nat.zero_le _,h0⟩,?_⟩
 rintro i m σ H ⟨rfl,hi,p⟩
 have q:=hl i σ H hi p
 by_cases hlt : i < xs.length
 ·refine .inr ⟨⟨xs,xs[i],q,by simp [hlt]⟩,Pv (i + 1),fun σ' H' p'=>⟨xs.length - (i + 1),by omega,rfl,hlt,p'⟩,fun x H' y=>?_⟩
  obtain ⟨r,u,hr,e1,rfl,rfl⟩:=y
  exact hs i u r σ H (e1 xs q) hr p
 ·have e : i = xs.length:=by omega
  subst e
  exact .inl ⟨⟨xs,q,Nat.le_refl _⟩,hd σ H p⟩
end L2
set_option linter.all false
set_option maxRecDepth 100000
set_option maxHeartbeats 4000000
namespace L2
open PySem PySem.Spec PyProof.Rows
theorem J3D : ∀ {xs : List V},xs.all J1D = true → eqVs xs xs = true
 | [],_=>rfl
 | x :: xs,h=>by
  rw [List.all_cons,Bool.and_eq_true] at h
  rw [eqVs,J3D h.2,Bool.and_true]
  cases x <;> first | rfl | exact beq_self_eq_true _ | exact absurd h.1 Bool.false_ne_true
theorem Jb7 (xs ys : List V) : ((List.range (min xs.length ys.length)).all (fun j=>eqV (xs.getD j .non) (ys.getD j .non)) && xs.length == ys.length) = eqVs xs ys:=by
 by_cases h : xs.length = ys.length
 ·rw [beq_iff_eq.mpr h,Bool.and_true,h,Nat.min_self,← h,J4a h]
 ·rw [beq_eq_false_iff_ne.mpr h,Bool.and_false,J65 h]
section
variable {X : Cx} {K : PySem.W.Frag} {pins : List (Addr × Obj)} {s : Shared} {σ : St} {H : Hp} {A : Around}
theorem JbU {p r : Addr} {xs ys : List V} (I : Inv X pins σ H s) (hp : SqT X.K H p xs) (hr : SqT X.K H r ys) (fx : xs.all J1D = true) (fy : ys.all J1D = true) (hu : A.units < cLine) : SeqAt.RcAt A s (.ref p) (.ref r) (eqVs xs ys):=by
 obtain ⟨ia,ra,pa,za⟩:=I.tuple hp
 obtain ⟨ib,rb,pb,zb⟩:=I.tuple hr
 have h:=SeqAt.RcAt.tuples (A:=A) (e:=fun j=>eqV (xs.getD j .non) (ys.getD j .non)) (show s.heap.IsTuple p ia.toArray from pa) (show s.heap.IsTuple r ib.toArray from pb) hu (J8R ra rb fx fy)
 rw [List.size_toArray,List.size_toArray,← ra.length,← rb.length,Jb7] at h
 exact h
theorem J8x {p r : Addr} {xs ys : List V} (I : Inv X pins σ H s) (hp : SqT X.K H p xs) (hr : SqT X.K H r ys) (fx : xs.all J1D = true) (fy : ys.all J1D = true) (hu : A.units < cLine) : SeqAt.EqAt A s (.ref p) (.ref r) (eqVs xs ys):=by
 by_cases h : p = r
 ·subst h
  rw [I.tuple_inj hr hp,J3D fx]
  exact SeqAt.EqAt.same _
 ·exact SeqAt.EqAt.of_refs h (JbU I hp hr fx fy hu)
noncomputable def rEqE (K : PySem.W.Frag) (neg : Bool) : R2:=fun x y H Q=>∃ p r xs,x = .ref p ∧ y = .ref r ∧ SqL K H p xs ∧ SqL K H r [] ∧ Q (.bl (if neg then !xs.isEmpty else xs.isEmpty)) H
theorem JbV (h : X.K = K) (hu : X.A.units < cLine) : OpR X (compareOp .NotEq) (rEqE K true):=by
 subst h
 intro pins s σ H x y v u Q I rx ry h
 obtain ⟨p,r,xs,rfl,rfl,hp,hr,q⟩:=h
 cases xs with
 | nil=>exact Jb4 rfl hu pins s σ H _ _ v u Q I rx ry ⟨p,r,[],[],rfl,rfl,hp,hr,rfl,rfl,q⟩
 | cons a t =>
  cases rx; cases ry
  obtain ⟨ia,ra,pa,za⟩:=I.list hp
  obtain ⟨ib,rb,pb,zb⟩:=I.list hr
  have la:=ra.length
  have lb:=rb.length
  rw [List.length_cons] at la
  rw [List.length_nil] at lb
  exact SeqAt.RcNeAt.lists_lengths pa.isList pb.isList (by simp; omega) hu _ _ _ _ ⟨.bl true,H,I,rfl,q⟩
end
end L2
set_option linter.all false
set_option maxRecDepth 100000
set_option maxHeartbeats 4000000
namespace L2
open PySem PySem.Spec PyProof.Rows
@[irreducible] def tCut (t : TS) : TS:=fun D σ H=>∃ R : St → Hp → Prop,t { D with nx:=R } σ H ∧ ∀ σ' H',R σ' H' → D.nx σ' H'
theorem tCut.mk {t : TS} {D : Ends} {σ : St} {H : Hp} (R : St → Hp → Prop) (h : t { D with nx:=R } σ H) (h' : ∀ σ' H',R σ' H' → D.nx σ' H') : tCut t D σ H:=by unfold tCut; exact ⟨R,h,h'⟩
section
variable {X : Cx} {K : PySem.W.Frag}
theorem JdH {st : Stmt} {t : TS} (h : PS X st t) : PS X st (tCut t):=by
 intro pins s σ H D I q
 unfold tCut at q
 obtain ⟨R,h1,h2⟩:=q
 refine thn (h pins s σ H _ I h1) fun f s' z=>?_
 cases f with
 | next=>obtain ⟨σ',H',I',r⟩:=z; exact ⟨σ',H',I',h2 σ' H' r⟩
 | brk=>exact z
 | cont=>exact z
 | ret u=>exact z
noncomputable def Jel : TE:=fun _ _ _=>False
noncomputable def Jeh : TT:=fun _ _ _=>False
theorem J2A {ss : List Stmt} : PSs X ss Jbs:=fun _ _ _ _ _ _ h=>h.elim
theorem J17 {e : Expr} : PE X e Jel:=fun _ _ _ _ _ _ h=>h.elim
theorem J7Q {e : Expr} : PT X e Jeh:=fun _ _ _ _ _ _ h=>h.elim
theorem J7N {M : Model} {A : Around} {E : Value → Shared → Prop} {s : Shared} {a b : Value} {Q : Value → Shared → Prop} (ha : s.TypeIs a "list") (hb : s.TypeIs b "list") (hc : wpAny M A (call (.builtin "list.__iadd__") [a,b]) Q E s) : wpAny M A (inplaceOp .Add a b) Q E s:=by
 unfold inplaceOp
 refine wpAny_holding ?_
 have hl : typeLookup (.type "list") (dunderI "add") = pure (some (.builtin "list.__iadd__")):=F.slot_list_iadd.lookup
 have hfi : fillsInplaceSlot (.type "list") "add" (Operator.Add == .Add) = pure false:=by
  unfold fillsInplaceSlot
  show (typeLookup (.type "list") (dunderI "add") >>= fun fi=>pure (fi.isSome && !isSeqSlot fi)) = pure false
  rw [hl]; rfl
 have hsi : seqSlot? (.type "list") (dunderI "add") = pure (some (.builtin "list.__iadd__")):=by
  unfold seqSlot?
  rw [hl]; rfl
 refine wpAny_bind (wpAny_typeOf ha (wpAny_bind (wpAny_of_eq hfi ?_)))
 show wpAny M A (if false = true then _ else _) Q E s
 rw [if_neg Bool.false_ne_true]
 refine wpAny_bind (binaryOp1_none (nm:="add") ha hb noFill_list_add ?_)
 refine wpAny_bind (wpAny_of_eq hsi ?_)
 exact wpAny_bind (wpAny_rule hc)
noncomputable def ipL : TIp:=fun x y H Q=>∃ l b xs zs,x = .ref l ∧ y = .ref b ∧ H l = some (.lst xs) ∧ H b = some (.lst zs) ∧ xs.length + zs.length ≤ sizeLine ∧ Q (.ref l) (upd H l (.lst (xs ++ zs)))
theorem J3F : PIp X .Add ipL:=by
 intro pins s σ H x y v u Q I rx ry h
 obtain ⟨l,b,xs,zs,rfl,rfl,hH,hB,hz,q⟩:=h
 cases rx
 cases ry
 obtain ⟨z,its,n,r,hl,e⟩:=I.lstM hH
 obtain ⟨z2,its2,n2,r2,hl2,e2⟩:=I.lstM hB
 have hsz : its.toArray.size + its2.toArray.size ≤ sizeLine:=by rw [List.size_toArray,List.size_toArray]; omega
 have hlong : ¬ (!its.toArray.isEmpty && Builtin.List.listTooLong (its.toArray.size + its2.toArray.size)) = true:=by
  rw [J8V hsz,Bool.and_false]
  exact Bool.false_ne_true
 refine J7N ⟨_,e,rfl⟩ ⟨_,e2,rfl⟩ ?_
 refine call_meets F.slot_list_iadd ⟨_,e,rfl⟩ F.entry_list_iadd (F.args_list_iadd_2 _ _)
  (AutoSeq1.list___iadd___list_list_0 l its.toArray n b its2.toArray n2 hlong (by rw [List.size_toArray]; omega) (by omega)) ⟨e,e2,?_⟩
 refine ⟨.ref l,_,I.lset (its':=its ++ its2) hH e (by simp) (r.append r2) ?_,rfl,q⟩
 rw [List.length_append]
 omega
end
end L2
namespace L2
open PySem PySem.Spec PyProof.Rows
section
variable {α β : Type} {H : Hp}
end
end L2
set_option linter.all false
set_option maxRecDepth 100000
set_option maxHeartbeats 4000000
namespace L2
open PySem PySem.Spec PyProof.Rows
section
variable {X : Cx} {pins : List (Addr × Obj)} {σ : St} {H : Hp} {s : Shared} {E : XK} {Ex : Value → Shared → Prop}
end
end L2
set_option linter.all false
set_option maxRecDepth 100000
set_option maxHeartbeats 4000000
namespace L2
open PySem PySem.Spec PyProof.Rows
section
variable {P : Program} {w : World} {K : PySem.W.Frag} {mg : Str → Option Value} {base : Heap}
end
section
variable {X : Cx} {x m : Str} {k : Nat} {ps : List Str} {sp : Sp} {C : Addr} {p pos apos : Pos} {e o : Expr} {es : List Expr} {t : TA} {to : TE} {E : XK}
end
end L2
set_option linter.all false
set_option maxRecDepth 100000
set_option maxHeartbeats 4000000
namespace L2
open PySem PySem.Spec PyProof.Rows
section
variable {prog : Program} {w : World} {A : Around} {E : Value → Shared → Prop} {K : PySem.W.Frag} {x C : Addr} {h : Heap} {g : Array GenState} {d : Drawn} {t : Nat} {os : OsState} {o : Obj}
end
end L2
set_option linter.all false
set_option maxRecDepth 100000
set_option maxHeartbeats 4000000
namespace L2
open PySem PySem.Spec PyProof.Rows
section
variable {X : Cx} {pins : List (Addr × Obj)} {σ : St} {H : Hp} {s : Shared}
end
section
variable {X : Cx} {x m : Str} {k : Nat} {ps : List Str} {sp : Sp} {C : Addr} {p pos apos : Pos} {e o : Expr} {es : List Expr} {t : TA} {to : TE}
end
section
variable {X : Cx}
end
end L2
set_option linter.all false
set_option maxRecDepth 100000
set_option maxHeartbeats 4000000
namespace L2
open PySem PySem.Spec PyProof.Rows
section
variable {X : Cx} {K : PySem.W.Frag}
end
end L2
set_option linter.all false
set_option maxRecDepth 100000
set_option maxHeartbeats 4000000
namespace L2
open PySem PySem.Spec PyProof.Rows
section
variable {X : Cx} {K : PySem.W.Frag} {pins : List (Addr × Obj)} {σ : St} {H : Hp} {s : Shared} {A : Around}
theorem J8H (n : Nat) : (List.range n).all (fun _=>true) = true:=List.all_eq_true.mpr fun _ _=>rfl
end
end L2
set_option linter.all false
set_option maxRecDepth 100000
set_option maxHeartbeats 4000000
namespace L2
open PySem PySem.Spec PyProof.Rows
section
variable {X : Cx} {K : PySem.W.Frag} {pins : List (Addr × Obj)} {σ : St} {H : Hp} {s : Shared} {A : Around}
theorem Jcz : OpR X (compareOp .IsNot) (fun x y H Q=>∃ a b,x = .bl a ∧ y = .bl b ∧ Q (.bl (a != b)) H):=by
 intro pins s σ H x y v u Q I rx ry h
 obtain ⟨a,b,rfl,rfl,q⟩:=h
 cases rx; cases ry
 exact isnot_bool (JF I q rfl)
theorem Jac (h : X.K = K) : OpR X (compareOp .NotIn) (rIn K true):=h ▸ J7R
end
end L2
set_option linter.all false
set_option maxRecDepth 100000
set_option maxHeartbeats 4000000
namespace L2
open PySem PySem.Spec PyProof.Rows
section
variable {X : Cx} {K : PySem.W.Frag}
end
end L2
set_option linter.all false
set_option maxRecDepth 100000
namespace L2
open PySem PySem.Spec PyProof.Rows
end L2
namespace L2
open PySem PySem.Spec PyProof.Rows
section
variable (P : Program) (w : World)
end
section
variable {P : Program} {w : World} {H H' : Hp} {h h' : Heap} {a : Addr} {o : HO}
end
section
variable {P : Program} {w : World} {H : Hp} {h h' : Heap} {x e : Addr} {o' : HO}
end
section
variable {fs fs' ex ex' : List Addr} {H H1 H2 : Hp} {h h1 h2 h' : Heap} {a x e : Addr} {o : HO}
end
end L2
namespace L2
open PySem PySem.Spec PyProof.Rows
section
variable {X : Cx} {pins : List (Addr × Obj)} {σ : List (Option V)} {H H' : Hp} {s : Shared} {h' : Heap}
end
end L2
namespace L2
open PySem PySem.Spec PyProof.Rows
section
variable {X : Cx}
variable {a b : Expr} {ta tb : TE} {pos : Pos}
variable {tA tB' : TT} {rest : List Expr}
end
end L2
namespace L2
open PySem PySem.Spec PyProof.Rows
section
variable {X : Cx} {pins : List (Addr × Obj)} {σ : St} {H : Hp} {s : Shared} {a : Addr} {xs ys : List V}
end
section
variable {X : Cx} {pins : List (Addr × Obj)} {σ : St} {H : Hp} {s : Shared} {E : Value → Shared → Prop}
end
section
variable {X : Cx} {st : Stmt} {rest : List Stmt} {t u : TS} {e : Expr} {te : TE} {pos : Pos}
end
section
variable {X : Cx} {pos : Pos}
end
section
variable {X : Cx} {pos : Pos}
end
end L2
namespace L2
open PySem PySem.Spec PyProof.Rows
section
variable {X : Cx} {tg : Expr}
end
end L2
namespace L2
open PySem PySem.Spec PyProof.Rows
section
variable {X : Cx} {a b c : Expr} {ta tb tc : TE} {pos : Pos}
end
section
variable {X : Cx} {a b c : Expr} {ta tb tc : TE} {pos : Pos}
end
end L2
namespace L2
open PySem PySem.Spec PyProof.Rows
section
variable {prog : Program} {w : World} {A : Around} {E : Value → Shared → Prop} {s : Shared} {K : PySem.W.Frag} {x dx C f : Addr} {mA : Str → Option Value} {name : Str} {v : Value}
end
section
variable {P : Program} {w : World} {H H' : Hp} {h h' : Heap} {a C dx : Addr} {fs fs' : List (Str × V)}
end
section
variable {X : Cx} {pins : List (Addr × Obj)} {σ : St} {H : Hp} {s : Shared} {a C dx : Addr} {fs : List (Str × V)} {f : Str} {v : V} {A : Around} {E : Value → Shared → Prop}
end
section
variable {X : Cx} {o e value : Expr} {f : Str} {pos pos' tpos : Pos} {ta tv : TE}
end
section
variable {X : Cx} {pins : List (Addr × Obj)} {σ : St} {H : Hp} {s : Shared} {A : Around} {E : Value → Shared → Prop} {Q : Value → Shared → Prop} {c : Value} {b : Bool}
end
end L2
namespace L2
open PySem PySem.Spec PyProof.Rows
section
variable {X : Cx} {e : Expr} {es : List Expr} {te : TE} {t : TA} {pos : Pos}
end
section
variable {X : Cx} {pins : List (Addr × Obj)} {σ : St} {H : Hp} {s s' : Shared}
end
section
variable {X : Cx} {CX : CXT} {k : Nat} {f C : Addr} {fd : FuncData} {ps : List Str} {sp : Sp} {dvs : List V} {ds : List Value} {E : XK} {x m : Str} {p pos apos : Pos} {e o : Expr} {es : List Expr} {ta : TE} {t : TA}
end
section
variable {X : Cx} {CX : CXT} {k : Nat} {f C : Addr} {fd : FuncData} {ps ks : List Str} {sp : Sp} {E : XK} {x m : Str} {p pos apos kpos : Pos} {e o : Expr} {es : List Expr} {kws : List Keyword} {te ta : TE} {t tk : TA} {nm : Option Str}
variable {g : List Value → List Value → List Value} {gV : List V → List V → List V}
end
end L2
namespace L2
open PySem PySem.Spec PyProof.Rows
section
variable {X : Cx} {x : Str} {p pos : Pos} {e : Expr} {es : List Expr} {t : TA} {id T : String} {r : List V → Hp → VK → Prop}
end
end L2
namespace L2
open PySem PySem.Spec PyProof.Rows
section
variable {κ : Type} [DecidableEq κ]
theorem RelO.isSome_eq {o : Option V} {u : Option Value} (r : RelO o u) : o.isSome = u.isSome:=by
 cases o with
 | none=>cases u with
  | none=>rfl
  | some _=>exact (show False from r).elim
 | some _=>cases u with
  | none=>exact (show False from r).elim
  | some _=>rfl
theorem RelO.getD {o : Option V} {u : Option Value} {d : V} {d' : Value} (r : RelO o u) (rd : RelV d d') : RelV (o.getD d) (u.getD d'):=by
 cases o with
 | none=>cases u with
  | none=>exact rd
  | some _=>exact (show False from r).elim
 | some _=>cases u with
  | none=>exact (show False from r).elim
  | some _=>exact r
end
theorem Je0 {P : Program} {w : World} {k : Key} {u : Value} (r : RelV (kV k) u) : (J04 P w).is k u = true:=by
 cases k with
 | inl i=>obtain ⟨t,e⟩:=(show ∃ t,u = Value.int i t from r); subst e; exact J8u P w i t
 | inr x=>obtain ⟨t,e⟩:=(show ∃ t,u = Value.str x t from r); subst e; exact J8s P w x t
theorem J6V {P : Program} {w : World} : ∀ {ks : List Key} {us : List Value},Vals (ks.map kV) us → ItemsAre (J04 P w) ks us
 | [],_,r=>by rw [List.map_nil] at r; cases r; exact .nil
 | k :: ks,_,r=>by
  rw [List.map_cons] at r
  cases r with
  | cons h t=>exact .cons (Je0 h) (J6V t)
section
variable {P : Program} {w : World} {H : Hp} {h : Heap} {a : Addr}
theorem JbH {ks : List Key} (ok : HOk P w H h) (e : H a = some (.tup (ks.map kV))) : (tupleKind (J04 P w)).is h ks a:=by
 obtain ⟨_,its,r,o,h1,h2,n,h3⟩:=(show J07 P w H h a (.tup (ks.map kV)) from ok a _ e)
 exact ⟨o,its.toArray,n,h1,h2,h3,by simpa using J6V r⟩
end
section
variable {X : Cx} {pins : List (Addr × Obj)} {σ : St} {H : Hp} {s : Shared} {a : Addr} {y v : V} {u r : Value} {o : Option V} {A : Around} {E : Value → Shared → Prop}
theorem Inv.big (I : Inv X pins σ H s) : sysModules < s.heap.objs.size:=by
 have h : mainGlobals < s.heap.objs.size:=(I.mod.glob.keeps I.bk).lt
 exact Nat.lt_trans (by decide) h
theorem J9N {h' : Heap} {t' : Nat} {ob : HO} (I : Inv X pins σ H s) (mu : Mut (H a)) (hs : Heap.SameBut a s.heap h') (he : ∃ q,h'.get? a = some q) (new : J07 X.prog X.w (upd H a ob) h' a ob) :
  Inv X pins σ (upd H a ob) { s with heap:=h',toks:=t' } :=
 I.write (x:=a) (e:=a) mu (.inl rfl) (fun b q hb z=>(hs.2 b hb).trans z) he new
end
section
variable {X : Cx} {pins : List (Addr × Obj)} {σ : St} {H : Hp} {s : Shared} {a : Addr} {kvs : List (Key × V)} {k : Key} {u : Value} {A : Around} {E : Value → Shared → Prop}
end
noncomputable def NoSl (i : Expr) : Prop:=∀ ov iv,subscripted i false ov iv = operate [ov,iv] (getItem ov iv)
theorem Jcu {prog : Program} {w : World} {A : Around} {E : Value → Shared → Prop} {s : Shared} {env : Env} {value slice : Expr} {pos : Pos} {T id : String} {Q : Value → Shared → Prop}
  (hl : typeLookup (.type T) "__getitem__" = pure (some (.builtin id))) (hs : NoSl slice)
  (h : wpAny (model prog w) A (eval value env) (fun o s₁=>wpAny (model prog w) A (eval slice env) (fun i s₂=>s₂.TypeIs o T ∧ wpAny (model prog w) A (getItem o i) Q E s₂) E s₁) E s) :
  wpAny (model prog w) A (eval (.Subscript value slice pos) env) Q E s:=by
 refine Subscript_ (wpAny_mono h (fun o s₁ h₁=>wpAny_mono h₁ (fun i s₂ h₂=>?_) fun _ _ x=>x) fun _ _ x=>x)
 obtain ⟨hT,h₂⟩:=h₂
 unfold subscriptTail
 refine wpAny_bind ?_
 rw [getitemInPython_of_ne hT.not_modules]
 refine wpAny_bind (wpAny_specialOf hT hl ?_)
 have fin : wpAny (model prog w) A (subscripted slice false o i) (fun r s₃=>wpAny (model prog w) A (letTemporaryGo value o r >>= fun _=>pure r) Q E s₃) E s₂:=by
  rw [hs o i]
  exact wpAny_operating (wpAny_mono h₂ (fun r s₃ h₃=>wpAny_bind (wpAny_letTemporaryGo (wpAny_pure h₃))) fun _ _ x=>x)
 first
  | exact wpAny_pure (wpAny_bind fin)
  | exact wpAny_bind (wpAny_pure (wpAny_bind fin))
  | exact wpAny_bind fin
section
variable {X : Cx} {o i e value : Expr} {pos pos' tpos : Pos} {td ty tv : TE}
end
theorem Jbx {P : Program} {w : World} {H : Hp} (h : Heap) (hb : sysModules < h.objs.size) : J07 P w H (h.push { cls:=.type "dict",data:=.dict #[] }) h.objs.size (.dT []) :=
 ⟨Nat.zero_le _,beq_eq_false_iff_ne.mpr (Ne.symm (Nat.ne_of_lt hb)),[],.nil,_,#[],0,Heap.get?_push_size _ rfl,⟨rfl,rfl,rfl⟩,rfl,rfl,List.nodup_nil⟩
noncomputable def JdR : TE:=fun _ H Q=>∀ p,H p = none → Q (.ref p) (upd H p (.dT []))
section
variable {X : Cx} {pos : Pos}
theorem J8N : PE X (.Dict [] [] pos) JdR:=fun pins s σ H Q I h =>
 wpAny_Dict_empty ⟨.ref s.heap.objs.size,_,I.laid (a:=s.heap.objs.size) (o:=.dT []) (t':=s.toks) (fun _ _ q=>Heap.get?_push_of_some _ q) (Nat.le_refl _) (Jbx s.heap I.big),rfl,h _ (I.hok.fresh (Nat.le_refl _))⟩
end
structure M2 (X : Cx) (o : Expr) (m : Str) (apos : Pos) (e f : Expr) (cpos : Pos) : Prop where
 base : attributeBase o m X.env (eval o X.env) = eval o X.env
 few : ((backTo cpos (starEach [e,f] X.env)).all (fun x=>!x.1) && (backToKw cpos (keywordEach [] X.env)).all (fun x=>x.1.isSome)
  && decide (([e,f] : List Expr).length + ([] : List Keyword).length + (if ([] : List Keyword).isEmpty then 0 else 1) < 30)) = true
 line : (apos.endLine == cpos.line) = true
 trees : backTo cpos (starEach [e,f] X.env) = [(false,eval e X.env),(false,eval f X.env)]
section
variable {X : Cx} {pins : List (Addr × Obj)} {σ : St} {H : Hp} {s : Shared} {a : Addr} {y d : V} {u r : Value} {o : Option V} {A : Around} {E : Value → Shared → Prop}
end
section
variable {X : Cx} {o e f : Expr} {apos cpos : Pos} {td ty tx : TE}
end
section
variable {X : Cx} {pins : List (Addr × Obj)} {σ : St} {H : Hp} {s : Shared} {a : Addr} {kvs : List (Key × V)} {A : Around} {E : Value → Shared → Prop}
end
section
variable {X : Cx} {pins : List (Addr × Obj)} {σ : St} {H : Hp} {s : Shared} {a : Addr} {y : V} {u : Value} {A : Around} {E : Value → Shared → Prop}
end
end L2
namespace Att
open PySem PySem.W PySem.Calls PyProof.Rows
section
variable {prog : Program} {w : World} {A : Around} {E : Value → Shared → Prop} {s : Shared} {K : Frag}
end
end Att
namespace L2
open PySem PySem.Spec PyProof.Rows
end L2
namespace L2
open PySem PySem.Spec PyProof.Rows
end L2
namespace L2
open PySem PySem.Spec PyProof.Rows
section
variable {P : Program} {w : World} {K : PySem.W.Frag} {mg : Str → Option Value} {base : Heap}
end
section
variable {X : Cx}
end
section
variable {κ : Type} [DecidableEq κ]
end
end L2
set_option linter.all false
set_option maxRecDepth 100000
set_option maxHeartbeats 4000000
namespace L2
open PySem PySem.Spec PyProof.Rows
section
variable {prog : Program} {w : World} {K : Type} [DecidableEq K] {knd : HeapKind prog w K} {A : Around} {E : Value → Shared → Prop} {s : Shared} {d a : Addr} {xs : List (K × Addr × Value)} {k : K} {z : Value}
end
section
variable {X : Cx} {K : PySem.W.Frag}
end
open PySem.W in
noncomputable def tMkO (C : Addr) : TE:=fun _ H Q=>∀ x dx,H x = none → H dx = none → dx ≠ x → Q (.ref x) (upd (upd H dx (.own x)) x (.ins C dx []))
open PySem.W in
theorem Jdl {X : Cx} {K : PySem.W.Frag} {x : Str} {C : Addr} {p pos : Pos} (hK : X.K = K) (mk : makesIn K C = true) (kc : keepIn K (.ref C) = true) (hi : findIn K (.ref C) "__init__" = some (some (.builtin "object.__init__"))) (hm : X.mg x = some (.ref C)) (hg : Gl X x:=by rfl)
  (hdb : (x == ("__debug__" : Str)) = false:=by decide) : PE X (.Call (.Name x p) [] [] pos) (tMkO C):=by
 subst hK
 intro pins s σ H Q I h
 have q:=h (s.heap.objs.size + 1) s.heap.objs.size (I.hok.fresh (Nat.le_succ _)) (I.hok.fresh (Nat.le_refl _)) (Nat.ne_of_lt (Nat.lt_succ_self _))
 have I2:=Inv.made (C:=C) I
 refine wpAny_Call_Name_kw (J5c I hg hm ?_ hdb)
 refine callWith_K0 I.kIn kc (wpAny_call (Jab I.kIn mk hi (fun self=>Looks.of_pure (oi_bind self)) ?_))
 have Y:=makes_of (M:=model X.prog X.w) I.kIn mk
 have g : ((s.heap.push emptyDict).push (instObj C s.heap.objs.size)).get? (s.heap.objs.size + 1) = some (instObj C s.heap.objs.size):=by
  have:=Heap.get?_push_size (s.heap.push emptyDict) (o:=instObj C s.heap.objs.size) rfl
  rwa [Heap.size_push] at this
 have t1 : Looks (model X.prog X.w) ((s.heap.push emptyDict).push (instObj C s.heap.objs.size)) (typeOf (.ref (s.heap.objs.size + 1))) (.ref C):=(Looks.ld g).andThen .now
 have t2 : Looks (model X.prog X.w) ((s.heap.push emptyDict).push (instObj C s.heap.objs.size)) (isInstance (.ref (s.heap.objs.size + 1)) (.type "object")) true:=t1.andThen (Y.top.keeps fun b o e=>Heap.get?_push_of_some _ (Heap.get?_push_of_some _ e))
 refine codeAny_call_builtin oi_plain entry_oi (@check_slot (model X.prog X.w) _ _ _ "object.__init__" "object" "__init__" (.ref (s.heap.objs.size + 1)) [] [] _ oi_kind oi_split t2 (oi_args _) ?_)
 rw [oi_run]
 exact wpAny_pure ⟨rfl,⟨V.ref (s.heap.objs.size + 1),_,I2,rfl,q⟩⟩
noncomputable def Jeb (i j : Int) : Prop:=0 ≤ j ∧ j ≤ 1000 ∧ i.natAbs < 2 ^ 1000
theorem Jc5 {X : Cx} : OpR X (binaryOp .Pow) (rI Jeb fun i j=>.int (i ^ j.toNat)):=opI fun i j _ _ _ _ _ hc q=>by
 refine pow_int hc.1 ?_ q
 have h1 : Builtin.Int.intBits i ≤ 1000:=intBits_le hc.2.2
 have h2 : (Builtin.Int.intBits i : Int) * j ≤ 1000 * j:=Int.mul_le_mul_of_nonneg_right (by omega) hc.1
 have:=hc.2.1
 omega
end L2
set_option linter.all false
set_option maxRecDepth 100000
set_option maxHeartbeats 4000000
namespace L2
open PySem PySem.Spec PyProof.Rows
section
variable {X : Cx} {K : PySem.W.Frag}
end
section
variable {X : Cx} {es : List Expr} {k : Nat} {tpos : Pos}
end
section
variable {elt tg iter : Expr} {ifs : List Expr} {scope : Scope} {pos : Pos} {N : List Str} {js : List (Option Nat)} {wi : TI} {g : TG} {tc : TT} {te : TE}
end
end L2
set_option linter.all false
set_option maxRecDepth 100000
set_option maxHeartbeats 4000000
namespace L2
open PySem PySem.Spec PyProof.Rows
section
variable {prog : Program} {w : World} {K : Type} [DecidableEq K] {knd : KeyKind prog w K} {A : Around} {E : Value → Shared → Prop} {s : Shared}
theorem J8r : typeLookup (.type "dict") "__len__" = pure (some (.builtin "dict.__len__")):=by rw [typeLookup_type,builtinLookup_eq_fast]; kernel_rfl
end
section
variable {X : Cx}
end
section
variable {X : Cx} {K : PySem.W.Frag}
end
theorem J6W : bootBuiltins "sorted" = some (.builtin "sorted"):=by decide +kernel
section
variable {X : Cx}
theorem J8K {x : Str} {n : Int} {pos : Pos} (hg : Gl X x) (hm : ∃ t,X.mg x = some (.int n t)) (hd : (x == ("__debug__" : Str)) = false:=by decide) : PE X (.Name x pos) (tC (.int n)):=by
 obtain ⟨t,hm⟩:=hm
 exact J5h hg hm ⟨t,rfl⟩ hd
end
section
variable {X : Cx}
end
end L2
set_option linter.all false
set_option maxRecDepth 100000
set_option maxHeartbeats 4000000
namespace L2
open PySem PySem.Spec PyProof.Rows
section
variable {p : Program} {w : World} {A : Around} {R : Result → Shared → Prop} {it bst : Addr} {fp wr : List Addr} {n : Nat} {G : Nat → Value → Prop} {St : Nat → Heap → Prop} {bt : Nat → Nat → Bool} {kw : List (Str × Value)}
end
section
variable {p : Program} {w : World} {A : Around} {E : Value → Shared → Prop} {s : Shared} {l : Addr} {xs : Array (Int × Tok)} {Q : Value → Shared → Prop} {d : Value}
end
section
variable {X : Cx} {K : PySem.W.Frag}
noncomputable def tCBk (r : List V → List V → Hp → VK → Prop) (t tk : TA) : TE:=fun σ H Q=>t σ H fun vs H1=>tk σ H1 fun zs H2=>r vs zs H2 Q
noncomputable def JaY (X : Cx) (f : Value) (ks : List Str) (r : List V → List V → Hp → VK → Prop) : Prop:=∀ (pins : List (Addr × Obj)) (s : Shared) (σ : St) (H : Hp) (vs zs : List V) (us ws : List Value) (Q : VK),Inv X pins σ H s → Vals vs us → Vals zs ws → r vs zs H Q → wpAny (model X.prog X.w) X.A (call f us (ks.zip ws)) (EP X pins σ Q) X.xe s
theorem Jav {id : String} {ks : List Str} {r : List V → List V → Hp → VK → Prop} {x : Str} {e : Expr} {es : List Expr} {kws : List Keyword} {t tk : TA} {p pos : Pos} (hc : JaY X (.builtin id) ks r) (hg : Gl X x) (hm : X.mg x = none) (hv : bootBuiltins x = some (.builtin id)) (ha : PA X (e :: es) t) (hkw : PK X kws tk)
  (hall : (backToKw pos (keywordEach kws X.env)).all (·.1.isSome) = true:=by rfl) (hks : (backToKw pos (keywordEach kws X.env)).filterMap (·.1) = ks:=by rfl) (hn : x ≠ "__name__":=by decide)
  (hdb : (x == ("__debug__" : Str)) = false:=by decide) (he : starEach (e :: es) X.env = (false,eval e X.env) :: starEach es X.env:=by rfl)
  (hpl : ((backTo pos (starEach (e :: es) X.env)).any (·.1) || (backToKw pos (keywordEach kws X.env)).any (·.1.isNone)) = false:=by rfl) : PE X (.Call (.Name x p) (e :: es) kws pos) (tCBk r t tk):=by
 intro pins s σ H Q I h
 refine wpAny_Call_Name_kw (J2q I hg hm hv ?_ hn hdb)
 refine PySem.W.callWith_of (P:=fun _=>True) hpl (fun h _=>⟨Keeper.machine,.inr (.inl rfl),.now⟩) (evalArgs_kw2 hall (thn (ha pos pins s σ H _ I h) fun us s1 ⟨vs,H1,I1,r,q⟩=>thn (hkw pos pins s1 σ H1 _ I1 q) fun ws s2 ⟨zs,H2,I2,rz,q2⟩=>⟨True.intro,?_⟩) he)
 rw [hks]
 exact hc pins s2 σ H2 vs zs us ws Q I2 r rz q2
end
end L2
set_option linter.all false
set_option maxRecDepth 100000
set_option maxHeartbeats 4000000
namespace L2
open PySem PySem.Spec PyProof.Rows
open Builtin Builtin.Str
section
variable {prog : Program} {w : World} {A : Around} {E : Value → Shared → Prop} {s : Shared}
end
end L2
set_option linter.all false
set_option maxRecDepth 100000
set_option maxHeartbeats 4000000
namespace L2
open PySem PySem.Spec PyProof.Rows
section
variable {X : Cx} {K : PySem.W.Frag}
theorem J9J {xs : List (Int × Tok)} (h : 0 < xs.length) {v : Value} (e : (intItems xs.toArray)[argBest (fun i j=>decide (numAt xs.toArray i < numAt xs.toArray j)) (xs.toArray.size - 1)]? = some v) :
  ∃ M t,v = .int M t ∧ M ∈ xs.map (·.1) ∧ ∀ a ∈ xs.map (·.1),M ≤ a:=by
 obtain ⟨t,rfl⟩:=intItems_at e
 obtain ⟨h1,h2⟩:=argBest_lt (numAt xs.toArray) (xs.toArray.size - 1)
 have ez : xs.toArray.size = xs.length:=List.size_toArray ..
 refine ⟨_,t,rfl,?_,fun a ha=>?_⟩
 ·rw [numAt_eq]
  exact getD_mem (by rw [List.length_map]; omega)
 ·obtain ⟨j,hj,rfl⟩:=mem_getD ha
  rw [List.length_map] at hj
  have:=h2 j (by omega)
  conv at this=>rhs; rw [numAt_eq]
  exact this
theorem Ja6 (hc : X.calm = true) (h : X.K = K) : J1p X (.builtin "min") (fun xs H Q=>∃ (D : Addr) (ns : List Int),xs = [.ref D] ∧ SqL K H D (ns.map V.int) ∧ 0 < ns.length ∧ ∀ M,M ∈ ns → (∀ a ∈ ns,M ≤ a) → Q (.int M) H):=by
 subst h
 intro pins s σ H xs us Q I r h
 obtain ⟨D,ns,rfl,hq,hn,q⟩:=h
 obtain ⟨u,rfl,ru⟩:=r.one
 cases ru
 obtain ⟨its,rv,pl,_⟩:=I.list hq
 obtain ⟨xs,rfl,rfl⟩:=J3g rv
 have e : (xs.map fun p=>Value.int p.1 p.2).toArray = intItems xs.toArray:=by simp [intItems]
 rw [List.length_map] at hn
 refine min_intList (xs:=xs.toArray) (I.ok.hd hc) (by rw [← e]; exact pl.isList) (by rw [List.size_toArray]; exact hn) fun v h' tk hv hk=>?_
 obtain ⟨M,t,rfl,m1,m2⟩:=J9J hn hv
 exact ⟨.int M,H,I.kept (fun b o e=>hk b o e),⟨t,rfl⟩,q M m1 m2⟩
end
end L2
set_option linter.all false
set_option maxRecDepth 100000
set_option maxHeartbeats 4000000
namespace L2
open PySem PySem.Spec PyProof.Rows
section
variable {κ : Type} [DecidableEq κ]
end
section
variable {p : Program} {w : World} {A : Around} {R : Result → Shared → Prop} {it : Addr} {fp wr : List Addr} {gs : Array GenState → Array GenState → Prop} {n : Nat} {Pv : Nat → Value → Prop} {St : Nat → Shared → Prop}
end
section
variable {p : Program} {w : World} {A : Around} {E : Value → Shared → Prop} {s : Shared}
end
section
variable {X : Cx}
end
end L2
set_option linter.all false
set_option maxRecDepth 100000
namespace L2
open PySem PySem.Spec PyProof.Rows
section
variable {X : Cx}
end
end L2
set_option linter.all false
set_option maxRecDepth 100000
set_option maxHeartbeats 4000000
namespace L2
open PySem PySem.Spec PyProof.Rows
section
variable {X : Cx} {e : Expr} {pos : Pos}
end
end L2
set_option linter.all false
set_option maxRecDepth 100000
set_option maxHeartbeats 4000000
namespace L2
open PySem PySem.Spec PyProof.Rows
section
variable {X : Cx}
end
end L2
set_option linter.all false
set_option maxRecDepth 100000
set_option maxHeartbeats 4000000
namespace L2
open PySem PySem.Spec PyProof.Rows
section
variable {X : Cx} {K : PySem.W.Frag} {pins : List (Addr × Obj)} {σ : St} {H : Hp} {s : Shared} {A : Around}
end
end L2
namespace L2
open PySem
theorem J2O {A : Around} {k : Nat} (hr : Room k A) : A.units + 2 < cLine:=Nat.lt_of_le_of_lt (Nat.add_le_add_left (by decide : 2 ≤ 64) _) hr.units
end L2
set_option linter.all false
set_option maxRecDepth 100000
set_option maxHeartbeats 4000000
namespace L2
open PySem PySem.Spec PyProof.Rows
theorem J8B : ∀ (n : Nat) (us : List Value),us.length = n → (∀ (j : Nat) (v : Value),us[j]? = some v → ∃ t,v = .int (j : Int) t) → ∀ k,k ≤ n → Vals ((List.range k).map fun (i : Nat)=>V.int (i : Int)) (us.take k)
 | n,us,hl,h,0,_=>by
  rw [List.take_zero]
  exact .nil
 | n,us,hl,h,k + 1,hk=>by
  have ih:=J8B n us hl h k (by omega)
  have hkl : k < us.length:=by omega
  obtain ⟨t,e⟩:=h k us[k] (List.getElem?_eq_getElem hkl)
  rw [List.range_succ,List.map_append,List.take_add_one,List.getElem?_eq_getElem hkl,e]
  exact ih.append (.cons ⟨t,rfl⟩ .nil)
section
variable {X : Cx}
theorem J8C : J1p X (.type "range") (fun xs H Q=>∃ j : Int,xs = [.int j] ∧ ∀ p,H p = none → Q (.ref p) (upd H p (.rng 0 j))):=by
 intro pins s σ H xs us Q I r h
 obtain ⟨j,rfl,q⟩:=h
 obtain ⟨u,rfl,t,rfl⟩:=J4D r
 have hf : H s.heap.objs.size = none:=I.hok.fresh (Nat.le_refl _)
 refine call_range_1 ⟨.ref _,upd H s.heap.objs.size (.rng 0 j),I.laid (fun b u e=>Heap.get?_push_of_some _ e) (Nat.le_refl _) ?_,rfl,q _ hf⟩
 exact ⟨_,_,_,Heap.get?_push_size _ rfl⟩
theorem J9c (hc : X.calm = true) : J1p X (.type "list") (fun xs H Q=>∃ (p : Addr) (j : Int),xs = [.ref p] ∧ H p = some (.rng 0 j) ∧ 0 ≤ j ∧ j ≤ 1000 ∧ ∀ l,H l = none → Q (.ref l) (upd H l (.lst ((List.range j.toNat).map fun (i : Nat)=>V.int (i : Int))))):=by
 intro pins s σ H xs us Q I r h
 obtain ⟨p,j,rfl,hp,j0,j1,q⟩:=h
 obtain ⟨u,rfl,rx⟩:=J4D r
 cases rx
 obtain ⟨t,u,v,e⟩:=I.hok p _ hp
 have hf : H s.heap.objs.size = none:=I.hok.fresh (Nat.le_refl _)
 refine call_list_range (n:=j.toNat) (I.ok.hd hc) e (small_one (by decide) (by decide) (by omega) (by omega)) ?_ ?_ fun h' tk acc' c' hk hS hacc=>?_
 ·rw [rangeSize_one]
  split <;> omega
 ·have : (1000 : Nat) ≤ 2 ^ 24:=by decide
  omega
 ·refine ⟨.ref _,upd H s.heap.objs.size (.lst _),I.laid hk (Nat.le_refl _) ⟨?_,acc'.toList,c',?_,?_⟩,rfl,q _ hf⟩
  ·rw [List.length_map,List.length_range]
   have : (1000 : Nat) ≤ sizeLine:=by decide
   omega
  ·have k:=J8B j.toNat acc'.toList (by rw [Array.length_toList]; exact hacc.1) (fun i v hv=>by
    rw [Array.getElem?_toList] at hv
    obtain ⟨t,et⟩:=hacc.2 i v hv
    exact ⟨t,by rw [et]; congr 1; omega⟩) j.toNat (Nat.le_refl _)
   rw [List.take_of_length_le (by rw [Array.length_toList,hacc.1]; exact Nat.le_refl _)] at k
   exact k
  ·rw [hS]
theorem J8X : bootBuiltins "range" = some (.type "range"):=by decide +kernel
end
end L2
set_option linter.all false
set_option maxRecDepth 100000
set_option maxHeartbeats 4000000
namespace L2
open PySem PySem.Spec PyProof.Rows
section
variable {X : Cx} {K : PySem.W.Frag}
end
end L2
set_option linter.all false
set_option maxRecDepth 100000
set_option maxHeartbeats 4000000
namespace L2
open PySem PySem.Spec PyProof.Rows
section
variable {M : Model} {A : Around} {E : Value → Shared → Prop} {s : Shared} {B : Heap} {env : Env} {outer l : List Env} {L e : Addr} {c a0 fl : Value} {d : Option Addr} {Q : Unit → Shared → Prop}
end
end L2
set_option linter.all false
set_option maxRecDepth 100000
set_option maxHeartbeats 4000000
namespace L2
open PySem PySem.Spec PyProof.Rows
section
variable {prog : Program} {w : World} {A : Around} {E : Value → Shared → Prop} {h : Heap} {g : Array GenState} {d : Drawn} {t : Nat} {os : OsState}
variable {nm q : Str} {C N : Addr} {bs bm : List Value} {hdct : Bool} {sn : List Str} {sub : List Value} {ab : Bool} {col : Option Bool} {dd : Option Addr} {k0 k1 k2 k3 k5 : Option Value}
end
end L2
set_option linter.all false
set_option maxRecDepth 100000
set_option maxHeartbeats 4000000
namespace L2
open PySem PySem.Spec PyProof.Rows PySem.Builtin PySem.Builtin.ObjectAttr
section
variable {prog : Program} {w : World} {A : Around} {R : Result → Shared → Prop} {E : Value → Shared → Prop} {s : Shared} {K : PySem.W.Frag} {x C : Addr} {f : Str} {v : Value}
end
section
variable {X : Cx} {pins : List (Addr × Obj)} {σ : St} {H : Hp} {s : Shared} {e C t dx : Addr} {f : Str} {v : V} {u : Value} {A : Around} {E : Value → Shared → Prop} {Q : Unit → Shared → Prop}
end
end L2
set_option linter.all false
set_option maxRecDepth 100000
set_option maxHeartbeats 4000000
namespace L2
open PySem PySem.Spec PyProof.Rows
section
variable {X : Cx} {pins : List (Addr × Obj)} {σ : St} {H : Hp} {s : Shared} {E : XK} {Ex : Value → Shared → Prop}
end
section
variable {X : Cx} {pins : List (Addr × Obj)} {σ : St} {H : Hp} {s : Shared}
end
section
variable {P : Program} {w : World} {K : PySem.W.Frag} {mg : Str → Option Value} {base : Heap}
end
section
variable {X : Cx} {x m : Str} {k : Nat} {ps : List Str} {sp : Sp} {C : Addr} {p pos apos : Pos} {e o : Expr} {es : List Expr} {t : TA} {to : TE} {E : XK}
end
section
variable {X : Cx} {x : Str} {k : Nat} {ps : List Str} {sp : Sp} {C : Addr} {np cpos pos : Pos} {e : Expr} {es : List Expr} {t : TA} {E : XK}
end
end L2
set_option linter.all false
set_option maxRecDepth 100000
set_option maxHeartbeats 4000000
namespace L2
open PySem PySem.Spec PyProof.Rows PySem.Builtin PySem.Builtin.ObjectAttr
section
variable {X : Cx}
end
section
variable {prog : Program} {w : World} {A : Around} {E : Value → Shared → Prop} {K : PySem.W.Frag} {x C : Addr} {h : Heap} {g : Array GenState} {d : Drawn} {t : Nat} {os : OsState} {o : Obj} {od : Option Obj} {f : Str} {v : Value}
end
section
variable {X : Cx} {K : PySem.W.Frag}
end
end L2
set_option linter.all false
set_option maxRecDepth 100000
set_option maxHeartbeats 4000000
namespace L2
open PySem PySem.Spec PyProof.Rows
section
variable {X : Cx} {pins : List (Addr × Obj)} {σ : St} {H : Hp} {s : Shared} {E : XK} {Ex : Value → Shared → Prop}
end
section
variable {X : Cx} {x m : Str} {k : Nat} {ps : List Str} {sp : Sp} {C : Addr} {p pos apos : Pos} {e o : Expr} {es : List Expr} {t : TA} {to : TE} {E : XK}
end
section
variable {X : Cx} {K : PySem.W.Frag}
end
end L2
set_option linter.all false
set_option maxRecDepth 100000
set_option maxHeartbeats 4000000
namespace L2
open PySem PySem.Spec PyProof.Rows PySem.NumText
section
variable {X : Cx}
end
end L2
set_option linter.all false
set_option maxRecDepth 100000
set_option maxHeartbeats 4000000
namespace L2
open PySem PySem.Spec PyProof.Rows
section
variable {X : Cx} {a b c d : Expr} {ta tb tc td : TE} {pos : Pos}
theorem Jc8 {b : List Stmt} {h₀ : ExceptHandler} {hs : List ExceptHandler} {tb : TS} (hx : X.xe = fun _ _=>False) (hb : PSs X b tb) : PS X (.Try b (h₀ :: hs) [] [] pos) tb:=by
 intro pins s σ H D I h
 refine wpAny_Try_except ?_
 refine wpAny_mono (hb pins s σ H D I h) (fun f s1 q=>?_) (fun e s1 z=>by rw [hx] at z; exact z.elim)
 cases f with
 | next=>exact wpAny_execs_nil q
 | brk=>exact q
 | cont=>exact q
 | ret u=>exact q
end
section
variable {X : Cx} {K : PySem.W.Frag}
end
section
open PySem.StrLaws Builtin Builtin.Str
end
section
variable {X : Cx} {K : PySem.W.Frag}
end
section
variable {X : Cx} {e : Expr} {te : TE} {pos : Pos}
end
end L2
set_option linter.all false
set_option maxRecDepth 100000
set_option maxHeartbeats 4000000
namespace L2
open PySem PySem.Spec PyProof.Rows
section
open PySem.StrLaws Builtin Builtin.Str
end
section
variable {X : Cx} {K : PySem.W.Frag}
end
section
variable {X : Cx}
end
end L2
set_option linter.all false
set_option maxRecDepth 100000
set_option maxHeartbeats 4000000
namespace L2
open PySem PySem.Spec PyProof.Rows
theorem JdZ (x : Str) : x = ⟨x.cps.toList.toArray⟩:=by cases x; simp
section
variable {X : Cx} {K : PySem.W.Frag}
theorem Jbf (c : Nat) : ∀ l : List Nat,cnt c l = (l.count c : Int)
 | []=>rfl
 | n :: r=>by
  rw [cnt_cons,Jbf c r,List.count_cons]
  by_cases e : n = c
  ·simp [e]; omega
  ·simp [e]
noncomputable def rCnt : V → List V → Hp → VK → Prop:=fun x vs H Q=>∃ (l : List Nat) (c : Nat),x = T l ∧ vs = [T [c]] ∧ Q (.int (l.count c : Nat)) H
theorem Jdz : MtR X "str.count" rCnt:=by
 intro pins s σ H x vs v us Q I rx rv h
 obtain ⟨l,c,rfl,rfl,q⟩:=h
 obtain ⟨t,rfl⟩:=rx
 obtain ⟨u,rfl,ru⟩:=rv.one
 obtain ⟨t2,rfl⟩:=ru
 refine SC.count ?_
 have e : Txt.count ⟨l.toArray⟩ ⟨#[c]⟩ = (l.count c : Int):=by rw [count_is]; exact Jbf c l
 rw [e]
 exact ⟨.int (l.count c : Nat),H,I.tok _,⟨_,rfl⟩,q⟩
theorem JcC {o e : Expr} {to : TE} {t : TA} {apos cpos : Pos} (h : X.K = K) (ho : PE X o to) (ha : PA X [e] t)
  (hbase : attributeBase o "count" X.env (eval o X.env) = eval o X.env:=by rfl)
  (hfew : ((backTo cpos (starEach [e] X.env)).all (fun x=>!x.1) && (backToKw cpos (keywordEach [] X.env)).all (fun x=>x.1.isSome)
   && decide ([e].length + ([] : List Keyword).length + (if ([] : List Keyword).isEmpty then 0 else 1) < 30)) = true:=by rfl)
  (hline : (apos.endLine == cpos.line) = true:=by rfl) (hs : starEach [e] X.env = (false,eval e X.env) :: starEach [] X.env:=by rfl) (hplain : (backTo cpos (starEach [] X.env)).any (·.1) = false:=by rfl) :
  PE X (.Call (.Attribute o "count" apos) [e] [] cpos) (tBM K "str" rCnt to t):=h ▸ J7c F.plainAttrs_str F.slot_str_count F.type_str_count Jdz ho ha hbase hfew hline hs hplain
end
end L2
set_option linter.all false
set_option maxRecDepth 100000
set_option maxHeartbeats 4000000
namespace L2
open PySem PySem.Spec PyProof.Rows
section
variable {X : Cx} {K : PySem.W.Frag}
end
end L2
set_option linter.all false
set_option maxRecDepth 100000
set_option maxHeartbeats 4000000
namespace L2
open PySem PySem.Spec PyProof.Rows
section
variable {X : Cx} {K : PySem.W.Frag}
theorem Ja7 : OpR X (binaryOp .Mult) (fun x y H Q=>∃ c k,x = T [c] ∧ y = .int k ∧ -1000000 ≤ k ∧ k ≤ 1000 ∧ Q (T (List.replicate k.toNat c)) H):=by
 intro pins s σ H x y v u Q I rx ry h
 obtain ⟨c,k,rfl,rfl,h0,h1,q⟩:=h
 obtain ⟨t,rfl⟩:=rx
 obtain ⟨t',rfl⟩:=ry
 refine SB.mul (mulOk_of 1 1000 (by show 1 ≤ 1; decide) h1 (by omega) (by decide) (by decide)) fun t2 k2=>?_
 have e : Txt.mul ⟨[c].toArray⟩ k = ⟨(List.replicate k.toNat c).toArray⟩:=by
  have:=mul_one_list c k
  rw [JdZ (Txt.mul ⟨[c].toArray⟩ k)]
  show (⟨(Txt.mul ⟨#[c]⟩ k).cps.toList.toArray⟩ : Str) = _
  rw [this]
 rw [e]
 exact ⟨T (List.replicate k.toNat c),H,I.tok _,⟨t2,rfl⟩,q⟩
end
end L2
set_option linter.all false
set_option maxRecDepth 100000
set_option maxHeartbeats 4000000
namespace L2
open PySem PySem.Spec PyProof.Rows
section
variable {prog : Program} {w : World} {A : Around} {E : Value → Shared → Prop} {s : Shared}
end
section
variable {κ : PyProof.Rows.KeyKind}
variable {al bl out : List Keyed} {ia ib : Nat}
end
section
variable {prog : Program} {w : World} {A : Around} {E : Value → Shared → Prop} {s : Shared} {κ : PyProof.Rows.KeyKind}
end
section
variable {prog : Program} {w : World} {A : Around} {E : Value → Shared → Prop} {s : Shared} {κ : PyProof.Rows.KeyKind}
end
section
variable {κ : PyProof.Rows.KeyKind}
variable {al bl out : List Keyed} {na nb : Nat}
end
section
variable {prog : Program} {w : World} {A : Around} {E : Value → Shared → Prop} {s : Shared} {κ : PyProof.Rows.KeyKind}
end
section
variable {κ : PyProof.Rows.KeyKind}
end
section
variable {prog : Program} {w : World} {A : Around} {E : Value → Shared → Prop} {s : Shared} {κ : PyProof.Rows.KeyKind}
end
section
variable {κ : PyProof.Rows.KeyKind}
end
section
variable {prog : Program} {w : World} {A : Around} {E : Value → Shared → Prop} {s : Shared} {κ : PyProof.Rows.KeyKind}
end
section
variable {prog : Program} {w : World} {A : Around} {E : Value → Shared → Prop} {s : Shared} {κ : PyProof.Rows.KeyKind}
end
section
variable {prog : Program} {w : World} {A : Around} {E : Value → Shared → Prop} {s : Shared} {κ : PyProof.Rows.KeyKind}
end
section
variable {prog : Program} {w : World} {A : Around} {E : Value → Shared → Prop} {s : Shared} {κ : PyProof.Rows.KeyKind}
end
section
variable {X : Cx}
end
end L2
set_option linter.all false
set_option maxRecDepth 100000
set_option maxHeartbeats 4000000
namespace L2
open PySem PySem.Spec PyProof.Rows
section
variable {X : Cx}
end
end L2
set_option linter.all false
set_option maxRecDepth 100000
set_option maxHeartbeats 4000000
namespace L2
open PySem PySem.Spec PyProof.Rows
noncomputable abbrev PKy:=List Key × List Key
section
variable {P : Program} {w : World} {A : Around} {E : Value → Shared → Prop} {s : Shared}
noncomputable def J0J (P : Program) (w : World) (h : Heap) (k : PKy) (a : Addr) : Prop :=
 ∃ (o : Obj) (b c : Addr) (n : Nat),h.get? a = some o ∧ o.cls = .type "tuple" ∧ o.data = .seq #[.ref b,.ref c] n ∧ IsTupleKey (J04 P w) h k.1 b ∧ IsTupleKey (J04 P w) h k.2 c
theorem J0J.typeIs {k : PKy} {a : Addr} (x : J0J P w s.heap k a) : s.TypeIs (.ref a) "tuple":=let ⟨o,_,_,_,ho,hc,_⟩:=x; ⟨o,ho,hc⟩
theorem J0J.inj {h : Heap} {a : Addr} {x y : PKy} (hx : J0J P w h x a) (hy : J0J P w h y a) : x = y:=by
 obtain ⟨o,b,c,n,ho,_,hd,h1,h2⟩:=hx
 obtain ⟨o',b',c',n',ho',_,hd',h1',h2'⟩:=hy
 obtain rfl : o = o':=Option.some.inj (ho.symm.trans ho')
 rw [hd] at hd'
 injection hd' with e _
 injection e with e
 injection e with e1 e
 injection e with e2 _
 injection e1 with e1
 injection e2 with e2
 subst e1 e2
 exact Prod.ext (h1.inj h1') (h2.inj h2')
theorem J0J.keeps {h h' : Heap} {k : PKy} {a d : Addr} {o : Obj} {es ep} (x : J0J P w h k a) (ho : h.get? d = some o) (hd : o.data = .dict es ep) (hs : Heap.SameBut d h h') : J0J P w h' k a:=by
 obtain ⟨o',b,c,n,ho',hc,hd',h1,h2⟩:=x
 have hne : a ≠ d:=by
  rintro rfl
  obtain rfl : o' = o:=Option.some.inj (ho'.symm.trans ho)
  rw [hd] at hd'; exact nomatch hd'
 exact ⟨o',b,c,n,(hs.2 a hne).trans ho',hc,hd',h1.keeps ho hd hs,h2.keeps ho hd hs⟩
noncomputable def J5Z (P : Program) (w : World) (k : PKy) : Int:=reduceHash (Builtin.Tuple.tupleHashOf [tupleKeyHash (J04 P w) k.1,tupleKeyHash (J04 P w) k.2])
theorem J4B {k : PKy} {a : Addr} {Q : Int → Shared → Prop} (hu : A.units + 1 < cLine) (hk : J0J P w s.heap k a) (h : Q (J5Z P w k) { s with toks:=s.toks + (k.1.length + k.2.length + 3) }) :
  wpAny (model P w) A (pyHash (.ref a)) Q E s:=by
 have hT:=hk.typeIs
 obtain ⟨o,b,c,n,ho,_,hd,h1,h2⟩:=hk
 unfold pyHash
 first | unfold pyHashByItsType | skip
 first | refine wpAny_bind (wpAny_cRoomFor_or (.inr (by omega)) ?_) | skip
 refine wpAny_bind (wpAny_specialOf hT F.slot_tuple_hash.lookup ?_)
 show wpAny _ _ (if (some (Value.builtin "tuple.__hash__") == some Value.none) = true then _ else _) Q E s
 rw [if_neg (by rw [beq_builtin_none]; exact Bool.false_ne_true)]
 refine wpAny_bind (wpAny_specialOf hT F.slot_tuple_hash.lookup ?_)
 show wpAny _ _ (callSpecialIfBoundUnlessNone? (.ref a) "__hash__" _ >>= _) Q E s
 refine wpAny_bind (wpAny_callSpecialIfBoundUnlessNone?_slot hT F.slot_tuple_hash (wpAny_call_entry F.slot_tuple_hash hT F.entry_tuple_hash ?_ (F.args_tuple_hash_1 _)))
 show wpAny _ _ (Builtin.Tuple.tupleItemsOf (.ref a) >>= _) _ _ s
 refine wpAny_bind (wpAny_tupleItemsOf ho hd ?_)
 refine wpAny_bind ?_
 rw [← Array.forIn_toList]
 have r1 : A.in1.units < cLine:=tupleKind_room_in1 (knd:=J04 P w) hu
 show wpAny _ _ (forIn [Value.ref b,Value.ref c] #[] _) _ _ _
 rw [List.forIn_cons]
 refine wpAny_bind (wpAny_bind (wpAny_pyHash_tuple r1 h1 (wpAny_pure ?_)))
 show wpAny _ _ (forIn [Value.ref c] _ _) _ _ _
 rw [List.forIn_cons]
 refine wpAny_bind (wpAny_bind (wpAny_pyHash_tuple (s:={ s with toks:=s.toks + (k.1.length + 1) }) r1 h2 (wpAny_pure ?_)))
 show wpAny _ _ (forIn [] _ _) _ _ _
 rw [List.forIn_nil]
 refine wpAny_pure ?_
 show wpAny _ _ (retInt (Builtin.Tuple.tupleHashOf [tupleKeyHash (J04 P w) k.1,tupleKeyHash (J04 P w) k.2])) _ _ _
 refine wpAny_ret_mkInt ?_
 unfold J5Z reduceHash at h
 generalize Builtin.Tuple.tupleHashOf [tupleKeyHash (J04 P w) k.1,tupleKeyHash (J04 P w) k.2] = H at h
 show wpAny _ _ (if (decide (-(2 : Int) ^ 63 ≤ H) && decide (H < 2 ^ 63)) = true then _ else _) Q E _
 have et : s.toks + (k.1.length + 1) + (k.2.length + 1) + 1 = s.toks + (k.1.length + k.2.length + 3):=by omega
 by_cases hr : (decide (-(2 : Int) ^ 63 ≤ H) && decide (H < 2 ^ 63)) = true
 ·rw [if_pos hr]
  rw [if_pos hr] at h
  exact wpAny_pure (by simpa [et] using h)
 ·rw [if_neg hr]
  rw [if_neg hr] at h
  exact wpAny_bind (wpAny_rule (wpAny_pure (by simpa [et] using h)))
theorem J1W {ks : List Key} {a : Addr} {n : Nat} {Q : Bool → Shared → Prop} (hk : IsTupleKey (J04 P w) s.heap ks a) (h : Q true s) : wpAny (model P w) A (eqIsQuiet (n + 1) (.ref a)) Q E s:=by
 have hT:=hk.typeIs
 obtain ⟨o,items,m,ho,_,hd,hi⟩:=hk
 unfold eqIsQuiet
 refine wpAny_bind (wpAny_specialOf hT F.slot_tuple_eq.lookup ?_)
 show wpAny _ _ (isInstance (.ref a) (.type "tuple") >>= _) _ _ s
 refine wpAny_bind (wpAny_isInstance hT isSubtype_tuple_tuple ?_)
 simp only [Bool.not_true,Bool.false_eq_true,if_false]
 refine wpAny_bind (wpAny_seqItems ho hd ?_)
 refine wpAny_bind ?_
 show wpAny _ _ (forIn items _ _) _ _ s
 rw [← Array.forIn_toList]
 refine wpAny_forIn_list _ (fun rest r s'=>r.1 = none ∧ s' = s ∧ ∀ v ∈ rest,carriedByValue v = true) _ ?_ ?_ _ _ ⟨rfl,rfl,hi.byValue⟩
 ·rintro v rest r s' ⟨hr,rfl,hall⟩
  rw [eqIsQuiet_byValue _ (hall v List.mem_cons_self)]
  refine wpAny_bind (wpAny_pure ?_)
  simp only [Bool.not_true,Bool.false_eq_true,if_false]
  exact wpAny_pure ⟨rfl,rfl,fun u hu'=>hall u (List.mem_cons_of_mem _ hu')⟩
 ·rintro ⟨r1,r2⟩ s' ⟨hr,rfl,_⟩
  simp only at hr
  subst hr
  exact wpAny_pure h
theorem J3y {k : PKy} {a : Addr} {Q : Bool → Shared → Prop} (hk : J0J P w s.heap k a) (h : Q true s) : wpAny (model P w) A (eqIsQuiet 8 (.ref a)) Q E s:=by
 have hT:=hk.typeIs
 obtain ⟨o,b,c,n,ho,_,hd,h1,h2⟩:=hk
 unfold eqIsQuiet
 refine wpAny_bind (wpAny_specialOf hT F.slot_tuple_eq.lookup ?_)
 show wpAny _ _ (isInstance (.ref a) (.type "tuple") >>= _) _ _ s
 refine wpAny_bind (wpAny_isInstance hT isSubtype_tuple_tuple ?_)
 simp only [Bool.not_true,Bool.false_eq_true,if_false]
 refine wpAny_bind (wpAny_seqItems ho hd ?_)
 refine wpAny_bind ?_
 show wpAny _ _ (forIn #[Value.ref b,Value.ref c] _ _) _ _ s
 rw [← Array.forIn_toList]
 show wpAny _ _ (forIn [Value.ref b,Value.ref c] _ _) _ _ s
 rw [List.forIn_cons]
 refine wpAny_bind (wpAny_bind (J1W h1 ?_))
 simp only [Bool.not_true,Bool.false_eq_true,if_false]
 refine wpAny_pure ?_
 show wpAny _ _ (forIn [Value.ref c] _ _) _ _ s
 rw [List.forIn_cons]
 refine wpAny_bind (wpAny_bind (J1W h2 ?_))
 simp only [Bool.not_true,Bool.false_eq_true,if_false]
 refine wpAny_pure ?_
 show wpAny _ _ (forIn [] _ _) _ _ s
 rw [List.forIn_nil]
 exact wpAny_pure (wpAny_pure h)
theorem J7U {x y : PKy} {a b : Addr} {R : Fin → Shared → Prop} (hu : A.units < cLine) (hx : J0J P w s.heap x a) (hy : J0J P w s.heap y b) (h : R (.done (.ret (.bool (decide (x = y))))) s) :
  wpAny (model P w) A (Builtin.«tuple.__eq__» ⟨[.ref a,.ref b],[]⟩) R E s:=by
 have hTb:=hy.typeIs
 obtain ⟨oa,x1,x2,na,hoa,_,hda,h1,h2⟩:=hx
 obtain ⟨ob,y1,y2,nb,hob,_,hdb,g1,g2⟩:=hy
 show wpAny _ _ (isInstance (.ref b) (.type "tuple") >>= _) _ _ s
 refine wpAny_bind (wpAny_isInstance hTb isSubtype_tuple_tuple ?_)
 simp only [Bool.not_true,Bool.false_eq_true,if_false]
 refine wpAny_bind (wpAny_tupleItemsOf hoa hda ?_)
 refine wpAny_bind (wpAny_tupleItemsOf hob hdb ?_)
 refine wpAny_bind ?_
 show wpAny _ _ (forIn [(Value.ref x1,Value.ref y1),(Value.ref x2,Value.ref y2)] _ _) _ _ s
 rw [List.forIn_cons]
 refine wpAny_bind (wpAny_bind (wpAny_eqBool_tuple hu h1 g1 ?_))
 by_cases e1 : x.1 = y.1
 ·rw [decide_eq_true e1]
  simp only [Bool.not_true,Bool.false_eq_true,if_false]
  refine wpAny_pure ?_
  show wpAny _ _ (forIn [(Value.ref x2,Value.ref y2)] _ _) _ _ s
  rw [List.forIn_cons]
  refine wpAny_bind (wpAny_bind (wpAny_eqBool_tuple hu h2 g2 ?_))
  by_cases e2 : x.2 = y.2
  ·rw [decide_eq_true e2]
   simp only [Bool.not_true,Bool.false_eq_true,if_false]
   refine wpAny_pure ?_
   show wpAny _ _ (forIn [] _ _) _ _ s
   rw [List.forIn_nil]
   refine wpAny_pure (wpAny_pure ?_)
   rw [decide_eq_true (Prod.ext e1 e2)] at h
   exact h
  ·rw [decide_eq_false e2]
   simp only [Bool.not_false,if_true]
   rw [decide_eq_false fun z=>e2 (congrArg Prod.snd z)] at h
   exact wpAny_bind (wpAny_pure (wpAny_pure (wpAny_pure (wpAny_pure h))))
 ·rw [decide_eq_false e1]
  simp only [Bool.not_false,if_true]
  rw [decide_eq_false fun z=>e1 (congrArg Prod.fst z)] at h
  exact wpAny_bind (wpAny_pure (wpAny_pure (wpAny_pure (wpAny_pure h))))
theorem J4y {x y : PKy} {a b : Addr} {Q : Bool → Shared → Prop} (hu : A.units + 1 < cLine) (hx : J0J P w s.heap x a) (hy : J0J P w s.heap y b) (h : Q (decide (x = y)) s) :
  wpAny (model P w) A (eqBool (.ref a) (.ref b)) Q E s:=by
 have r1 : A.in1.units < cLine:=tupleKind_room_in1 (knd:=J04 P w) hu
 unfold eqBool
 try with_reducible refine wpAny_holding ?_
 show wpAny _ _ (if (Value.ref a == Value.ref b) = true then _ else _) Q E s
 by_cases hab : (Value.ref a == Value.ref b) = true
 ·rw [if_pos hab]
  have e : a = b:=by have:=eq_of_beq hab; injection this
  subst e
  obtain rfl:=hx.inj hy
  exact wpAny_bind (wpAny_rule (wpAny_pure (by simpa using h)))
 ·rw [if_neg hab]
  exact wpAny_bind (wpAny_richCompare_same_room (op:=.Eq) hx.typeIs hy.typeIs F.slot_tuple_eq
   (wpAny_call_entry F.slot_tuple_eq hx.typeIs F.entry_tuple_eq (J7U r1 hx hy ⟨_,rfl,(fun e=>nomatch e),wpAny_truthy_bool h⟩) (F.args_tuple_eq_2 _ _)) (by omega))
end
noncomputable def J0N (P : Program) (w : World) : HeapKind P w PKy where
 is:=J0J P w
 hash:=J5Z P w
 draws:=fun k=>k.1.length + k.2.length + 3
 room:=fun A=>A.units + 1 < cLine
 inj:=fun hx hy=>hx.inj hy
 keeps:=fun x ho hd hs=>x.keeps ho hd hs
 pyHash:=fun hu hk h=>J4B hu hk h
 eqBool:=fun hu hx hy h=>J4y hu hx hy h
 quiet:=fun hk h=>J3y hk h
noncomputable abbrev PEn:=PKy × Addr × V
noncomputable abbrev RelP : List PEn → List (PKy × Addr × Value) → Prop:=Paired fun p q=>p.1 = q.1 ∧ p.2.1 = q.2.1 ∧ RelV p.2.2 q.2.2
noncomputable def DPo (P : Program) (w : World) (a : Addr) (ep : Nat) (xs : List PEn) : HO:=.ext fun h=>xs.length ≤ sizeLine ∧ (a == sysModules) = false ∧
 ∃ ys : List (PKy × Addr × Value),RelP xs ys ∧ ∃ o es,h.get? a = some o ∧ o.ExactDict ∧ o.data = .dict es ep ∧ es.toList = ys.map (entryOfKey (J0N P w)) ∧ (ys.map (·.1)).Nodup
noncomputable def JL (H : Hp) (b : Addr) (k : PKy) : Prop:=∃ x y,H b = some (.tup [.ref x,.ref y]) ∧ H x = some (.tup (k.1.map kV)) ∧ H y = some (.tup (k.2.map kV))
noncomputable def AllP (H : Hp) (xs : List PEn) : Prop:=∀ e ∈ xs,JL H e.2.1 e.1
noncomputable def DAt (P : Program) (w : World) (H : Hp) (a : Addr) (xs : List PEn) : Prop:=(∃ ep,H a = some (DPo P w a ep xs)) ∧ AllP H xs
theorem JL.same {H H' : Hp} {b : Addr} {k : PKy} (h : JL H b k) (s : ∀ c ys,H c = some (.tup ys) → H' c = some (.tup ys)) : JL H' b k:=let ⟨x,y,h1,h2,h3⟩:=h; ⟨x,y,s _ _ h1,s _ _ h2,s _ _ h3⟩
theorem AllP.same {H H' : Hp} {xs : List PEn} (h : AllP H xs) (s : ∀ c ys,H c = some (.tup ys) → H' c = some (.tup ys)) : AllP H' xs:=fun e he=>(h e he).same s
theorem DAt.same {P : Program} {w : World} {H H' : Hp} {a : Addr} {xs : List PEn} (h : DAt P w H a xs) (s : Same H H') : DAt P w H' a xs:=let ⟨⟨ep,e⟩,al⟩:=h; ⟨⟨ep,s _ _ e⟩,al.same fun c ys=>s c _⟩
noncomputable def valP (xs : List PEn) (k : PKy) : Option V:=(xs.find? fun e=>decide (e.1 = k)).map (·.2.2)
noncomputable def putP (xs : List PEn) (k : PKy) (b : Addr) (v : V) : List PEn:=if (valP xs k).isSome then xs.map (fun e=>if e.1 = k then (e.1,e.2.1,v) else e) else xs ++ [(k,b,v)]
theorem J4u {p : PEn} {r : List PEn} {k : PKy} (e : p.1 = k) : valP (p :: r) k = some p.2.2:=by simp [valP,List.find?_cons,e]
theorem Jbt {p : PEn} {r : List PEn} {k : PKy} (e : ¬ p.1 = k) : valP (p :: r) k = valP r k:=by simp [valP,List.find?_cons,e]
theorem RelP.val {xs : List PEn} {ys : List (PKy × Addr × Value)} (r : RelP xs ys) (k : PKy) : RelO (valP xs k) ((atKey ys k).map (·.2)):=by
 induction r with
 | nil=>exact True.intro
 | @cons p q ps qs h t ih =>
  obtain ⟨h1,_,h2⟩:=h
  by_cases e : p.1 = k
  ·have e' : q.1 = k:=h1.symm.trans e
   have b : atKey (q :: qs) k = some q.2:=by simp [atKey,List.find?_cons,e']
   rw [J4u e,b]; exact h2
  ·have e' : ¬ q.1 = k:=fun z=>e (h1.trans z)
   have b : atKey (q :: qs) k = atKey qs k:=by simp [atKey,List.find?_cons,e']
   rw [Jbt e,b]; exact ih
theorem RelP.repl {xs : List PEn} {ys : List (PKy × Addr × Value)} (r : RelP xs ys) (k : PKy) {y : V} {u : Value} (ry : RelV y u) :
  RelP (xs.map fun e=>if e.1 = k then (e.1,e.2.1,y) else e) (ys.map (putAt k u)):=by
 induction r with
 | nil=>exact .nil
 | @cons p q ps qs h t ih =>
  rw [List.map_cons,List.map_cons]
  refine .cons ?_ ih
  obtain ⟨h1,h2,h3⟩:=h
  unfold putAt
  by_cases e : p.1 = k
  ·rw [if_pos e,if_pos (h1.symm.trans e)]; exact ⟨h1,h2,ry⟩
  ·rw [if_neg e,if_neg (fun z=>e (h1.trans z))]; exact ⟨h1,h2,h3⟩
theorem RelP.put {xs : List PEn} {ys : List (PKy × Addr × Value)} (r : RelP xs ys) (k : PKy) {b : Addr} {y : V} {u : Value} (ry : RelV y u) : RelP (putP xs k b y) (storedH ys k b u):=by
 have e : (valP xs k).isSome = (atKey ys k).isSome:=by rw [(r.val k).isSome_eq,Option.isSome_map]
 unfold putP storedH
 rw [e]
 by_cases q : (atKey ys k).isSome = true
 ·rw [if_pos q,if_pos q]; exact r.repl k ry
 ·rw [if_neg q,if_neg q]; exact Paired.snoc r ⟨rfl,rfl,ry⟩
theorem Jb3 (xs : List PEn) (k : PKy) (b : Addr) (v : V) : (putP xs k b v).length ≤ xs.length + 1:=by
 unfold putP
 split
 ·rw [List.length_map]; omega
 ·rw [List.length_append]; exact Nat.le_refl _
section
variable {P : Program} {w : World} {H : Hp} {h : Heap} {a : Addr}
theorem J3a {b : Addr} {k : PKy} (ok : HOk P w H h) (e : JL H b k) : (J0N P w).is h k b:=by
 obtain ⟨x,y,h1,h2,h3⟩:=e
 obtain ⟨_,its,r,o,g1,g2,n,g3⟩:=(show J07 P w H h b (.tup [.ref x,.ref y]) from ok b _ h1)
 cases r with
 | cons r1 r =>
  cases r with
  | cons r2 r =>
   cases r
   cases r1
   cases r2
   exact ⟨o,x,y,n,g1,g2,g3,JbH ok h2,JbH ok h3⟩
theorem JcZ {ep : Nat} {xs : List PEn} (ok : HOk P w H h) (e : H a = some (DPo P w a ep xs)) (al : AllP H xs) : xs.length ≤ sizeLine ∧ (a == sysModules) = false ∧ ∃ ys : List (PKy × Addr × Value),RelP xs ys ∧ (∀ x ∈ ys,(J0N P w).is h x.1 x.2.1) ∧
  ∃ o es,h.get? a = some o ∧ o.ExactDict ∧ o.data = .dict es ep ∧ es.toList = ys.map (entryOfKey (J0N P w)) ∧ (ys.map (·.1)).Nodup:=by
 obtain ⟨⟨z,y,ys,r,q⟩,_⟩:=(show J07 P w H h a (DPo P w a ep xs) from ok a _ e)
 refine ⟨z,y,ys,r,?_,q⟩
 have all : ∀ {l : List PEn} {m : List (PKy × Addr × Value)},RelP l m → (∀ e ∈ l,JL H e.2.1 e.1) → ∀ x ∈ m,(J0N P w).is h x.1 x.2.1:=by
  intro l m q
  induction q with
  | nil=>intro _ x hx; exact nomatch hx
  | @cons p q ps qs hq t ih =>
   intro al x hx
   rcases List.mem_cons.mp hx with e | hx
   ·subst e
    have:=J3a (P:=P) (w:=w) ok (al p List.mem_cons_self)
    rw [hq.1,hq.2.1] at this
    exact this
   ·exact ih (fun e he=>al e (List.mem_cons_of_mem _ he)) x hx
 exact all r al
theorem J4x {xs : List PEn} (ok : HOk P w H h) (d : DAt P w H a xs) : xs.length ≤ sizeLine ∧ (a == sysModules) = false ∧ ∃ ys,RelP xs ys ∧ h.DictOfH (J0N P w) a ys:=by
 obtain ⟨⟨ep,e⟩,al⟩:=d
 obtain ⟨z,y,ys,r,ks,o,es,h1,h2,h3,h4,h5⟩:=JcZ ok e al
 exact ⟨z,y,ys,r,o,es,ep,h1,h2,h3,h4,ks,h5⟩
theorem JbN {H' : Hp} {h' : Heap} {xs : List PEn} {ys : List (PKy × Addr × Value)} (z : xs.length ≤ sizeLine) (hd : (a == sysModules) = false) (rel : RelP xs ys) (dd : h'.DictOfH (J0N P w) a ys) : ∃ ep,J07 P w H' h' a (DPo P w a ep xs):=by
 obtain ⟨o,es,ep,h1,h2,h3,h4,_,h5⟩:=dd
 refine ⟨ep,⟨z,hd,ys,rel,o,es,h1,h2,h3,h4,h5⟩,⟨o,h1⟩,fun g1 g2=>?_⟩
 rintro ⟨z,hd,ys,rel,o,es,h1,r⟩ hk
 exact ⟨z,hd,ys,rel,o,es,hk _ h1,r⟩
end
noncomputable def KGet (P : Program) (w : World) (H : Hp) (a : Addr) (y : V) (o : Option V) : Prop:=∃ xs k b,DAt P w H a xs ∧ y = .ref b ∧ JL H b k ∧ o = valP xs k
section
variable {X : Cx} {pins : List (Addr × Obj)} {σ : St} {H : Hp} {s : Shared} {a : Addr} {y v d : V} {u r : Value} {o : Option V} {A : Around} {E : Value → Shared → Prop}
theorem J2T (hu : A.units + 2 < cLine) : (J0N X.prog X.w).room A.in1:=show A.units + 1 + 1 < cLine from hu
theorem JaA {Q : Value → Shared → Prop} (hu : A.units + 2 < cLine) (I : Inv X pins σ H s) (g : KGet X.prog X.w H a y (some v)) (ry : RelV y u) (h : ∀ w' s',Inv X pins σ H s' → RelV v w' → Q w' s') :
  wpAny (model X.prog X.w) A (getItem (.ref a) u) Q E s:=by
 obtain ⟨xs,k,b,d,ey,eb,l⟩:=g
 subst ey
 cases (show u = Value.ref b from ry)
 obtain ⟨z,hd,ys,rel,dd⟩:=J4x I.hok d
 obtain ⟨w',hw,rw'⟩:=RelO.some_of (v:=v) (o:=(atKey ys k).map (·.2)) (by rw [l]; exact rel.val k)
 obtain ⟨p,hp,hp2⟩:=Option.map_eq_some_iff.mp hw
 refine wpAny_getItem_heap (J2T (X:=X) hu) (J3a I.hok eb) dd hp ?_
 rw [hp2]
 exact h w' _ (I.tok _) rw'
theorem p_in {Q : Value → Shared → Prop} (hu : A.units + 2 < cLine) (I : Inv X pins σ H s) (g : KGet X.prog X.w H a y o) (ry : RelV y u) (h : ∀ s',Inv X pins σ H s' → Q (.bool o.isSome) s') :
  wpAny (model X.prog X.w) A (compareOp .In u (.ref a)) Q E s:=by
 obtain ⟨xs,k,b,d,ey,eb,l⟩:=g
 subst ey
 cases (show u = Value.ref b from ry)
 obtain ⟨z,hd,ys,rel,dd⟩:=J4x I.hok d
 refine wpAny_in_heap (J2T (X:=X) hu) (J3a I.hok eb) hd dd ?_
 have q:=(rel.val k).isSome_eq
 rw [Option.isSome_map] at q
 rw [← q,← l]
 exact h _ (I.tok _)
theorem Jca {Q : Value → Shared → Prop} (hu : A.units + 2 < cLine) (I : Inv X pins σ H s) (g : KGet X.prog X.w H a y o) (ry : RelV y u) (h : ∀ s',Inv X pins σ H s' → Q (.bool (!o.isSome)) s') :
  wpAny (model X.prog X.w) A (compareOp .NotIn u (.ref a)) Q E s:=by
 obtain ⟨xs,k,b,d,ey,eb,l⟩:=g
 subst ey
 cases (show u = Value.ref b from ry)
 obtain ⟨z,hd,ys,rel,dd⟩:=J4x I.hok d
 refine wpAny_notIn_heap (J2T (X:=X) hu) (J3a I.hok eb) hd dd ?_
 have q:=(rel.val k).isSome_eq
 rw [Option.isSome_map] at q
 rw [← q,← l]
 exact h _ (I.tok _)
theorem Jay {Q : Unit → Shared → Prop} {xs : List PEn} {k : PKy} {b : Addr} (hu : A.units + 2 < cLine) (I : Inv X pins σ H s) (d : DAt X.prog X.w H a xs) (eb : JL H b k) (l : xs.length < sizeLine) (rv : RelV v r)
  (h : ∀ s' ep,Inv X pins σ (upd H a (DPo X.prog X.w a ep (putP xs k b v))) s' → Q () s') :
  wpAny (model X.prog X.w) A (setItem (.ref a) (.ref b) r) Q E s:=by
 obtain ⟨z,hd,ys,rel,dd⟩:=J4x I.hok d
 obtain ⟨⟨ep0,e⟩,al⟩:=d
 have hz : ys.length ≤ sizeLine:=by rw [← Paired.length rel]; exact z
 have hl : (putP xs k b v).length ≤ sizeLine:=by have:=Jb3 xs k b v; omega
 refine wpAny_setItem_heap (hsz:=hz) (J2T (X:=X) hu) (J3a I.hok eb) dd fun h' dd' hs=>?_
 obtain ⟨ep,new⟩:=JbN (H':=upd H a (DPo X.prog X.w a ep0 (putP xs k b v))) hl hd (rel.put k rv) dd'
 obtain ⟨ep,new⟩ : ∃ ep,J07 X.prog X.w (upd H a (DPo X.prog X.w a ep (putP xs k b v))) h' a (DPo X.prog X.w a ep (putP xs k b v)):=⟨ep,new⟩
 have he : ∃ q,h'.get? a = some q:=let ⟨q,_,_,hq,_⟩:=dd'; ⟨q,hq⟩
 exact h _ ep (J9N I (by rw [e]; exact True.intro) hs he new)
theorem Jdo {Q : Value → Shared → Prop} (hu : A.units + 2 < cLine) (I : Inv X pins σ H s) (g : KGet X.prog X.w H a y o) (ry : RelV y u) (rd : RelV d r) (h : ∀ w' s',Inv X pins σ H s' → RelV (o.getD d) w' → Q w' s') :
  wpAny (model X.prog X.w) A (call (.builtin "dict.get") [.ref a,u,r]) Q E s:=by
 obtain ⟨xs,k,b,dA,ey,eb,l⟩:=g
 subst ey
 cases (show u = Value.ref b from ry)
 obtain ⟨z,hd,ys,rel,dd⟩:=J4x I.hok dA
 refine call_meetsIn PySem.F.slot_dict_get dd.typeIs PySem.F.entry_dict_get (PySem.F.args_dict_get_3 _ _ _) (meetsH_dict_get_default (J0N X.prog X.w) a b hd r) ⟨J2T (X:=X) hu,k,ys,J3a I.hok eb,dd,h _ _ (I.tok _) ?_⟩
 rw [l]
 exact (rel.val k).getD rd
theorem J9f {P : Program} {w : World} {d : Addr} (hd : (d == sysModules) = false) :
  MeetsIn P w (Builtin.«dict.__len__» ⟨[.ref d],[]⟩) (fun _ R s=>∃ kvs,s.heap.DictOfH (J0N P w) d kvs ∧ R (.ok (.ret (.int kvs.length s.toks))) { s with toks:=s.toks + 1 }) :=
 .of_wp fun A R s ⟨kvs,hm,h⟩=>by
  obtain ⟨o,es,ep,ho,hc,hdat,hk,hp,hn⟩:=hm
  show wpAny _ _ (dictSize d >>= _) _ _ s
  unfold dictSize
  refine wpAny_bind (wpAny_bind (wpAny_dictEntries ho hdat (wpAny_pure ?_)))
  show wpAny _ _ (Builtin.Dict.pendingCount d >>= _) _ _ s
  refine wpAny_bind (wpAny_pendingCount_other hd ?_)
  refine wpAny_ret_mkInt ?_
  have : es.size = kvs.length:=size_of_entries hk
  rw [Nat.add_zero,this]; exact h
theorem Jer {Q : Value → Shared → Prop} {xs : List PEn} (I : Inv X pins σ H s) (d : DAt X.prog X.w H a xs) (h : ∀ t s',Inv X pins σ H s' → Q (.int xs.length t) s') : wpAny (model X.prog X.w) A (call (.builtin "len") [.ref a]) Q E s:=by
 obtain ⟨z,hd,ys,rel,dd⟩:=J4x I.hok d
 have el : xs.length = ys.length:=Paired.length rel
 rw [sizeLine_eq] at z
 have q:=h (s.toks + 1) _ (I.tok (s.toks + 1 + 1))
 rw [el] at q
 refine Calls.call_function_entry kind_len plain_len entry_len (args_len1 _) ?_
 unfold Builtin.«len»
 refine wpAny_bind (m:=oneArg "len" _) (wpAny_pure ?_)
 refine wpAny_bind (m:=callSpecial? (.ref a) (Str.ofString "__len__")) (wpAny_callSpecial?_slot (name:=Str.ofString "__len__") dd.typeIs F.slot_dict_len
  (call_meetsIn F.slot_dict_len dd.typeIs F.entry_dict_len (F.args_dict_len_1 _) (J9f hd) ⟨ys,dd,?_⟩))
 show wpAny _ _ _ _ _ { s with toks:=s.toks + 1 }
 refine wpAny_bind (wpAny_holding (wpAny_pure ?_))
 refine wpAny_bind (wpAny_letGo ?_)
 show wpAny _ _ (if ((ys.length : Nat) : Int) < 0 then _ else _) _ _ _
 rw [if_neg (by omega)]
 show wpAny _ _ (if ((ys.length : Nat) : Int) ≥ 2 ^ 63 then _ else _) _ _ _
 rw [if_neg (by omega)]
 exact wpAny_bind (wpAny_mkInt (wpAny_pure ⟨_,rfl,q⟩))
theorem Jdu {o : Option V} (I : Inv X pins σ H s) (g : KGet X.prog X.w H a y o) : s.TypeIs (.ref a) "dict":=by
 obtain ⟨xs,k,b,d,_⟩:=g
 obtain ⟨_,_,ys,_,dd⟩:=J4x I.hok d
 exact dd.typeIs
end
section
variable {X : Cx} {P : Program} {w : World} {o i e value : Expr} {pos pos' tpos : Pos} {td ty tv : TE}
noncomputable def Jej (P : Program) (w : World) (td ty : TE) : TE:=fun σ H Q=>td σ H fun x H1=>ty σ H1 fun y H2=>∃ a v,x = .ref a ∧ KGet P w H2 a y (some v) ∧ Q v H2
noncomputable def tPIn (P : Program) (w : World) (ty td : TE) : TE:=fun σ H Q=>ty σ H fun y H1=>td σ H1 fun x H2=>∃ a o,x = .ref a ∧ KGet P w H2 a y o ∧ Q (.bl o.isSome) H2
noncomputable def Jcf (P : Program) (w : World) (ty td : TE) : TE:=fun σ H Q=>ty σ H fun y H1=>td σ H1 fun x H2=>∃ a o,x = .ref a ∧ KGet P w H2 a y o ∧ Q (.bl (!o.isSome)) H2
noncomputable def Jen (P : Program) (w : World) (td ty tv : TE) : TS:=fun D σ H=>tv σ H fun v H1=>td σ H1 fun x H2=>ty σ H2 fun y H3=>∃ a b xs k,x = .ref a ∧ y = .ref b ∧ DAt P w H3 a xs ∧ JL H3 b k ∧ xs.length ≤ 100000 ∧ ∀ ep,D.nx σ (upd H3 a (DPo P w a ep (putP xs k b v)))
theorem J5g (hP : X.prog = P) (hw : X.w = w) (hu : X.A.units + 2 < cLine) (ho : PE X o td) (hi : PE X i ty) (hs : NoSl i) : PE X (.Subscript o i pos) (Jej P w td ty):=by
 subst hP hw
 intro pins s σ H Q I h
 refine Jcu PySem.F.slot_dict_getitem.lookup hs (thn (ho pins s σ H _ I h) fun u s1 ⟨x,H1,I1,rx,q1⟩=>thn (hi pins s1 σ H1 _ I1 q1) fun iv s2 ⟨y,H2,I2,ry,a,v,ex,g,q2⟩=>?_)
 subst ex
 obtain rfl : u = Value.ref a:=rx
 exact ⟨Jdu I2 g,JaA hu I2 g ry fun w' s3 I3 rw'=>⟨v,H2,I3,rw',q2⟩⟩
theorem Jdg (hP : X.prog = P) (hw : X.w = w) (hu : X.A.units + 2 < cLine) (hi : PE X i ty) (ho : PE X o td) : PC X .In i o (tPIn P w ty td):=by
 subst hP hw
 intro pins s σ H Q I h
 refine thn (hi pins s σ H _ I h) fun iv s1 ⟨y,H1,I1,ry,q1⟩=>thn (ho pins s1 σ H1 _ I1 q1) fun u s2 ⟨x,H2,I2,rx,a,ov,ex,g,q2⟩=>?_
 subst ex
 obtain rfl : u = Value.ref a:=rx
 exact p_in hu I2 g ry fun s3 I3=>⟨.bl ov.isSome,H2,I3,rfl,q2⟩
theorem Jao (hP : X.prog = P) (hw : X.w = w) (hu : X.A.units + 2 < cLine) (hi : PE X i ty) (ho : PE X o td) : PC X .NotIn i o (Jcf P w ty td):=by
 subst hP hw
 intro pins s σ H Q I h
 refine thn (hi pins s σ H _ I h) fun iv s1 ⟨y,H1,I1,ry,q1⟩=>thn (ho pins s1 σ H1 _ I1 q1) fun u s2 ⟨x,H2,I2,rx,a,ov,ex,g,q2⟩=>?_
 subst ex
 obtain rfl : u = Value.ref a:=rx
 exact Jca hu I2 g ry fun s3 I3=>⟨.bl (!ov.isSome),H2,I3,rfl,q2⟩
theorem J9G (hP : X.prog = P) (hw : X.w = w) (hu : X.A.units + 2 < cLine) (ho : PE X o td) (hi : PE X i ty) (hv : PE X value tv) (hs : swapsWith value (some (.Subscript o i pos')) pos.line X.env = pure false) :
  PS X (.Assign [.Subscript o i pos'] value pos) (Jen P w td ty tv):=by
 subst hP hw
 intro pins s σ H D I h
 refine wpAny_Assign_Subscript (thn (hv pins s σ H _ I h) fun r s1 ⟨v,H1,I1,rv,q1⟩=>thn (ho pins s1 σ H1 _ I1 q1) fun u s2 ⟨x,H2,I2,rx,q2⟩=>thn (hi pins s2 σ H2 _ I2 q2) fun iv s3 ⟨y,H3,I3,ry,a,b,xs,k,ex,ey,dA,pB,hl,q3⟩=>?_) hs
 subst ex ey
 obtain rfl : u = Value.ref a:=rx
 obtain rfl : iv = Value.ref b:=ry
 exact Jay hu I3 dA pB (Nat.lt_of_le_of_lt hl (by decide)) rv fun s4 ep I4=>⟨σ,_,I4,q3 ep⟩
theorem J78 (hP : X.prog = P) (hw : X.w = w) : J1p X (.builtin "len") (fun xs H Q=>∃ a kvs,xs = [V.ref a] ∧ DAt P w H a kvs ∧ Q (.int kvs.length) H):=by
 subst hP hw
 intro pins s σ H xs us Q I r h
 obtain ⟨a,kvs,rfl,ha,q⟩:=h
 obtain ⟨u,rfl,ru⟩:=J4D r
 cases ru
 exact Jer I ha fun t s' I'=>⟨.int kvs.length,H,I',⟨t,rfl⟩,q⟩
theorem J8I {P : Program} {w : World} {H : Hp} (h : Heap) (hb : sysModules < h.objs.size) : J07 P w H (h.push { cls:=.type "dict",data:=.dict #[] }) h.objs.size (DPo P w h.objs.size 0 []):=by
 refine ⟨⟨Nat.zero_le _,beq_eq_false_iff_ne.mpr (Ne.symm (Nat.ne_of_lt hb)),[],.nil,_,#[],Heap.get?_push_size _ rfl,⟨rfl,rfl,rfl⟩,rfl,rfl,List.nodup_nil⟩,⟨_,Heap.get?_push_size _ rfl⟩,fun g1 g2=>?_⟩
 rintro ⟨z,hd,ys,rel,o,es,h1,r⟩ hk
 exact ⟨z,hd,ys,rel,o,es,hk _ h1,r⟩
noncomputable def Jds (P : Program) (w : World) : TE:=fun _ H Q=>∀ p,H p = none → Q (.ref p) (upd H p (DPo P w p 0 []))
theorem J8E (hP : X.prog = P) (hw : X.w = w) : PE X (.Dict [] [] pos) (Jds P w):=by
 subst hP hw
 exact fun pins s σ H Q I h=>wpAny_Dict_empty ⟨.ref s.heap.objs.size,_,I.laid (a:=s.heap.objs.size) (o:=DPo X.prog X.w s.heap.objs.size 0 []) (t':=s.toks) (fun _ _ q=>Heap.get?_push_of_some _ q) (Nat.le_refl _) (J8I s.heap I.big),rfl,h _ (I.hok.fresh (Nat.le_refl _))⟩
end
end L2
set_option linter.all false
set_option maxRecDepth 100000
set_option maxHeartbeats 4000000
namespace L2
open PySem PySem.Spec PyProof.Rows
section
variable {P : Program} {w : World} {A : Around} {E : Value → Shared → Prop} {s : Shared}
theorem J9s {it d : Addr} {i n ep : Nat} {ok ov : Value} {od : Obj} {es : Array DictEntry} {en : DictEntry} {Q : Option Value → Shared → Prop} (hit : IsItemIter s.heap it d i n ep ok ov)
  (hod : s.heap.get? d = some od) (hdd : od.data = .dict es ep) (hsz : es.size = n) (hx : es[i]? = some en)
  (hQ : ∀ h',IsItemIterOut h' it d (i + 1) n ep en.key en.val s.heap.objs.size → h'.get? s.heap.objs.size = some { cls:=.type "tuple",data:=.seq #[en.key,en.val] } → h'.objs.size = s.heap.objs.size + 1 →
   (∀ b o,b ≠ it → s.heap.get? b = some o → h'.get? b = some o) → Q (some (.ref s.heap.objs.size)) { s with heap:=h' }) :
  wpAny (model P w) A (pyNext (.ref it)) Q E s:=by
 have T0 : s.TypeIs (.ref it) "dict_itemiterator":=⟨_,hit,rfl⟩
 have own : Builtin.Dict_items.ownsTuple "dict_itemiterator" = true:=by decide
 unfold pyNext
 refine wpAny_bind (wpAny_attempt (wpAny_callSpecial?_slot (name:=Str.ofString "__next__") T0 F.slot_dict_itemiterator_next (wpAny_call_entry F.slot_dict_itemiterator_next T0 F.entry_dict_itemiterator_next ?_ (F.args_dict_itemiterator_next_1 _))))
 refine wpAny_bind (wpAny_pure (wpAny_bind (wpAny_bind ?_)))
 first | refine wpAny_bind (wpAny_typeNameOfWhole_itemiter T0 (wpAny_pure ?_)) | refine wpAny_bind (wpAny_typeNameOf_itemiter T0 (wpAny_pure ?_))
 refine wpAny_bind (wpAny_fieldsOf hit rfl ?_)
 simp only [own,if_true]
 show wpAny _ _ (if (Value.ref d == Value.none) = true then _ else _) _ _ _
 rw [if_neg (show ¬ (Value.ref d == Value.none) = true from fun z=>nomatch z)]
 refine wpAny_bind (wpAny_pure (wpAny_bind (wpAny_dictEntries hod hdd ?_)))
 rw [if_neg (by rw [hsz]; simp)]
 refine wpAny_bind (wpAny_pure (wpAny_bind (wpAny_dictEpoch hod hdd ?_)))
 rw [if_neg (by simp)]
 refine wpAny_pure ?_
 simp only [show ¬ ((i : Int) < 0) from by omega,if_false,Int.toNat_natCast,hx]
 refine wpAny_bind ?_
 first | refine wpAny_bind (wpAny_typeNameOfWhole_itemiter T0 (wpAny_pure ?_)) | refine wpAny_bind (wpAny_typeNameOf_itemiter T0 (wpAny_pure ?_))
 refine wpAny_bind (wpAny_isOneOf_itemiter T0 ?_)
 show wpAny _ _ (setField (.ref it) 3 (rawInt ((i : Int) + 1)) >>= _) _ _ s
 refine wpAny_bind (wpAny_setField_rec hit (by simp) fun h1 e1 s1=>?_)
 replace s1 : Heap.SameBut it s.heap h1:=s1
 replace e1 : IsItemIter h1 it d (i + 1) n ep ok ov:=by
  have e : ((i + 1 : Nat) : Int) = (i : Int) + 1:=by omega
  unfold IsItemIter; rw [e]; simpa [rawInt] using e1
 have T1 : Shared.TypeIs { s with heap:=h1 } (.ref it) "dict_itemiterator":=⟨_,e1,rfl⟩
 refine wpAny_bind (wpAny_holding (wpAny_bind (wpAny_isOneOf_itemiter T1 (wpAny_bind (wpAny_isOneOf_itemiter T1 ?_)))))
 show wpAny _ _ (Builtin.Dict_items.pairFromOwner (.ref it) 6 en.key en.val) _ _ { s with heap:=h1 }
 unfold Builtin.Dict_items.pairFromOwner
 refine wpAny_bind (wpAny_newTuple ?_)
 have e2 : IsItemIter (h1.push { cls:=.type "tuple",data:=.seq #[en.key,en.val] }) it d (i + 1) n ep ok ov:=Heap.get?_push_of_some _ e1
 have z1 : h1.objs.size = s.heap.objs.size:=s1.1
 have lt : it < s.heap.objs.size:=Heap.lt_size hit
 obtain ⟨h2,q2⟩ : ∃ h2,h2 = h1.push { cls:=.type "tuple",data:=.seq #[en.key,en.val] }:=⟨_,rfl⟩
 have t2 : h2.get? s.heap.objs.size = some { cls:=.type "tuple",data:=.seq #[en.key,en.val] }:=by rw [q2,← z1]; exact Heap.get?_push_size _ rfl
 have z2 : h2.objs.size = s.heap.objs.size + 1:=by rw [q2,Heap.size_push,z1]
 have k2 : ∀ b o,b ≠ it → s.heap.get? b = some o → h2.get? b = some o:=fun b o hb e=>by rw [q2]; exact Heap.get?_push_of_some _ (s1.extBut b o hb e)
 rw [← q2] at e2
 show wpAny _ _ (Builtin.Dict_items.ownedTupleIsFree (.ref it) >>= _) _ _ { s with heap:=h1.push { cls:=.type "tuple",data:=.seq #[en.key,en.val] } }
 rw [← q2]
 show wpAny _ _ (_ >>= fun _=>_) _ _ _
 rw [z1]
 refine wpAny_bind ?_
 unfold Builtin.Dict_items.ownedTupleIsFree
 refine wpAny_bind (wpAny_field e2 rfl (x:=.none) rfl (wpAny_pure ?_))
 simp only [if_true]
 refine wpAny_bind (wpAny_field e2 rfl (x:=ok) rfl (wpAny_bind (wpAny_field e2 rfl (x:=ov) rfl ?_)))
 refine wpAny_bind (wpAny_setField_rec e2 (by simp) fun h3 e3 s3=>?_)
 replace s3 : Heap.SameBut it h2 h3:=s3
 replace e3 : IsItemIter h3 it d (i + 1) n ep en.key ov:=e3
 refine wpAny_bind (wpAny_setField_rec e3 (by simp) fun h4 e4 s4=>?_)
 replace s4 : Heap.SameBut it h3 h4:=s4
 replace e4 : IsItemIter h4 it d (i + 1) n ep en.key en.val:=e4
 refine wpAny_bind (wpAny_setField_rec e4 (by simp) fun h5 e5 s5=>?_)
 replace s5 : Heap.SameBut it h4 h5:=s5
 replace e5 : IsItemIterOut h5 it d (i + 1) n ep en.key en.val s.heap.objs.size:=e5
 refine wpAny_bind (wpAny_setField_rec e5 (by simp) fun h6 e6 s6=>?_)
 replace s6 : Heap.SameBut it h5 h6:=s6
 replace e6 : IsItemIterOut h6 it d (i + 1) n ep en.key en.val s.heap.objs.size:=e6
 have kp : ∀ b o,b ≠ it → h2.get? b = some o → h6.get? b = some o:=fun b o hb e=>s6.extBut b o hb (s5.extBut b o hb (s4.extBut b o hb (s3.extBut b o hb e)))
 refine wpAny_bind (wpAny_letGo (wpAny_pure (wpAny_pure ⟨_,rfl,wpAny_pure (hQ h6 e6 (kp _ _ (Nat.ne_of_gt lt) t2) ?_ fun b o hb e=>kp b o hb (k2 b o hb e))⟩)))
 show h6.objs.size = s.heap.objs.size + 1
 rw [s6.1,s5.1,s4.1,s3.1,z2]
theorem J9e {it d : Addr} {i n ep : Nat} {ok ov : Value} {od : Obj} {es : Array DictEntry} {Q : Option Value → Shared → Prop} (hh : A.handled = none) (hit : IsItemIter s.heap it d i n ep ok ov)
  (hod : s.heap.get? d = some od) (hdd : od.data = .dict es ep) (hsz : es.size = n) (hx : n ≤ i)
  (hQ : ∀ h',Heap.ExtBut it s.heap h' → Q none { s with heap:=h' }) : wpAny (model P w) A (pyNext (.ref it)) Q E s:=by
 have T0 : s.TypeIs (.ref it) "dict_itemiterator":=⟨_,hit,rfl⟩
 have own : Builtin.Dict_items.ownsTuple "dict_itemiterator" = true:=by decide
 unfold pyNext
 refine wpAny_bind (wpAny_attempt (wpAny_callSpecial?_slot (name:=Str.ofString "__next__") T0 F.slot_dict_itemiterator_next (wpAny_call_entry F.slot_dict_itemiterator_next T0 F.entry_dict_itemiterator_next ?_ (F.args_dict_itemiterator_next_1 _))))
 refine wpAny_bind (wpAny_pure (wpAny_bind (wpAny_bind ?_)))
 first | refine wpAny_bind (wpAny_typeNameOfWhole_itemiter T0 (wpAny_pure ?_)) | refine wpAny_bind (wpAny_typeNameOf_itemiter T0 (wpAny_pure ?_))
 refine wpAny_bind (wpAny_fieldsOf hit rfl ?_)
 simp only [own,if_true]
 show wpAny _ _ (if (Value.ref d == Value.none) = true then _ else _) _ _ s
 rw [if_neg (show ¬ (Value.ref d == Value.none) = true from fun z=>nomatch z)]
 refine wpAny_bind (wpAny_pure (wpAny_bind (wpAny_dictEntries hod hdd ?_)))
 rw [if_neg (by rw [hsz]; simp)]
 refine wpAny_bind (wpAny_pure (wpAny_bind (wpAny_dictEpoch hod hdd ?_)))
 rw [if_neg (by simp)]
 refine wpAny_pure ?_
 have hge : es.size ≤ i:=by rw [hsz]; exact hx
 simp only [show ¬ ((i : Int) < 0) from by omega,if_false,Int.toNat_natCast,Array.getElem?_eq_none hge]
 refine wpAny_bind ?_
 first | refine wpAny_bind (wpAny_typeNameOfWhole_itemiter T0 (wpAny_pure ?_)) | refine wpAny_bind (wpAny_typeNameOf_itemiter T0 (wpAny_pure ?_))
 show wpAny _ _ (setField (.ref it) 2 .none >>= _) _ _ s
 refine wpAny_bind (wpAny_setField hit rfl (by simp) ?_)
 show wpAny _ _ (newExc (.type "StopIteration") [] >>= _) _ _ _
 refine wpAny_bind ?_
 simp only [newExc,newTuple]
 refine wpAny_bind (wpAny_newObj_type ?_ (by size_fits))
 refine wpAny_bind (m:=firstArgMember _ _) (wpAny_of_eq (a:=Value.none) (by first | rfl | (simp only [firstArgMember]; rfl)) ?_)
 refine wpAny_newObj_type ?_ (by size_fits)
 simp only [raiseNew]
 refine wpAny_bind (wpAny_handled ?_)
 rw [show A.in1.handled = none from hh]
 refine wpAny_bind (wpAny_pure (wpAny_throw ?_))
 refine wpAny_bind (wpAny_isInstance (T:="StopIteration") (b:=true) ⟨_,Heap.get?_push_size _ rfl,rfl⟩ isSubtype_stop ?_)
 exact wpAny_pure (hQ _ (((Heap.SameBut.update ..).extBut.push _).push _))
theorem J7X {d : Addr} (hd : (d == sysModules) = false) : MeetsIn P w (Builtin.«dict.items» ⟨[.ref d],[]⟩) (fun _ R s=>s.TypeIs (.ref d) "dict" ∧
   R (.ok (.ret (.ref s.heap.objs.size))) { s with heap:=s.heap.push { cls:=.type "dict_items",data:=.fields #[.ref d] } }) :=
 .of_wp fun A R s ⟨hT,h⟩=>by
  unfold Builtin.«dict.items»
  refine wpAny_bind ?_
  unfold Builtin.Dict.noArgs
  refine wpAny_bind (wpAny_notOrdered_dict hT ?_)
  show wpAny _ _ (pure d) _ _ s
  refine wpAny_pure ?_
  show wpAny _ _ (Builtin.Dict.showsAll d >>= _) _ _ s
  unfold Builtin.Dict.showsAll
  rw [if_neg (by rw [hd]; exact Bool.false_ne_true)]
  exact wpAny_bind (wpAny_pure (wpAny_bind (wpAny_newObj_type (wpAny_pure ⟨_,rfl,h⟩))))
theorem J9m {v d : Addr} {od : Obj} {es : Array DictEntry} {n ep : Nat} {Q : Value → Shared → Prop} (hv : s.heap.IsItemsView v d) (hod : s.heap.get? d = some od) (hdd : od.data = .dict es ep) (hsz : es.size = n)
  (hQ : Q (.ref s.heap.objs.size) { s with heap:=s.heap.push { cls:=.type "dict_itemiterator",data:=.fields #[.none,.bool false,.ref d,.int 0 0,.int n 0,.int ep 0,.none,.none] } }) :
  wpAny (model P w) A (pyIter (.ref v)) Q E s:=by
 obtain ⟨ov,hov,hcv,hdv⟩:=id hv
 have own : Builtin.Dict_items.ownsTuple "dict_itemiterator" = true:=by decide
 refine wpAny_pyIter_slot hv.typeIs F.slot_dict_items_iter (wpAny_call_entry F.slot_dict_items_iter hv.typeIs F.entry_dict_items_iter ?_ (F.args_dict_items_iter_1 _))
 unfold Builtin.«dict_items.__iter__»
 refine wpAny_bind (wpAny_pure (wpAny_bind ?_))
 unfold Builtin.Dict_items.dictOf
 refine wpAny_bind (wpAny_field hov hdv (x:=.ref d) rfl (wpAny_pure (wpAny_bind ?_)))
 unfold Builtin.Dict_items.newIterator
 refine wpAny_bind (wpAny_dictEntries hod hdd (wpAny_bind (wpAny_dictEpoch hod hdd ?_)))
 simp only [own,if_true]
 refine wpAny_newObj_type (wpAny_pure ⟨_,rfl,"dict_itemiterator",_,⟨_,Heap.get?_push_size _ rfl,rfl⟩,F.slot_dict_itemiterator_next.lookup,?_⟩)
  (by simp only [sizeOk,Builtin.Dict_items.ownedTupleFields,List.size_toArray,List.length_append,List.length_cons,List.length_nil,sizeLine_eq]; omega)
 simpa [rawInt,hsz,Builtin.Dict_items.ownedTupleFields] using hQ
end
noncomputable def Idp (P : Program) (w : World) (d : Addr) (ep : Nat) (xs : List PEn) : It :=
  ⟨fun i H=>H d = some (DPo P w d ep xs) ∧ i < xs.length,
   fun i H v H'=>∃ p e,H p = none ∧ xs[i]? = some e ∧ v = .ref p ∧ H' = upd H p (.tup [.ref e.2.1,e.2.2]),
   fun i H=>H d = some (DPo P w d ep xs) ∧ xs.length ≤ i⟩
theorem RelP.get : ∀ {xs : List PEn} {ys : List (PKy × Addr × Value)} {i : Nat} {x : PEn},RelP xs ys → xs[i]? = some x → ∃ y,ys[i]? = some y ∧ x.2.1 = y.2.1 ∧ RelV x.2.2 y.2.2
 | _,_,_,_,.nil,e=>by simp at e
 | _,_,0,_,.cons r _,e=>by simp at e; subst e; exact ⟨_,rfl,r.2.1,r.2.2⟩
 | _,_,i + 1,x,.cons _ t,e=>by
  obtain ⟨u,h1,h2⟩:=RelP.get (i:=i) (x:=x) t (by simpa using e)
  exact ⟨u,by simpa using h1,h2⟩
theorem J9k {P : Program} {w : World} {K : PySem.W.Frag} {es : List Expr} {k : Nat} {pos : Pos} {it d : Addr} {ep : Nat} {xs : List PEn} :
  Turn P w K (.Tuple es k pos) (Idp P w d ep xs) [it] it (fun i h=>∃ ok ov,IsItemIter h it d i xs.length ep ok ov) where
 mem:=by simp
 obj:=fun i h st b hb=>by
  obtain ⟨ok,ov,hz⟩:=st
  rw [List.mem_singleton.mp hb]
  exact ⟨_,hz,fun v q=>by cases q⟩
 keep:=fun i h h' st kk=>by
  obtain ⟨ok,ov,hz⟩:=st
  exact ⟨ok,ov,kk it (by simp) _ hz⟩
 item:=by
  intro X hP hw hK hc i pins s σ H E I hf st hg
  subst hP hw hK
  obtain ⟨ok,ov,hz⟩:=st
  obtain ⟨hd,hlt⟩:=hg
  obtain ⟨⟨zl,hs,ys,rel,od,es2,g1,g2,g3,g4,g5⟩,_⟩:=(show J07 X.prog X.w H s.heap d (DPo X.prog X.w d ep xs) from I.hok d _ hd)
  have hx : xs[i]? = some xs[i]:=List.getElem?_eq_getElem hlt
  obtain ⟨y,hy,ey,ry⟩:=rel.get hx
  have hen : es2[i]? = some (entryOfKey (J0N X.prog X.w) y):=by rw [entry_at g4 i,hy]; rfl
  have hsz : es2.size = xs.length:=by rw [size_of_entries g4,Paired.length rel]
  refine J9s hz g1 g3 hsz hen fun h' a1 a3 a4 kp=>?_
  refine ⟨_,rfl,?_⟩
  refine wpAny_letOwnedTupleGo_items (s:={ s with heap:=h' }) a1 fun h2' hz' hs'=>?_
  replace hs' : Heap.SameBut it h' h2':=hs'
  have ilt : it < s.heap.objs.size:=Heap.lt_size hz
  have fz:=hf it (by simp)
  have keepAll : ∀ b o,b ≠ it → s.heap.get? b = some o → h2'.get? b = some o:=fun b o b1 e=>hs'.extBut _ _ b1 (kp b o b1 e)
  have hnew : H s.heap.objs.size = none:=I.hok.fresh (Nat.le_refl _)
  have ht2 : h2'.get? s.heap.objs.size = some { cls:=.type "tuple",data:=.seq #[.ref y.2.1,y.2.2] }:=hs'.extBut _ _ (Nat.ne_of_gt ilt) a3
  have I2 : Inv X pins σ (upd H s.heap.objs.size (.tup [.ref xs[i].2.1,xs[i].2.2])) { s with heap:=h2' }:=by
   have trk : ∀ b u',H b = some u' → b ≠ it:=fun b u' e q=>(by rw [q,fz.1] at e; cases e)
   have okH : HOk X.prog X.w (upd H s.heap.objs.size (.tup [.ref xs[i].2.1,xs[i].2.2])) h2':=fun b u' e=>by
    by_cases hb : b = s.heap.objs.size
    ·subst hb
     rw [Jd] at e
     cases e
     exact ⟨(show 2 ≤ sizeLine by decide),[.ref y.2.1,y.2.2],.cons (by rw [ey]; rfl) (.cons ry .nil),⟨_,ht2,rfl,_,rfl⟩⟩
    ·rw [Ja hb] at e
     have hx:=I.hok b u' e
     refine hx.stay (fun q o hq e2=>?_) (fun q e2=>?_) (fun q xs e2=>?_)
     ·rcases hq with rfl | hq
      ·exact keepAll q o (trk q _ e) e2
      ·exact keepAll q o (trk q _ hq) e2
     ·rw [Ja (J9 e2 hnew)]; exact e2
     ·rw [Ja (J9 e2 hnew)]; exact e2
   refine I.step (g':=s.gens) (d':=s.drawn) (ch:=[it]) (fun b hb=>?_) (fun b o _ _ hcb e n=>?_) (fun b o _ _ hcb e n=>?_) (fun b o hcb e n=>?_) (fun b o hcb e=>?_) (fun b xs e=>?_) (fun b o u' e=>?_) (fun b ps e=>?_) (fun m hm=>?_) okH I.bare
   ·rw [List.mem_singleton.mp hb]
    exact ⟨fz.2.2.2.1,fz.2.1,fz.2.2.2.2.1,fz.2.2.2.2.2⟩
   ·exact keepAll b o (fun q=>hcb (by rw [q]; simp)) e
   ·exact ⟨o.slots,keepAll b o (fun q=>hcb (by rw [q]; simp)) e⟩
   ·rw [Ja (Nat.ne_of_lt (Heap.lt_size e))]; exact n
   ·exact ⟨o,keepAll b o (fun q=>hcb (by rw [q]; simp)) e⟩
   ·rw [Ja (J9 e hnew)]; exact e
   ·rw [Ja (J9 e hnew)]; exact e
   ·exact ⟨#[],by rw [Ja (J9 e hnew),e]; simp⟩
   ·obtain ⟨o,es',ep,ho,r⟩:=hm
    exact ⟨o,es',ep,keepAll _ o fz.2.1.symm ho,r⟩
  refine ⟨.ref s.heap.objs.size,_,I2,rfl,⟨_,xs[i],hnew,hx,rfl,rfl⟩,⟨_,_,hz'⟩,fun b hb=>?_⟩
  rw [List.mem_singleton.mp hb,Ja (Nat.ne_of_lt ilt)]
  exact fz.1
 done:=by
  intro X hP hw hK hc i pins s σ H E I hf st hg
  subst hP hw hK
  obtain ⟨ok,ov,hz⟩:=st
  obtain ⟨hd,hge⟩:=hg
  obtain ⟨⟨zl,hs,ys,rel,od,es2,g1,g2,g3,g4,g5⟩,_⟩:=(show J07 X.prog X.w H s.heap d (DPo X.prog X.w d ep xs) from I.hok d _ hd)
  have hsz : es2.size = xs.length:=by rw [size_of_entries g4,Paired.length rel]
  obtain ⟨f0,f1,f2,f3,f4,f5⟩:=hf it (by simp)
  exact J9e (I.ok.hd hc) hz g1 g3 hsz hge fun h' eb=>⟨rfl,I.turned (t':=s.toks) (fun b o hb e=>eb b o hb e) f0 f1 f3 f4 f5⟩
 self:=fun A i s Q E st h=>by
  obtain ⟨ok,ov,hz⟩:=st
  exact PySem.W.kcp_self hz h
noncomputable def Jdn (P : Program) (w : World) (td : TE) : TI:=fun σ H R=>td σ H fun x H1=>∃ a ep xs,x = .ref a ∧ H1 a = some (DPo P w a ep xs) ∧ R (Idp P w a ep xs) H1
section
variable {X : Cx} {P : Program} {w : World} {es : List Expr} {k : Nat} {tpos apos cpos : Pos} {o : Expr} {td : TE}
theorem J8o (hP : X.prog = P) (hw : X.w = w) (ho : PE X o td) (hb : attributeBase o "items" X.env (eval o X.env) = eval o X.env) (hl : (apos.endLine == cpos.line) = true) :
  PI X (.Tuple es k tpos) (.Call (.Attribute o "items" apos) [] [] cpos) (Jdn P w td):=by
 subst hP hw
 intro pins s σ H R I h
 refine wpAny_Call_method (T:="dict") (id:="dict.items") hb rfl hl PySem.F.plainAttrs_dict PySem.F.slot_dict_items PySem.F.type_dict_items (thn (ho pins s σ H _ I h) fun u s1 ⟨x,H1,I1,rx,a,ep,xs,ex,ha,q1⟩=>?_)
 subst ex
 obtain rfl : u = Value.ref a:=rx
 obtain ⟨⟨zl,hs,ys,rel,od,es2,g1,g2,g3,g4,g5⟩,_⟩:=(show J07 X.prog X.w H1 s1.heap a (DPo X.prog X.w a ep xs) from I1.hok a _ ha)
 have hsz : es2.size = xs.length:=by rw [size_of_entries g4,Paired.length rel]
 have hT : s1.TypeIs (.ref a) "dict":=⟨od,g1,g2.1⟩
 refine ⟨hT,fun b q=>by cases q; exact ⟨od,g1,g2.2.1⟩,?_⟩
 show wpAny _ _ (callWith cpos (.builtin "dict.items") [.ref a] [] []) _ _ s1
 refine method_meetsIn PySem.F.slot_dict_items PySem.F.entry_dict_items rfl (PySem.evalArgs_none ⟨rfl,hT,PySem.F.args_dict_items_1 _,_,J7X hs,hT,?_⟩)
 have I2 : Inv X pins σ H1 { s1 with heap:=s1.heap.push { cls:=.type "dict_items",data:=.fields #[.ref a] } }:=I1.kept (t':=s1.toks) fun _ _ q=>Heap.get?_push_of_some _ q
 refine J9m (s:={ s1 with heap:=s1.heap.push { cls:=.type "dict_items",data:=.fields #[.ref a] } }) ⟨_,Heap.get?_push_size _ rfl,rfl,rfl⟩ (Heap.get?_push_of_some _ g1) g3 hsz ?_
 have I3:=I2.kept (t':=s1.toks) (h':=(s1.heap.push { cls:=.type "dict_items",data:=.fields #[.ref a] }).push { cls:=.type "dict_itemiterator",data:=.fields #[.none,.bool false,.ref a,.int 0 0,.int xs.length 0,.int ep 0,.none,.none] }) fun _ _ q=>Heap.get?_push_of_some _ q
 refine ⟨_,[_],_,_,H1,rfl,I3,J9k,⟨.none,.none,Heap.get?_push_size _ rfl⟩,fun b hb=>?_,q1⟩
 rw [List.mem_singleton.mp hb]
 exact I2.fpOk (Nat.le_refl _) (I2.hok.fresh (Nat.le_refl _))
end
section
variable {X : Cx} {P : Program} {w : World} {pos : Pos} {k v : Expr} {tk tv : TE}
noncomputable def JdW (P : Program) (w : World) (tk tv : TE) : TE:=fun σ H Q=>∀ p,H p = none → tk σ (upd H p (DPo P w p 0 [])) fun x H1=>tv σ H1 fun y H2=>∃ b kk,x = .ref b ∧ JL H2 b kk ∧ H2 p = some (DPo P w p 0 []) ∧ ∀ ep,Q (.ref p) (upd H2 p (DPo P w p ep [(kk,b,y)]))
theorem JbG (hP : X.prog = P) (hw : X.w = w) (hu : X.A.units + 2 < cLine) (hk : PE X k tk) (hv : PE X v tv) : PE X (.Dict [some k] [v] pos) (JdW P w tk tv):=by
 subst hP hw
 intro pins s σ H Q I q
 have hn:=I.hok.fresh (Nat.le_refl s.heap.objs.size)
 have I1:=I.laid (a:=s.heap.objs.size) (o:=DPo X.prog X.w s.heap.objs.size 0 []) (h':=s.heap.push { cls:=.type "dict",data:=.dict #[] }) (t':=s.toks) (fun _ _ q=>Heap.get?_push_of_some _ q) (Nat.le_refl _) (J8I s.heap I.big)
 have hsh:=zip_pairTrees [some k] [v] X.env pos rfl rfl
 rw [arm_eval_Dict,hsh,dictDisplay_pairs (pairTrees [some k] [v] X.env pos) (fun z=>nomatch z) (show 1 < 17 by decide)]
 refine wpAny_bind (wpAny_standAt (wpAny_bind ?_))
 unfold subDict
 refine wpAny_bind (wpAny_alloc (wpAny_bind (wpAny_holding ?_)))
 rw [if_pos (show (pairTrees [some k] [v] X.env pos).length ≤ 15 from (by decide : 1 ≤ 15))]
 refine wpAny_bind (pairTrees_cons_walk (thn (hk pins _ σ _ _ I1 (q _ hn)) fun u s1 ⟨x,H1,I1,rx,q1⟩=>thn (hv pins s1 σ H1 _ I1 q1) fun w2 s2 ⟨y,H2,I2,ry,b,kk,ex,pB,hp,q2⟩=>pairTrees_nil_walk ?_))
 subst ex
 cases (show u = Value.ref b from rx)
 have dA : DAt X.prog X.w H2 s.heap.objs.size []:=⟨⟨0,hp⟩,fun e he=>nomatch he⟩
 obtain ⟨z,hd,ys,rel,dd⟩:=J4x I2.hok dA
 refine wpAny_holding (wpAny_bind ?_)
 show wpAny _ _ (forIn [(Value.ref b,w2)] _ _) _ _ s2
 rw [List.forIn_cons]
 cases rel
 refine wpAny_bind (wpAny_bind (wpAny_dictSet_heap (knd:=J0N X.prog X.w) (hsz:=by decide) (show X.A.units + 1 < cLine by omega) (J3a I2.hok pB) dd fun h' dd' hs'=>wpAny_pure ?_))
 show wpAny _ _ (forIn [] _ _) _ _ _
 rw [List.forIn_nil]
 refine wpAny_pure (wpAny_pure (wpAny_pure (wpAny_pure ?_)))
 obtain ⟨ep,new⟩:=JbN (H':=upd H2 s.heap.objs.size (DPo X.prog X.w s.heap.objs.size 0 [(kk,b,y)])) (xs:=[(kk,b,y)]) (show 1 ≤ sizeLine by decide) hd (.cons ⟨rfl,rfl,ry⟩ .nil) dd'
 have new' : J07 X.prog X.w (upd H2 s.heap.objs.size (DPo X.prog X.w s.heap.objs.size ep [(kk,b,y)])) h' s.heap.objs.size (DPo X.prog X.w s.heap.objs.size ep [(kk,b,y)]):=new
 have he : ∃ q,h'.get? s.heap.objs.size = some q:=let ⟨q,_,_,hq,_⟩:=dd'; ⟨q,hq⟩
 exact ⟨.ref s.heap.objs.size,_,J9N I2 (by rw [hp]; exact True.intro) hs' he new',rfl,q2 ep⟩
end
end L2
set_option linter.all false
set_option maxRecDepth 100000
set_option maxHeartbeats 4000000
namespace L2
open PySem PySem.Spec PyProof.Rows
section
variable {P : Program} {w : World} {A : Around} {E : Value → Shared → Prop} {s : Shared}
noncomputable def Heap.RawD (h : Heap) (d : Addr) (es : Array DictEntry) (ep : Nat) : Prop:=∃ o,h.get? d = some o ∧ o.ExactDict ∧ o.data = .dict es ep
theorem Heap.RawD.at {h h' : Heap} {d : Addr} {es : Array DictEntry} {ep : Nat} (x : Heap.RawD h d es ep) (e : ∀ o,h.get? d = some o → h'.get? d = some o) : Heap.RawD h' d es ep:=let ⟨o,ho,r⟩:=x; ⟨o,e _ ho,r⟩
theorem J69 {d : Addr} {es : Array DictEntry} {ep : Nat} (x : Heap.RawD s.heap d es ep) : s.TypeIs (.ref d) "dict":=let ⟨o,ho,hc,_⟩:=x; ⟨o,ho,hc.1⟩
theorem JbP {d : Addr} {es : Array DictEntry} {ep : Nat} {Q : Value → Shared → Prop} (hd : (d == sysModules) = false) (hm : Heap.RawD s.heap d es ep)
  (hQ : Q (.ref s.heap.objs.size) { s with heap:=s.heap.push { cls:=.type "dict_keyiterator",data:=.fields #[.ref d,.int 0 0,.int es.size 0,.int ep 0] } }) :
  wpAny (model P w) A (pyIter (.ref d)) Q E s:=by
 have hT:=J69 hm
 obtain ⟨o,ho,hc,hdat⟩:=hm
 refine wpAny_pyIter_slot hT F.slot_dict_iter (wpAny_call_entry F.slot_dict_iter hT F.entry_dict_iter ?_ (F.args_dict_iter_1 _))
 unfold Builtin.«dict.__iter__»
 refine wpAny_bind ?_
 unfold Builtin.Dict.dictSlotNone
 refine wpAny_bind (wpAny_notOrdered_dict hT ?_)
 show wpAny _ _ (pure (Value.ref d)) _ _ s
 refine wpAny_pure ?_
 show wpAny _ _ (Builtin.Dict.showsAll d >>= _) _ _ s
 unfold Builtin.Dict.showsAll
 rw [if_neg (by rw [hd]; exact Bool.false_ne_true)]
 refine wpAny_bind (wpAny_pure (wpAny_bind (wpAny_dictEntries ho hdat (wpAny_bind (wpAny_dictEpoch ho hdat ?_)))))
 refine wpAny_bind (wpAny_newObj_type (wpAny_pure ⟨_,rfl,"dict_keyiterator",_,⟨_,Heap.get?_push_size _ rfl,rfl⟩,F.slot_dict_keyiterator_next.lookup,?_⟩))
 simpa [rawInt] using hQ
theorem Jbj {it d : Addr} {i n ep : Nat} {es : Array DictEntry} {en : DictEntry} {Q : Option Value → Shared → Prop} (hit : s.heap.IsKeyIter it d i n ep) (hm : Heap.RawD s.heap d es ep) (hsz : es.size = n) (hx : es[i]? = some en)
  (hQ : ∀ h',h'.IsKeyIter it d (i + 1) n ep → Heap.SameBut it s.heap h' → Q (some en.key) { s with heap:=h' }) :
  wpAny (model P w) A (pyNext (.ref it)) Q E s:=by
 obtain ⟨o,ho,hc,hd⟩:=id hit
 obtain ⟨od,hod,hcd,hdd⟩:=hm
 have own : Builtin.Dict_items.ownsTuple "dict_keyiterator" = false:=by decide
 unfold pyNext
 refine wpAny_bind (wpAny_attempt (wpAny_callSpecial?_slot (name:=Str.ofString "__next__") hit.typeIs F.slot_dict_keyiterator_next (wpAny_call_entry F.slot_dict_keyiterator_next hit.typeIs F.entry_dict_keyiterator_next ?_ (F.args_dict_keyiterator_next_1 _))))
 refine wpAny_bind (wpAny_pure (wpAny_bind (wpAny_bind ?_)))
 first | refine wpAny_bind (wpAny_typeNameOfWhole_keyiter hit.typeIs (wpAny_pure ?_)) | refine wpAny_bind (wpAny_typeNameOf_keyiter hit.typeIs (wpAny_pure ?_))
 refine wpAny_bind (wpAny_fieldsOf ho hd ?_)
 simp only [own,Bool.false_eq_true,if_false]
 show wpAny _ _ (if (Value.ref d == Value.none) = true then _ else _) _ _ s
 rw [if_neg (show ¬ (Value.ref d == Value.none) = true from fun z=>nomatch z)]
 refine wpAny_bind (wpAny_pure (wpAny_bind (wpAny_dictEntries hod hdd ?_)))
 rw [if_neg (by rw [hsz]; simp)]
 refine wpAny_bind (wpAny_pure (wpAny_bind (wpAny_dictEpoch hod hdd ?_)))
 rw [if_neg (by simp)]
 refine wpAny_pure ?_
 simp only [show ¬ ((i : Int) < 0) from by omega,if_false,Int.toNat_natCast,hx]
 refine wpAny_bind ?_
 first | refine wpAny_bind (wpAny_typeNameOfWhole_keyiter hit.typeIs (wpAny_pure ?_)) | refine wpAny_bind (wpAny_typeNameOf_keyiter hit.typeIs (wpAny_pure ?_))
 refine wpAny_bind (wpAny_isOneOf_keyiter hit.typeIs ?_)
 show wpAny _ _ (setField (.ref it) 1 (rawInt ((i : Int) + 1)) >>= _) _ _ s
 refine wpAny_bind (wpAny_setField ho hd (by simp) ?_)
 have hit' : (s.heap.update it (Obj.mapFields (·.setIfInBounds 1 (rawInt ((i : Int) + 1))))).IsKeyIter it d (i + 1) n ep :=
  ⟨_,Heap.get?_update_self _ ho (Obj.isFreed_of_fields (Obj.data_mapFields hd _)),(Obj.cls_mapFields ..).trans hc,by rw [Obj.data_mapFields hd]; simp [rawInt]⟩
 refine wpAny_bind (wpAny_holding (wpAny_bind (wpAny_isOneOf_keyiter (s:={ s with heap:=s.heap.update it (Obj.mapFields (·.setIfInBounds 1 (rawInt ((i : Int) + 1)))) }) hit'.typeIs ?_)))
 show wpAny _ _ (pure en.key) _ _ _
 exact wpAny_pure (wpAny_pure ⟨_,rfl,wpAny_pure (hQ _ hit' (Heap.SameBut.update ..))⟩)
theorem Jby {it d : Addr} {i n ep : Nat} {es : Array DictEntry} {Q : Option Value → Shared → Prop} (hh : A.handled = none) (hit : s.heap.IsKeyIter it d i n ep) (hm : Heap.RawD s.heap d es ep) (hsz : es.size = n) (hx : n ≤ i)
  (hQ : ∀ h',Heap.ExtBut it s.heap h' → Q none { s with heap:=h' }) : wpAny (model P w) A (pyNext (.ref it)) Q E s:=by
 obtain ⟨o,ho,hc,hd⟩:=id hit
 obtain ⟨od,hod,hcd,hdd⟩:=hm
 have own : Builtin.Dict_items.ownsTuple "dict_keyiterator" = false:=by decide
 unfold pyNext
 refine wpAny_bind (wpAny_attempt (wpAny_callSpecial?_slot (name:=Str.ofString "__next__") hit.typeIs F.slot_dict_keyiterator_next (wpAny_call_entry F.slot_dict_keyiterator_next hit.typeIs F.entry_dict_keyiterator_next ?_ (F.args_dict_keyiterator_next_1 _))))
 refine wpAny_bind (wpAny_pure (wpAny_bind (wpAny_bind ?_)))
 first | refine wpAny_bind (wpAny_typeNameOfWhole_keyiter hit.typeIs (wpAny_pure ?_)) | refine wpAny_bind (wpAny_typeNameOf_keyiter hit.typeIs (wpAny_pure ?_))
 refine wpAny_bind (wpAny_fieldsOf ho hd ?_)
 simp only [own,Bool.false_eq_true,if_false]
 show wpAny _ _ (if (Value.ref d == Value.none) = true then _ else _) _ _ s
 rw [if_neg (show ¬ (Value.ref d == Value.none) = true from fun z=>nomatch z)]
 refine wpAny_bind (wpAny_pure (wpAny_bind (wpAny_dictEntries hod hdd ?_)))
 rw [if_neg (by rw [hsz]; simp)]
 refine wpAny_bind (wpAny_pure (wpAny_bind (wpAny_dictEpoch hod hdd ?_)))
 rw [if_neg (by simp)]
 refine wpAny_pure ?_
 have hge : es.size ≤ i:=by rw [hsz]; exact hx
 simp only [show ¬ ((i : Int) < 0) from by omega,if_false,Int.toNat_natCast,Array.getElem?_eq_none hge]
 refine wpAny_bind ?_
 first | refine wpAny_bind (wpAny_typeNameOfWhole_keyiter hit.typeIs (wpAny_pure ?_)) | refine wpAny_bind (wpAny_typeNameOf_keyiter hit.typeIs (wpAny_pure ?_))
 show wpAny _ _ (setField (.ref it) 0 .none >>= _) _ _ s
 refine wpAny_bind (wpAny_setField ho hd (by simp) ?_)
 show wpAny _ _ (newExc (.type "StopIteration") [] >>= _) _ _ _
 refine wpAny_bind ?_
 simp only [newExc,newTuple]
 refine wpAny_bind (wpAny_newObj_type ?_ (by size_fits))
 refine wpAny_bind (m:=firstArgMember _ _) (wpAny_of_eq (a:=Value.none) (by first | rfl | (simp only [firstArgMember]; rfl)) ?_)
 refine wpAny_newObj_type ?_ (by size_fits)
 simp only [raiseNew]
 refine wpAny_bind (wpAny_handled ?_)
 rw [show A.in1.handled = none from hh]
 refine wpAny_bind (wpAny_pure (wpAny_throw ?_))
 refine wpAny_bind (wpAny_isInstance (T:="StopIteration") (b:=true) ⟨_,Heap.get?_push_size _ rfl,rfl⟩ isSubtype_stop ?_)
 exact wpAny_pure (hQ _ (((Heap.SameBut.update ..).extBut.push _).push _))
theorem Jbi (hh : A.handled = none) (I d : Addr) (hne : d ≠ I) (es : Array DictEntry) (ep : Nat) :
  Walks P w A I [I,d] [I] es.size (fun i v=>∃ en,es[i]? = some en ∧ v = en.key) (fun i h=>h.IsKeyIter I d i es.size ep ∧ Heap.RawD h d es ep) where
 sub:=fun b hb=>by simp at hb; simp [hb]
 frame:=fun _ _ _ st hk=>⟨st.1.at fun o e=>hk I (by simp) o e,st.2.at fun o e=>hk d (by simp) o e⟩
 item:=fun i s Q E hi st hQ=>by
  have hx : es[i]? = some es[i]:=by simp [hi]
  refine Jbj st.1 st.2 rfl hx fun h' hit' hs'=>?_
  exact hQ _ h' s.toks ⟨_,hx,rfl⟩ ⟨hit',st.2.at fun o e=>hs'.extBut d o hne e⟩ fun b o hb e=>hs'.extBut b o (fun h=>hb (by simp [h])) e
 done:=fun s Q E st hQ=>Jby hh st.1 st.2 rfl (Nat.le_refl _) fun h' he'=>hQ h' s.toks fun b o hb e=>he' b o (fun h=>hb (by simp [h])) e
 self:=fun _ _ _ _ st hQ=>wpAny_pyIter_keyiter st.1 hQ
theorem J8S {Q : List Value → Shared → Prop} {d : Addr} {es : Array DictEntry} {ep : Nat} (hh : A.handled = none) (hd : (d == sysModules) = false) (hm : Heap.RawD s.heap d es ep) (hn : es.size ≤ sizeLine)
  (hQ : ∀ s' acc,(∀ b o,s.heap.get? b = some o → s'.heap.get? b = some o) → s'.gens = s.gens → s'.drawn = s.drawn → s'.os = s.os → s.heap.objs.size < s'.heap.objs.size → ItemsOf (fun i v=>∃ en,es[i]? = some en ∧ v = en.key) acc es.size → Q acc.toList s') :
  wpAny (model P w) A (collect (.ref d)) Q E s:=by
 have hdl : d < s.heap.objs.size:=let ⟨o,ho,_⟩:=hm; Heap.lt_size ho
 have hsd : s.heap.objs.size ≠ d:=Nat.ne_of_gt hdl
 unfold collect
 refine wpAny_bind (wpAny_runValue (codeAny_builtin PySem.F.entry_proto_collect ?_))
 rw [Around.under_plainId PySem.F.plain_proto_collect _]
 show wpAny _ A.in1 (newList [] >>= fun l=>again (.builtin "list.__iadd__" ⟨[l,.ref d],[]⟩)) _ _ s
 refine wpAny_bind (wpAny_newObj_type ?_)
 refine wpAny_pure ⟨plainId_quiet PySem.F.plain_list_iadd _,codeAny_builtin PySem.F.entry_list_iadd ?_⟩
 rw [Around.under_plainId PySem.F.plain_list_iadd _]
 show wpAny _ A.in1 (Builtin.List.listExtendWith (.ref s.heap.objs.size) (.ref d) (.ref s.heap.objs.size)) _ _ _
 generalize hH : s.heap.push { cls:=.type "list",data:=.seq ([] : List Value).toArray } = H1
 have hHs : H1.objs.size = s.heap.objs.size + 1:=by rw [← hH,Heap.size_push]
 have keep1 : ∀ b o,s.heap.get? b = some o → H1.get? b = some o:=fun b o e=>by rw [← hH]; exact Heap.get?_push_of_some _ e
 have hm1 : Heap.RawD H1 d es ep:=hm.at fun o e=>keep1 _ _ e
 have hT : ({ s with heap:=H1 } : Shared).TypeIs (.ref d) "dict":=J69 (s:={ s with heap:=H1 }) hm1
 unfold Builtin.List.listExtendWith
 refine wpAny_bind (wpAny_typeOf (T:="dict") (v:=.ref d) hT ?_)
 have h1 : Builtin.List.listSameRef (.ref s.heap.objs.size) (.ref d) = false:=by simp [Builtin.List.listSameRef,hsd]
 have h2 : (Value.type "dict" == Value.type "list") = false:=by decide
 have h3 : (Value.type "dict" == Value.type "tuple") = false:=by decide
 simp only [h1,h2,h3,Bool.or_false,Bool.false_eq_true,if_false]
 refine wpAny_bind (JbP (s:={ s with heap:=H1 }) hd hm1 ?_)
 refine wpAny_bind (wpAny_holding ?_)
 unfold Builtin.List.listLengthHint
 have hm2 : Heap.RawD (H1.push { cls:=.type "dict_keyiterator",data:=.fields #[.ref d,.int 0 0,.int es.size 0,.int ep 0] }) d es ep:=hm1.at fun o e=>Heap.get?_push_of_some _ e
 have hT2 : ({ s with heap:=H1.push { cls:=.type "dict_keyiterator",data:=.fields #[.ref d,.int 0 0,.int es.size 0,.int ep 0] } } : Shared).TypeIs (.ref d) "dict":=J69 (s:={ s with heap:=H1.push { cls:=.type "dict_keyiterator",data:=.fields #[.ref d,.int 0 0,.int es.size 0,.int ep 0] } }) hm2
 refine wpAny_bind (wpAny_specialOf (T:="dict") (v:=.ref d) hT2 J8r ?_)
 wp_delta
 refine wpAny_bind (wpAny_isInstance (T:="dict") (v:=.ref d) (b:=true) hT2 (by rw [isSubtype_type]; kernel_rfl) ?_)
 show wpAny _ A.in1 (typeOf (Value.ref d) >>= _) _ _ _
 refine wpAny_bind (wpAny_typeOf (T:="dict") (v:=.ref d) hT2 ?_)
 refine wpAny_pure ?_
 show wpAny _ A.in1 (rule "list.extend.makes-room" >>= fun _=>Builtin.List.listTouch (.ref s.heap.objs.size) >>= fun _ =>
  again (.builtin "list.extend.loop" ⟨[.ref s.heap.objs.size,.ref H1.objs.size,.ref s.heap.objs.size],[]⟩)) _ _ _
 refine wpAny_bind (wpAny_rule ?_)
 generalize hH2 : H1.push { cls:=.type "dict_keyiterator",data:=.fields #[.ref d,.int 0 0,.int es.size 0,.int ep 0] } = H2 at hm2 hT2 ⊢
 have keep2 : ∀ b o,H1.get? b = some o → H2.get? b = some o:=fun b o e=>by rw [← hH2]; exact Heap.get?_push_of_some _ e
 have hS1 : H2.get? s.heap.objs.size = some { cls:=.type "list",data:=.seq ([] : List Value).toArray }:=keep2 _ _ (by rw [← hH]; exact Heap.get?_push_size _ rfl)
 have hit : H2.IsKeyIter H1.objs.size d 0 es.size ep:=⟨_,by rw [← hH2]; exact Heap.get?_push_size _ rfl,rfl,rfl⟩
 have hne : d ≠ H1.objs.size:=Nat.ne_of_lt (by rw [hHs]; exact Nat.lt_succ_of_lt hdl)
 refine wpAny_bind ?_
 show wpAny _ A.in1 (updateSeq s.heap.objs.size (·.push .none) >>= fun _=>updateSeq s.heap.objs.size (·.pop)) _ _ _
 refine wpAny_bind (wpAny_updateSeq (s:={ s with heap:=H2 }) hS1 rfl ?_)
 have hS2:=Heap.get?_update_self (Obj.mapSeq (·.push Value.none)) hS1 rfl
 refine wpAny_updateSeq hS2 rfl ?_
 have hS3:=Heap.get?_update_self (Obj.mapSeq (·.pop)) hS2 rfl
 have oth : ∀ b o,b ≠ s.heap.objs.size → H2.get? b = some o → ((H2.update s.heap.objs.size (Obj.mapSeq (·.push Value.none))).update s.heap.objs.size (Obj.mapSeq (·.pop))).get? b = some o :=
  fun b o hb e=>(Heap.get?_update_other _ _ (Ne.symm hb)).trans ((Heap.get?_update_other _ _ (Ne.symm hb)).trans e)
 have hSf : s.heap.objs.size ∉ [H1.objs.size,d]:=fun hm=>by
  rcases List.mem_cons.mp hm with e | e
  ·rw [hHs] at e; omega
  ·exact hsd (List.mem_singleton.mp e)
 refine wpAny_pure ⟨plainId_quiet PySem.F.plain_extend_loop _,codeAny_extend_loopS (Jbi (A:=A.in1) hh _ d hne es ep).toS hn _ hSf _ es.size 0 _ _ _ rfl (Nat.zero_le _) ⟨hit.at fun o e=>oth _ o (by rw [hHs]; omega) e,hm2.at fun o e=>oth _ o hsd.symm e⟩ hS3 (ItemsOf.nil _) fun s' acc' c' hm hS' hacc=>?_⟩
 show wpAny _ A (load s.heap.objs.size >>= _) _ _ s'
 refine wpAny_bind (wpAny_load hS' ?_)
 refine wpAny_pure (hQ s' acc' (fun b ob e=>?_) hm.gens hm.drawn hm.os (Heap.lt_size hS') hacc)
 have hlt:=Heap.lt_size e
 refine hm.heap b ob (fun hb=>?_) (oth b ob (Nat.ne_of_lt hlt) (keep2 _ _ (keep1 _ _ e)))
 rcases List.mem_cons.mp hb with h | h
 ·exact absurd hlt (h ▸ Nat.lt_irrefl _)
 ·rw [List.mem_singleton.mp h,hHs] at hlt; exact absurd hlt (Nat.not_lt.mpr (Nat.le_succ _))
theorem J6i {a : Addr} {vs : List Value} {n : Nat} {R : Fin → Shared → Prop} (ho : s.heap.get? a = some (seqObj "list" vs.toArray n)) (h2 : vs.length < 2)
  (h : ∀ out : Array Value,out = vs.toArray → R (.done (.ret .none)) { s with heap:=sortedHeap s.heap a vs out }) : wpAny (model P w) A (Builtin.«list.sort» ⟨[.ref a],[]⟩) R E s:=by
 rw [list_sort_plain]
 have ha : a < s.heap.objs.size:=Heap.lt_size ho
 refine wpAny_bind (listItems_at ho rfl (wpAny_bind (listUpdate_at ho rfl ?_)))
 obtain ⟨e1,ho1⟩ : ∃ e1,(s.heap.update a (Obj.mapSeq fun _=>#[])).get? a = some (seqObj "list" #[] e1):=⟨_,get?_update_seq ho (fun _=>#[])⟩
 refine wpAny_bind (seqEpoch_at ho1 rfl (wpAny_bind (wpAny_newTuple (wpAny_bind (wpAny_newList (wpAny_holding ?_))))))
 have ho6 : (((s.heap.update a (Obj.mapSeq fun _=>#[])).push (seqObj "tuple" vs.toArray 0)).push (seqObj "list" #[] 0)).get? a = some (seqObj "list" #[] e1):=by
  rw [Heap.get?_push_ne _ _ _ (by rw [size_push',Heap.size_update]; exact Nat.ne_of_lt (Nat.lt_succ_of_lt ha)),Heap.get?_push_ne _ _ _ (by rw [Heap.size_update]; exact Nat.ne_of_lt ha)]
  exact ho1
 show wpAny (model P w) A _ R E { s with heap:=((s.heap.update a (Obj.mapSeq fun _=>#[])).push (seqObj "tuple" vs.toArray 0)).push (seqObj "list" #[] 0) }
 dsimp only
 have z2 : vs.toArray.size < 2:=by simpa using h2
 rw [if_pos z2,if_pos z2]
 refine wpAny_bind (wpAny_pure ?_)
 rw [StateT.run_pure]
 refine wpAny_bind (wpAny_pure ?_)
 dsimp only
 refine wpAny_bind (seqEpoch_at ho6 rfl (wpAny_bind (listUpdate_at ho6 rfl ?_ (hsz2:=by rw [Array.size_map]; show (pairsOf vs).size ≤ _; rw [pairsOf_size,sizeLine_eq]; omega))))
 simp only [bne_self_eq_false,Bool.false_eq_true,if_false]
 refine wpAny_pure (h ((arrOf (SortSt.mk' general' (vs.toArray.zip vs.toArray) #[] 7 none)).map fun x : Keyed=>x.2) ?_)
 have ea : arrOf (SortSt.mk' general' (vs.toArray.zip vs.toArray) #[] 7 none) = vs.toArray.zip vs.toArray:=rfl
 rw [ea]
 apply Array.ext'
 match vs,h2 with
 | [],_=>simp
 | [_],_=>simp
end
section
variable {X : Cx} {P : Program} {w : World}
theorem J7V (hP : X.prog = P) (hw : X.w = w) (hc : X.calm = true) : J1p X (.builtin "sorted") (fun xs H Q=>∃ (a : Addr) (kvs : List PEn),xs = [.ref a] ∧ DAt P w H a kvs ∧ kvs.length ≤ 1 ∧ ∀ D,H D = none → Q (.ref D) (upd H D (.lst (kvs.map fun e=>.ref e.2.1)))):=by
 subst hP hw
 intro pins s σ H xs us Q I r h
 obtain ⟨a,kvs,rfl,⟨⟨ep,ha⟩,al⟩,hl,q⟩:=h
 obtain ⟨u,rfl,ru⟩:=J4D r
 cases ru
 obtain ⟨zl,hsm,ys,rel,_,od,es,g1,g2,g3,g4,g5⟩:=JcZ I.hok ha al
 have hsz : es.size = kvs.length:=by rw [size_of_entries g4,Paired.length rel]
 refine Calls.call_function_entry kind_sorted plain_sorted entry_sorted (args_sorted1 _) ?_
 unfold Builtin.«sorted»
 refine wpAny_bind (m:=checkCount "sorted" 1 1 _) (wpAny_pure ?_)
 refine wpAny_bind (J8S (I.ok.hd hc) hsm ⟨od,g1,g2,g3⟩ (by rw [hsz]; exact zl) fun s1 acc keep g1 d1 o1 hz1 items=>?_)
 obtain ⟨h1,gg,dd,tk,oo⟩:=s1
 simp only at keep g1 d1 o1
 subst g1 d1 o1
 have hV : Vals (kvs.map fun e=>V.ref e.2.1) acc.toList:=by
  have hlen : acc.toList.length = kvs.length:=by rw [Array.length_toList,items.1,hsz]
  match kvs,ys,rel,hl,hlen with
  | [],[],_,_,hlen =>
   rw [List.length_eq_zero_iff.mp hlen]
   exact .nil
  | [e],[y],.cons re _,_,hlen =>
   obtain ⟨v,hv⟩:=List.length_eq_one_iff.mp hlen
   rw [hv]
   obtain ⟨en,e1,e2⟩:=items.2 0 v (by rw [← Array.getElem?_toList,hv]; rfl)
   rw [entry_at g4 0] at e1
   cases e1
   rw [e2]
   exact .cons (by show Value.ref y.2.1 = Value.ref e.2.1; rw [re.2.1]) .nil
 have hsl : acc.toList.length ≤ sizeLine:=by
  rw [Array.length_toList,items.1,hsz]
  exact Nat.le_trans hl (by decide)
 refine wpAny_bind (wpAny_newList ?_ (hsz:=hsl))
 have hoL : (h1.push (seqObj "list" acc.toList.toArray 0)).get? h1.objs.size = some (seqObj "list" acc.toList.toArray 0):=Heap.get?_push_size _ rfl
 show wpAny _ _ _ _ _ (⟨h1.push (seqObj "list" acc.toList.toArray 0),s.gens,s.drawn,tk,s.os⟩ : Shared)
 have hal : acc.toList.length < 2:=by rw [Array.length_toList,items.1]; omega
 refine wpAny_bind (wpAny_holding (wpAny_call_entry slot_list_sort ⟨_,hoL,rfl⟩ entry_list_sort (J6i hoL hal fun out eo=>⟨_,rfl,?_⟩) (args_list_sort _)))
 refine wpAny_pure ⟨_,rfl,?_⟩
 obtain ⟨e,he⟩:=sortedHeap_at (out:=out) hoL
 have hsz : s.heap.objs.size ≤ h1.objs.size:=Nat.le_of_lt hz1
 have hfr : H h1.objs.size = none:=I.hok.fresh hsz
 refine ⟨.ref h1.objs.size,_,I.laid (o:=.lst (kvs.map fun e=>V.ref e.2.1)) (t':=tk) (fun b o eb=>?_) hsz ⟨?_,out.toList,e,?_,?_⟩,rfl,q _ hfr⟩
 ·have hlt:=Heap.lt_size (keep b o eb)
  show (sortedHeap (h1.push (seqObj "list" acc.toList.toArray 0)) h1.objs.size acc.toList out).get? b = some o
  rw [sortedHeap_old (Nat.ne_of_lt hlt) (by rw [size_push']; exact Nat.lt_succ_of_lt hlt)]
  exact Heap.get?_push_of_some _ (keep b o eb)
 ·rw [List.length_map]; exact Nat.le_trans hl (by decide)
 ·rw [eo]; exact hV
 ·rw [Array.toArray_toList]; exact he
end
end L2
set_option linter.all false
set_option maxRecDepth 100000
set_option maxHeartbeats 4000000
namespace L2
open PySem PySem.Spec PyProof.Rows
theorem Jag (a d : Value) : argsOk "min" ⟨[a],[("default",d)]⟩:=by unfold argsOk; kernel_rfl
section
variable {p : Program} {w : World} {A : Around} {R : Result → Shared → Prop} {it bst : Addr} {fp wr : List Addr} {n : Nat} {G : Nat → Value → Prop} {St : Nat → Heap → Prop} {bt : Nat → Nat → Bool} {kw : List (Str × Value)}
theorem Jae (W : Walks p w A.in1 it fp wr n G St) (cm : CmpOf p w A.in1 .Lt G bt) (nb : bst ∉ fp) : ∀ (k j : Nat) (s : Shared) (x : Value) (c : Nat),j + 1 + k = n → St (j + 1) s.heap → G (argBest bt j) x →
  s.heap.get? bst = some { cls:=.type "list",dict:=none,data:=.seq #[x,x] c,slots:=#[] } → (∀ y h' tk,G (argBest bt (n - 1)) y → (∀ b o,b ∉ wr → b ≠ bst → s.heap.get? b = some o → h'.get? b = some o) → R (.ok (.ret y)) { s with heap:=h',toks:=tk }) →
  codeAny (model p w) A (.builtin "min.loop" ⟨[.ref it,.none,.ref bst],kw⟩) R s:=by
 have nw : bst ∉ wr:=fun z=>nb (W.sub _ z)
 have nm : (toString "min" ++ toString ".loop" : String) = "min.loop":=by decide
 intro k
 induction k with
 | zero =>
  intro j s x c ek st gx hb out
  have ej : j + 1 = n:=by omega
  refine codeAny_builtin PySem.F.entry_min_loop ?_
  rw [Around.under_plainId PySem.F.plain_min_loop _]
  show wpAny _ A.in1 (seqItems? (.ref bst) >>= _) _ _ s
  refine wpAny_bind (wpAny_seqItems hb rfl ?_)
  show wpAny _ A.in1 (tryCatch (pyNext (.ref it)) _ >>= _) _ _ s
  refine wpAny_bind (wpAny_tryCatch (W.done s _ _ (ej ▸ st) fun h1 tk k1=>?_))
  have hb1:=k1 bst _ nw hb
  show wpAny _ A.in1 (updateSeq bst (fun _=>#[]) >>= _) _ _ _
  refine wpAny_bind (wpAny_updateSeq hb1 rfl (wpAny_bind (wpAny_letGo (wpAny_pure ?_))))
  exact out x _ tk (by rw [← ej]; exact gx) fun b o n1 n2 e=>(Heap.get?_update_other _ _ (Ne.symm n2)).trans (k1 b o n1 e)
 | succ k ih =>
  intro j s x c ek st gx hb out
  refine codeAny_builtin PySem.F.entry_min_loop ?_
  rw [Around.under_plainId PySem.F.plain_min_loop _]
  show wpAny _ A.in1 (seqItems? (.ref bst) >>= _) _ _ s
  refine wpAny_bind (wpAny_seqItems hb rfl ?_)
  show wpAny _ A.in1 (tryCatch (pyNext (.ref it)) _ >>= _) _ _ s
  refine wpAny_bind (wpAny_tryCatch (W.item (j + 1) s _ _ (by omega) st fun v h1 tk gv st1 k1=>?_))
  have hb1:=k1 bst _ nw hb
  show wpAny _ A.in1 (tryCatch (holding [v,v] (richCompare .Lt v x >>= _)) _ >>= _) _ _ _
  refine wpAny_bind (wpAny_tryCatch (wpAny_holding (wpAny_bind (cm (j + 1) (argBest bt j) v x _ _ _ gv gx (wpAny_bind (wpAny_holding (wpAny_truthy_bool (wpAny_bind (wpAny_letGo (wpAny_pure ?_))))))))))
  by_cases hbt : bt (j + 1) (argBest bt j) = true
  ·rw [hbt]
   simp only [if_true]
   refine wpAny_bind (wpAny_updateSeq hb1 rfl (wpAny_bind (wpAny_letGo ?_)))
   rw [nm]
   refine wpAny_pure ⟨plainId_quiet PySem.F.plain_min_loop _,ih (j + 1) _ v _ (by omega) (W.frame _ _ _ st1 fun b bf o e=>?_) (by rw [argBest,if_pos hbt]; exact gv) (Heap.get?_update_self _ hb1 rfl) fun y h2 tk2 gy k2=>out y h2 tk2 gy fun b o n1 n2 e=>k2 b o n1 n2 ((Heap.get?_update_other _ _ (Ne.symm n2)).trans (k1 b o n1 e))⟩
   exact (Heap.get?_update_other _ _ (fun z : bst = b=>nb (z ▸ bf))).trans e
  ·rw [Bool.eq_false_iff.mpr hbt]
   simp only [Bool.false_eq_true,if_false]
   refine wpAny_bind (wpAny_letGo ?_)
   rw [nm]
   exact wpAny_pure ⟨plainId_quiet PySem.F.plain_min_loop _,ih (j + 1) _ x c (by omega) st1 (by rw [argBest,if_neg hbt]; exact gx) hb1 fun y h2 tk2 gy k2=>out y h2 tk2 gy fun b o n1 n2 e=>k2 b o n1 n2 (k1 b o n1 e)⟩
end
section
variable {p : Program} {w : World} {A : Around} {E : Value → Shared → Prop} {s : Shared} {l : Addr} {xs : Array (Int × Tok)} {Q : Value → Shared → Prop} {d : Value}
theorem JcE (hh : A.handled = none) (hl : s.heap.IsList l (intItems xs)) (h0 : xs.size = 0 → ∀ h' tk,(∀ b o,s.heap.get? b = some o → h'.get? b = some o) → Q d { s with heap:=h',toks:=tk })
  (h1 : ∀ v h' tk,0 < xs.size → (intItems xs)[argBest (fun i j=>decide (numAt xs i < numAt xs j)) (xs.size - 1)]? = some v → (∀ b o,s.heap.get? b = some o → h'.get? b = some o) → Q v { s with heap:=h',toks:=tk }) :
  wpAny (model p w) A (call (.builtin "min") [.ref l] [("default",d)]) Q E s:=by
 have nm : (toString "min" ++ toString ".loop" : String) = "min.loop":=by decide
 refine kmk_tree PySem.F.kind_min PySem.F.plain_min PySem.F.entry_min (Jag _ _) ?_
 show wpAny _ A.in1 (Builtin.Builtins.bindParams "min" ["key","default"] 0 ⟨[],[("default",d)]⟩ >>= _) _ _ s
 refine wpAny_bind (wpAny_of_eq (show Builtin.Builtins.bindParams "min" ["key","default"] 0 ⟨[],[("default",d)]⟩ = pure [none,some d] from rfl) ?_)
 refine wpAny_bind (wpAny_pure (wpAny_bind (iter_intList hl fun s₂ e st hfp hlI=>?_)))
 subst e
 have W:=Walks.list (prog:=p) (w:=w) (A:=A.in1) hh s.heap.objs.size l hlI (intItems xs)
 have hsz : (intItems xs).size = xs.size:=by simp [intItems]
 refine wpAny_bind (wpAny_newObj_type ?_)
 generalize hS : (s.heap.push { cls:=.type "list_iterator",data:=.fields #[.ref l,.int 0 0] }).objs.size = S
 have nf : S ∉ [s.heap.objs.size,l]:=fun z=>Nat.lt_irrefl _ (hS ▸ hfp _ z)
 have nSI : S ≠ s.heap.objs.size:=fun z=>nf (z ▸ List.mem_cons_self)
 rw [nm]
 have gS : ((s.heap.push { cls:=.type "list_iterator",data:=.fields #[.ref l,.int 0 0] }).push { cls:=.type "list",data:=.seq ([] : List Value).toArray }).get? S = some { cls:=.type "list",data:=.seq ([] : List Value).toArray }:=by rw [← hS]; exact Heap.get?_push_size _ rfl
 have st':=W.frame 0 _ ((s.heap.push { cls:=.type "list_iterator",data:=.fields #[.ref l,.int 0 0] }).push { cls:=.type "list",data:=.seq ([] : List Value).toArray }) st fun b _ o e=>Heap.get?_push_of_some _ e
 have kp : ∀ b o,s.heap.get? b = some o → ((s.heap.push { cls:=.type "list_iterator",data:=.fields #[.ref l,.int 0 0] }).push { cls:=.type "list",data:=.seq ([] : List Value).toArray }).get? b = some o ∧ b ∉ [s.heap.objs.size] ∧ b ≠ S:=fun b o e=>by
  have hb:=Heap.lt_size e
  refine ⟨Heap.get?_push_of_some _ (Heap.get?_push_of_some _ e),fun z=>?_,fun z=>?_⟩
  ·rw [List.mem_singleton.mp z] at hb; exact Nat.lt_irrefl _ hb
  ·have e1 : S = s.heap.objs.size + 1:=by rw [← hS,Heap.size_push]
   rw [z,e1] at hb
   exact absurd hb (Nat.not_lt.mpr (Nat.le_succ _))
 refine wpAny_pure ⟨plainId_quiet PySem.F.plain_min_loop _,codeAny_builtin PySem.F.entry_min_loop ?_⟩
 rw [Around.under_plainId PySem.F.plain_min_loop _]
 show wpAny _ A.in1 (seqItems? (.ref S) >>= _) _ _ _
 refine wpAny_bind (wpAny_seqItems gS rfl ?_)
 show wpAny _ A.in1 (tryCatch (pyNext (.ref s.heap.objs.size)) _ >>= _) _ _ _
 by_cases hz : xs.size = 0
 ·refine wpAny_bind (wpAny_tryCatch (W.done _ _ _ (by rw [hsz,hz]; exact st') fun h1' tk k1=>?_))
  show wpAny _ A.in1 (rule _ >>= _) _ _ _
  refine wpAny_bind (wpAny_rule (wpAny_pure (h0 hz h1' tk fun b o e=>?_)))
  obtain ⟨a1,a2,_⟩:=kp b o e
  exact k1 b o a2 a1
 ·refine wpAny_bind (wpAny_tryCatch (W.item 0 _ _ _ (by rw [hsz]; omega) st' fun v h1' tk gv st1 k1=>?_))
  have gS1:=k1 S _ (fun z=>nSI (List.mem_singleton.mp z)) gS
  show wpAny _ A.in1 (updateSeq S (fun _=>#[v,v]) >>= _) _ _ _
  refine wpAny_bind (wpAny_updateSeq gS1 rfl ?_)
  rw [nm]
  refine wpAny_pure ⟨plainId_quiet PySem.F.plain_min_loop _,Jae W (CmpOf.ints_lt (numAt xs) (fun _ _=>intItems_at)) nf (xs.size - 1) 0 _ v _ (by rw [hsz]; omega) (W.frame _ _ _ st1 fun b bf o e=>(Heap.get?_update_other _ _ (fun z : S = b=>nf (z ▸ bf))).trans e) gv (Heap.get?_update_self _ gS1 rfl) fun y h2 tk2 gy k2=>?_⟩
  refine h1 y h2 tk2 (by omega) (by rw [hsz] at gy; exact gy) fun b o e=>?_
  obtain ⟨a1,a2,a3⟩:=kp b o e
  exact k2 b o a2 a3 ((Heap.get?_update_other _ _ (Ne.symm a3)).trans (k1 b o a2 a1))
end
section
variable {X : Cx} {K : PySem.W.Frag}
theorem Jaj (hc : X.calm = true) (h : X.K = K) : JaY X (.builtin "min") ["default"] (fun xs zs H Q=>∃ (D : Addr) (ns : List Int) (d : Int),xs = [.ref D] ∧ zs = [.int d] ∧ SqL K H D (ns.map V.int) ∧ (ns = [] → Q (.int d) H) ∧ ∀ M,M ∈ ns → (∀ a ∈ ns,M ≤ a) → Q (.int M) H):=by
 subst h
 intro pins s σ H vs zs us ws Q I r rz h
 obtain ⟨D,ns,d,rfl,rfl,hq,q0,q⟩:=h
 obtain ⟨u,rfl,ru⟩:=r.one
 cases ru
 obtain ⟨u,rfl,t,rfl⟩:=rz.one
 obtain ⟨its,rv,pl,_⟩:=I.list hq
 obtain ⟨xs,rfl,rfl⟩:=J3g rv
 have e : (xs.map fun p=>Value.int p.1 p.2).toArray = intItems xs.toArray:=by simp [intItems]
 show wpAny _ _ (call (.builtin "min") [.ref D] [("default",.int d t)]) _ _ s
 refine JcE (xs:=xs.toArray) (I.ok.hd hc) (by rw [← e]; exact pl.isList) (fun hz h' tk hk=>?_) (fun v h' tk hz hv hk=>?_)
 ·rw [List.size_toArray] at hz
  exact ⟨.int d,H,I.kept (fun b o e=>hk b o e),⟨t,rfl⟩,q0 (by rw [List.eq_nil_of_length_eq_zero hz]; rfl)⟩
 ·rw [List.size_toArray] at hz
  obtain ⟨M,t,rfl,m1,m2⟩:=J9J hz hv
  exact ⟨.int M,H,I.kept (fun b o e=>hk b o e),⟨t,rfl⟩,q M m1 m2⟩
end
theorem Jc2 {p : Program} {w : World} {A : Around} {E : Value → Shared → Prop} {s : Shared} {l : Addr} {v : Value} {Q : Value → Shared → Prop} (hh : A.handled = none) (hl : s.heap.IsList l #[v]) (h : ∀ h' tk,(∀ b o,s.heap.get? b = some o → h'.get? b = some o) → Q v { s with heap:=h',toks:=tk }) :
  wpAny (model p w) A (call (.builtin "min") [.ref l]) Q E s:=by
 have nm : (toString "min" ++ toString ".loop" : String) = "min.loop":=by decide
 have hlt : l < s.heap.objs.size:=by obtain ⟨o,ho,_⟩:=hl; exact Heap.lt_size ho
 refine call_function_tree PySem.F.kind_min PySem.F.plain_min PySem.F.entry_min (PySem.F.args_min1 _) ?_
 show wpAny _ A.in1 (Builtin.Builtins.bindParams "min" ["key","default"] 0 ⟨[],[]⟩ >>= _) _ _ s
 refine wpAny_bind (wpAny_of_eq (show Builtin.Builtins.bindParams "min" ["key","default"] 0 ⟨[],[]⟩ = pure [none,none] from rfl) ?_)
 refine wpAny_bind (wpAny_pure (wpAny_bind (wpAny_pyIter_list hl ?_)))
 have hne : l ≠ s.heap.objs.size:=Nat.ne_of_lt hlt
 have W:=Walks.list (prog:=p) (w:=w) (A:=A.in1) hh s.heap.objs.size l hne #[v]
 refine wpAny_bind (wpAny_newObj_type ?_)
 generalize hS : (s.heap.push { cls:=.type "list_iterator",data:=.fields #[.ref l,.int 0 0] }).objs.size = S
 have eS : S = s.heap.objs.size + 1:=by rw [← hS,Heap.size_push]
 have nSI : S ≠ s.heap.objs.size:=by rw [eS]; exact Nat.ne_of_gt (Nat.lt_succ_self _)
 have nSl : S ≠ l:=by rw [eS]; exact Nat.ne_of_gt (Nat.lt_succ_of_lt hlt)
 have nf : S ∉ [s.heap.objs.size,l]:=fun z=>by
  rcases List.mem_cons.mp z with z | z
  ·exact nSI z
  ·exact nSl (List.mem_singleton.mp z)
 have nw : S ∉ [s.heap.objs.size]:=fun z=>nSI (List.mem_singleton.mp z)
 rw [nm]
 have gS : ((s.heap.push { cls:=.type "list_iterator",data:=.fields #[.ref l,.int 0 0] }).push { cls:=.type "list",data:=.seq ([] : List Value).toArray }).get? S = some { cls:=.type "list",data:=.seq ([] : List Value).toArray }:=by rw [← hS]; exact Heap.get?_push_size _ rfl
 have st : (s.heap.push { cls:=.type "list_iterator",data:=.fields #[.ref l,.int 0 0] }).IsListIter s.heap.objs.size l 0 ∧ (s.heap.push { cls:=.type "list_iterator",data:=.fields #[.ref l,.int 0 0] }).IsList l #[v]:=⟨⟨_,Heap.get?_push_size _ rfl,rfl,rfl⟩,hl.push _⟩
 have st':=W.frame 0 _ ((s.heap.push { cls:=.type "list_iterator",data:=.fields #[.ref l,.int 0 0] }).push { cls:=.type "list",data:=.seq ([] : List Value).toArray }) st fun b _ o e=>Heap.get?_push_of_some _ e
 have kp : ∀ b o,s.heap.get? b = some o → ((s.heap.push { cls:=.type "list_iterator",data:=.fields #[.ref l,.int 0 0] }).push { cls:=.type "list",data:=.seq ([] : List Value).toArray }).get? b = some o ∧ b ∉ [s.heap.objs.size] ∧ b ≠ S:=fun b o e=>by
  have hb:=Heap.lt_size e
  refine ⟨Heap.get?_push_of_some _ (Heap.get?_push_of_some _ e),fun z=>?_,by rw [eS]; exact Nat.ne_of_lt (Nat.lt_succ_of_lt hb)⟩
  rw [List.mem_singleton.mp z] at hb; exact Nat.lt_irrefl _ hb
 refine wpAny_pure ⟨plainId_quiet PySem.F.plain_min_loop _,codeAny_builtin PySem.F.entry_min_loop ?_⟩
 rw [Around.under_plainId PySem.F.plain_min_loop _]
 show wpAny _ A.in1 (seqItems? (.ref S) >>= _) _ _ _
 refine wpAny_bind (wpAny_seqItems gS rfl ?_)
 show wpAny _ A.in1 (tryCatch (pyNext (.ref s.heap.objs.size)) _ >>= _) _ _ _
 refine wpAny_bind (wpAny_tryCatch (W.item 0 _ _ _ (by decide : 0 < 1) st' fun v2 h1' tk gv st1 k1=>?_))
 have ev : v2 = v:=(Option.some.inj gv).symm
 subst ev
 have gS1:=k1 S _ nw gS
 show wpAny _ A.in1 (updateSeq S (fun _=>#[v2,v2]) >>= _) _ _ _
 refine wpAny_bind (wpAny_updateSeq gS1 rfl ?_)
 rw [nm]
 have gS2:=Heap.get?_update_self (Obj.mapSeq fun _=>#[v2,v2]) gS1 rfl
 have st2:=W.frame 1 _ (h1'.update S (Obj.mapSeq fun _=>#[v2,v2])) st1 fun b bf o e=>(Heap.get?_update_other _ _ (fun z : S = b=>nf (z ▸ bf))).trans e
 refine wpAny_pure ⟨plainId_quiet PySem.F.plain_min_loop _,codeAny_builtin PySem.F.entry_min_loop ?_⟩
 rw [Around.under_plainId PySem.F.plain_min_loop _]
 show wpAny _ A.in1 (seqItems? (.ref S) >>= _) _ _ _
 refine wpAny_bind (wpAny_seqItems gS2 rfl ?_)
 show wpAny _ A.in1 (tryCatch (pyNext (.ref s.heap.objs.size)) _ >>= _) _ _ _
 refine wpAny_bind (wpAny_tryCatch (W.done _ _ _ st2 fun h3 tk3 k3=>?_))
 have gS3:=k3 S _ nw gS2
 show wpAny _ A.in1 (updateSeq S (fun _=>#[]) >>= _) _ _ _
 refine wpAny_bind (wpAny_updateSeq gS3 rfl (wpAny_bind (wpAny_letGo (wpAny_pure ?_))))
 refine h _ tk3 fun b o e=>?_
 obtain ⟨a1,a2,a3⟩:=kp b o e
 exact (Heap.get?_update_other _ _ (Ne.symm a3)).trans (k3 b o a2 ((Heap.get?_update_other _ _ (Ne.symm a3)).trans (k1 b o a2 a1)))
section
variable {X : Cx} {K : PySem.W.Frag}
theorem Ja9 (hc : X.calm = true) (h : X.K = K) : J1p X (.builtin "min") (fun xs H Q=>∃ (D : Addr) (v : V),xs = [.ref D] ∧ SqL K H D [v] ∧ Q v H):=by
 subst h
 intro pins s σ H xs us Q I r h
 obtain ⟨D,v,rfl,hq,q⟩:=h
 obtain ⟨u,rfl,ru⟩:=r.one
 cases ru
 obtain ⟨its,rv,pl,_⟩:=I.list hq
 obtain ⟨u,rfl,ru⟩:=rv.one
 exact Jc2 (I.ok.hd hc) pl.isList fun h' tk hk=>⟨v,H,I.kept (fun b o e=>hk b o e),ru,q⟩
theorem J2F (h : X.K = K) : J1p X (.type "tuple") (fun xs H Q=>∃ p ys,xs = [.ref p] ∧ SqL K H p ys ∧ ∀ l,H l = none → Q (.ref l) (upd H l (.tup ys))):=by
 subst h
 intro pins s σ H xs us Q I r h
 obtain ⟨p,ys,rfl,hq,q⟩:=h
 exact J6G pins s σ H _ us Q I r ⟨p,ys,rfl,.inl ⟨hq,q⟩⟩
end
noncomputable def Itd (lo : Int) (n : Nat) : It:=⟨fun i _=>i < n,fun i H x H'=>H' = H ∧ x = .int (lo - i),fun i _=>n ≤ i⟩
theorem Jai {P : Program} {w : World} {K : PySem.W.Frag} {tg : Expr} (it : Addr) (lo : Int) (n : Nat) : Turn P w K tg (Itd lo n) [it] it (fun i h=>IsRangeIter h it (lo + (i : Nat) * (-1)) ((n : Int) - (i : Nat)) (-1)) where
 mem:=by simp
 obj:=fun i h st b hb=>by
  rw [List.mem_singleton.mp hb]
  exact ⟨_,st,fun v z=>by
   have z' : Data.fields _ = Data.cell v:=z
   cases z'⟩
 keep:=fun i h h' st k=>k it (by simp) _ st
 item:=by
  intro X hP hw hK hc i pins s σ H E I hf st hg
  subst hP hw hK
  obtain ⟨f0,f1,f2,f3,f4,f5⟩:=hf it (by simp)
  have W:=Walks.range (prog:=X.prog) (w:=X.w) (I.ok.hd hc) it lo (-1) n
  refine W.item i s _ _ hg st fun v h' tk hv st' kk=>?_
  obtain ⟨t,rfl⟩:=hv
  have I1 : Inv X pins σ H { s with heap:=h',toks:=tk }:=I.turned (fun b o hb e=>kk b o (by simpa using hb) e) f0 f1 f3 f4 f5
  refine ⟨_,rfl,J9H (s:={ s with heap:=h',toks:=tk }) (n:="range_iterator") st' rfl rfl (by decide) ⟨.int (lo - i),H,I1,⟨t,?_⟩,⟨rfl,rfl⟩,st',fun b hb=>(hf b hb).1⟩⟩
  rw [show lo + (i : Int) * (-1) = lo - i by omega]
 done:=by
  intro X hP hw hK hc i pins s σ H E I hf st hg
  subst hP hw hK
  obtain ⟨f0,f1,f2,f3,f4,f5⟩:=hf it (by simp)
  exact wpAny_pyNext_range_end (I.ok.hd hc) st (by have : n ≤ i:=hg; omega) fun h' eb=>⟨rfl,I.turned (t':=s.toks) (fun b o hb e=>eb b o hb e) f0 f1 f3 f4 f5⟩
 self:=fun _ _ _ _ _ st h=>wpAny_pyIter_rangeiter st h
section
variable {X : Cx} {tg : Expr}
noncomputable def Jeo (ta : TA) : TI:=fun σ H R=>ta σ H fun vs H1=>∃ i : Int,vs = [.int i,.int 0,.int (-1)] ∧ 0 ≤ i ∧ i < 1000000 ∧ R (Itd i i.toNat) H1
theorem J72 {i : Int} (h0 : 0 ≤ i) : Builtin.Range.rangeSize i 0 (-1) = i:=by
 unfold Builtin.Range.rangeSize
 simp only [show ¬ ((-1 : Int) > 0) by decide,if_false,show -(-1 : Int) = 1 by decide,Int.ediv_one]
 split <;> omega
theorem J9l {i : Int} (h0 : 0 ≤ i) (h1 : i < 1000000) : Builtin.Range.small i 0 (-1) = true:=by
 unfold Builtin.Range.small
 rw [J72 h0]
 simp only [Builtin.Range.rangeFitsLong,Bool.and_eq_true,Bool.or_eq_true,decide_eq_true_eq,beq_iff_eq,show ¬ ((-1 : Int) > 0) by decide,if_false]
 omega
theorem Jax {a b c : Expr} {ta : TA} {p pos : Pos} (hg : Gl X "range") (hm : X.mg "range" = none) (ha : PA X [a,b,c] ta) (hs : starEach [a,b,c] X.env = [(false,eval a X.env),(false,eval b X.env),(false,eval c X.env)]:=by rfl)
  (hs2 : starEach [b,c] X.env = [(false,eval b X.env),(false,eval c X.env)]:=by rfl) :
  PI X tg (.Call (.Name "range" p) [a,b,c] [] pos) (Jeo ta):=by
 intro pins s σ H R I h
 refine Call_ (J2q I hg hm boot_range (PyProof.Rows.callWith_type1 (thn (ha pos pins s σ H _ I h) fun us s1 ⟨vs,H1,I1,r1,q1⟩=>?_) (by rw [hs,hs2]) (by rw [hs2]; rfl)))
 obtain ⟨i,e,h0,h1,q⟩:=q1
 subst e
 cases r1 with
 | cons r rr =>
  cases rr with
  | cons r' rr =>
   cases rr with
   | cons r'' rr =>
    cases rr
    obtain ⟨t,rfl⟩:=r
    obtain ⟨t',rfl⟩:=r'
    obtain ⟨t'',rfl⟩:=r''
    refine call_range_3 (by decide) (wpAny_pyIter_range (IsRange.new ..) (J9l h0 h1) ?_) (Or.inl ?_)
    ·rw [J72 h0]
     have I2 : Inv X pins σ H1 { s1 with heap:=s1.heap.push { cls:=.type "range",data:=.fields #[.int i t,.int 0 t',.int (-1) t''] },toks:=s1.toks }:=I1.kept fun b o e=>Heap.get?_push_of_some _ e
     refine ⟨_,[_],_,_,H1,rfl,I2.kept (t':=s1.toks) fun b o e=>Heap.get?_push_of_some _ e,Jai _ i i.toNat,?_,fun b hb=>?_,q⟩
     ·show IsRangeIter _ _ (i + ((0 : Nat) : Int) * (-1)) (((i.toNat : Nat) : Int) - ((0 : Nat) : Int)) (-1)
      rw [show i + ((0 : Nat) : Int) * (-1) = i by simp,show ((i.toNat : Nat) : Int) - ((0 : Nat) : Int) = i by omega]
      exact Heap.get?_push_size _ rfl
     ·rw [List.mem_singleton.mp hb]
      exact I2.fpOk (Nat.le_refl _) (I2.hok.fresh (Nat.le_refl _))
    ·exact PyProof.noPylong_small (by omega)
end
theorem Jbo {lo : Int} {n : Nat} {g : TG} {tb : TS} {D : Ends} {σ : St} {H : Hp} (Pv : Nat → St → Hp → Prop) (h0 : Pv 0 σ H)
  (hs : ∀ i σ H,i < n → Pv i σ H → g (.int (lo - i)) σ H fun σ2 H2=>tb { D with nx:=Pv (i + 1),ct:=Pv (i + 1),bk:=D.nx } σ2 H2) (hd : ∀ σ H,Pv n σ H → D.nx σ H) :
  ∃ W : Nat → Nat → St → Hp → Prop,(∃ m,W 0 m σ H) ∧ ∀ i m σ H,W i m σ H →
   ((Itd lo n).stop i H ∧ D.nx σ H) ∨ ((Itd lo n).go i H ∧ ∃ N : St → Hp → Prop,(∀ σ' H',N σ' H' → ∃ m',m' < m ∧ W (i + 1) m' σ' H') ∧ ∀ x H',(Itd lo n).yld i H x H' → g x σ H' fun σ2 H2=>tb { D with nx:=N,ct:=N,bk:=D.nx } σ2 H2):=by
 refine ⟨fun i m σ H=>m = n - i ∧ i ≤ n ∧ Pv i σ H,⟨n,by simp,Nat.zero_le _,h0⟩,?_⟩
 rintro i m σ H ⟨rfl,hi,p⟩
 by_cases hlt : i < n
 ·refine .inr ⟨hlt,Pv (i + 1),fun σ' H' p'=>⟨n - (i + 1),by omega,rfl,hlt,p'⟩,fun x H' y=>?_⟩
  obtain ⟨rfl,rfl⟩:=y
  exact hs i σ H' hlt p
 ·have e : i = n:=by omega
  subst e
  exact .inl ⟨Nat.le_refl _,hd σ H p⟩
end L2
namespace L2
open PySem PySem.Spec PyProof.Rows
noncomputable def EnAt (H : Hp) (t : Addr) (k : PKy) (c : Int) : Prop:=∃ a b,H t = some (.tup [.ref a,.ref b,.int c]) ∧ H a = some (.tup (k.1.map kV)) ∧ H b = some (.tup (k.2.map kV))
noncomputable def PgAt (H : Hp) (p : Addr) (es : List (PKy × Int)) : Prop:=∃ ts : List Addr,H p = some (.lst (ts.map V.ref)) ∧ ts.length = es.length ∧ ∀ (i : Nat) t e,ts[i]? = some t → es[i]? = some e → EnAt H t e.1 e.2
noncomputable def PsAt (H : Hp) (p : Addr) (ps : List (List (PKy × Int))) : Prop:=∃ ts : List Addr,H p = some (.lst (ts.map V.ref)) ∧ ts.length = ps.length ∧ ∀ (i : Nat) t e,ts[i]? = some t → ps[i]? = some e → PgAt H t e
theorem EnAt.same {H H' : Hp} {t : Addr} {k : PKy} {c : Int} (h : EnAt H t k c) (s : Same H H') : EnAt H' t k c:=let ⟨a,b,h1,h2,h3⟩:=h; ⟨a,b,s _ _ h1,s _ _ h2,s _ _ h3⟩
theorem PgAt.same {H H' : Hp} {p : Addr} {es : List (PKy × Int)} (h : PgAt H p es) (s : Same H H') : PgAt H' p es:=let ⟨ts,h1,h2,h3⟩:=h; ⟨ts,s _ _ h1,h2,fun i t e a b=>(h3 i t e a b).same s⟩
theorem PsAt.same {H H' : Hp} {p : Addr} {es : List (List (PKy × Int))} (h : PsAt H p es) (s : Same H H') : PsAt H' p es:=let ⟨ts,h1,h2,h3⟩:=h; ⟨ts,s _ _ h1,h2,fun i t e a b=>(h3 i t e a b).same s⟩
theorem J3c : ∀ k : List Key,(k.map kV).all J1D = true
 | []=>rfl
 | .inl _ :: k=>by rw [List.map_cons,List.all_cons,J3c k]; rfl
 | .inr _ :: k=>by rw [List.map_cons,List.all_cons,J3c k]; rfl
section
variable {X : Cx} {K : PySem.W.Frag} {pins : List (Addr × Obj)} {σ : St} {H : Hp} {s : Shared} {A : Around}
theorem J7b (hu : A.units + 1 < cLine) : A.in1.units < cLine:=hu
theorem Jce {t r : Addr} {k : PKy} {c : Int} (I : Inv X pins σ H s) (h1 : EnAt H t k c) (h2 : EnAt H r k c) (hu : A.units + 1 < cLine) : SeqAt.EqAt A s (.ref t) (.ref r) true:=by
 by_cases e : t = r
 ·subst e; exact SeqAt.EqAt.same _
 obtain ⟨a,b,g1,ga,gb⟩:=h1
 obtain ⟨a',b',g2,ga',gb'⟩:=h2
 obtain ⟨ia,ra,pa,_⟩:=I.tuple (SqT.of g1)
 obtain ⟨ib,rb,pb,_⟩:=I.tuple (SqT.of g2)
 cases ra with
 | cons r1 ra =>
 cases ra with
 | cons r2 ra =>
 cases ra with
 | cons r3 ra =>
 cases ra
 cases rb with
 | cons q1 rb =>
 cases rb with
 | cons q2 rb =>
 cases rb with
 | cons q3 rb =>
 cases rb
 cases r1; cases r2; cases q1; cases q2
 obtain ⟨tk,rfl⟩:=r3
 obtain ⟨tk',rfl⟩:=q3
 have e3 : SeqAt.EqAt A.in1 s (.int c tk) (.int c tk') true:=by
  have q:=J9d (A:=A.in1) (s:=s) (x:=V.int c) (y:=V.int c) ⟨tk,rfl⟩ ⟨tk',rfl⟩ rfl rfl
  have e : eqV (V.int c) (V.int c) = true:=by have:=J3D (xs:=[V.int c]) rfl; simpa [eqVs] using this
  rw [e] at q
  exact q
 have ea:=J8x (A:=A.in1) I (SqT.of ga) (SqT.of ga') (J3c _) (J3c _) (J7b hu)
 have eb:=J8x (A:=A.in1) I (SqT.of gb) (SqT.of gb') (J3c _) (J3c _) (J7b hu)
 rw [J3D (J3c _)] at ea eb
 have q:=SeqAt.RcAt.tuples (A:=A) (e:=fun _=>true) (show s.heap.IsTuple t _ from pa) (show s.heap.IsTuple r _ from pb) (Nat.lt_of_succ_lt hu) (fun j j1 j2=>by
  have hj : j < 3:=j1
  rcases j with _ | _ | _ | j
  ·exact ea
  ·exact eb
  ·exact e3
  ·omega)
 exact SeqAt.EqAt.of_refs e q
theorem Jci {t r : Addr} {es : List (PKy × Int)} (I : Inv X pins σ H s) (h1 : PgAt H t es) (h2 : PgAt H r es) (hu : A.units + 2 < cLine) : SeqAt.EqAt A s (.ref t) (.ref r) true:=by
 by_cases e : t = r
 ·subst e; exact SeqAt.EqAt.same _
 obtain ⟨ts,g1,l1,k1⟩:=h1
 obtain ⟨rs,g2,l2,k2⟩:=h2
 obtain ⟨ia,ra,pa,_⟩:=I.list (SqL.of (K:=X.K) g1)
 obtain ⟨ib,rb,pb,_⟩:=I.list (SqL.of (K:=X.K) g2)
 have la:=ra.length
 have lb:=rb.length
 rw [List.length_map] at la lb
 have q:=SeqAt.RcAt.lists (A:=A) (e:=fun _=>true) pa.isList pb.isList (by simp; omega) (by omega) (fun j j1 j2=>by
  have i1 : j < ts.length:=by simp at j1; omega
  have i2 : j < rs.length:=by simp at j2; omega
  have i3 : j < es.length:=by omega
  have u1:=ra.rel j (by rw [List.length_map]; exact i1) (by omega)
  have u2:=rb.rel j (by rw [List.length_map]; exact i2) (by omega)
  have:=Jce (A:=A.in1) I (k1 j ts[j] es[j] (List.getElem?_eq_getElem i1) (List.getElem?_eq_getElem i3)) (k2 j rs[j] es[j] (List.getElem?_eq_getElem i2) (List.getElem?_eq_getElem i3)) (show A.units + 1 + 1 < cLine from hu)
  rw [List.getElem_map] at u1 u2
  have v1 : ia[j] = Value.ref ts[j]:=u1
  have v2 : ib[j] = Value.ref rs[j]:=u2
  simpa [v1,v2] using this)
 rw [J8H] at q
 exact SeqAt.EqAt.of_refs e q
noncomputable def Jee (K : PySem.W.Frag) : R2:=fun x y H Q=>∃ p r ps,x = .ref p ∧ y = .ref r ∧ PsAt H p ps ∧ PsAt H r ps ∧ Q (.bl false) H
theorem Jck (h : X.K = K) (hu : X.A.units + 3 < cLine) : OpR X (compareOp .NotEq) (Jee K):=by
 subst h
 intro pins s σ H x y v u Q I rx ry h
 obtain ⟨p,r,ps,rfl,rfl,⟨ts,g1,l1,k1⟩,⟨rs,g2,l2,k2⟩,q⟩:=h
 cases rx; cases ry
 obtain ⟨ia,ra,pa,_⟩:=I.list (SqL.of (K:=X.K) g1)
 obtain ⟨ib,rb,pb,_⟩:=I.list (SqL.of (K:=X.K) g2)
 have la:=ra.length
 have lb:=rb.length
 rw [List.length_map] at la lb
 refine SeqAt.RcNeAt.lists (e:=fun _=>true) pa.isList pb.isList (by simp; omega) (by omega) (fun j j1 j2=>?_) _ _ _ _ ⟨.bl _,H,I,rfl,?_⟩
 ·have i1 : j < ts.length:=by simp at j1; omega
  have i2 : j < rs.length:=by simp at j2; omega
  have i3 : j < ps.length:=by omega
  have u1:=ra.rel j (by rw [List.length_map]; exact i1) (by omega)
  have u2:=rb.rel j (by rw [List.length_map]; exact i2) (by omega)
  have:=Jci (A:=X.A.in1) I (k1 j ts[j] ps[j] (List.getElem?_eq_getElem i1) (List.getElem?_eq_getElem i3)) (k2 j rs[j] ps[j] (List.getElem?_eq_getElem i2) (List.getElem?_eq_getElem i3)) (show X.A.units + 1 + 2 < cLine by omega)
  rw [List.getElem_map] at u1 u2
  have v1 : ia[j] = Value.ref ts[j]:=u1
  have v2 : ib[j] = Value.ref rs[j]:=u2
  simpa [v1,v2] using this
 ·rw [J8H]
  exact q
theorem JdJ {A : Around} {k : Nat} (hr : Room k A) : A.units + 3 < cLine:=Nat.lt_of_le_of_lt (Nat.add_le_add_left (by decide : 3 ≤ 64) _) hr.units
end
end L2
set_option linter.all false
set_option maxRecDepth 100000
set_option maxHeartbeats 4000000
namespace L2
open PySem PySem.Spec PyProof.Rows
open Builtin Builtin.Str
section
variable {prog : Program} {w : World} {A : Around} {E : Value → Shared → Prop} {s : Shared}
theorem Jas {z TI TO i1 i2 : Addr} {k n1 n2 : Nat} {P1 P2 : Nat → Value → Prop} {St1 St2 : Nat → Heap → Prop} {a b : Value} {Q : Value → Shared → Prop} (F : J3h z TI TO i1 i2)
  (fr1 : ∀ i h h',St1 i h → (∀ b o,b ≠ z → b ≠ TO → b ≠ i2 → h.get? b = some o → h'.get? b = some o) → St1 i h') (fr2 : ∀ i h h',St2 i h → (∀ b o,b ≠ z → b ≠ TO → b ≠ i1 → h.get? b = some o → h'.get? b = some o) → St2 i h')
  (it1 : ∀ (i : Nat) (s : Shared) (Q : Value → Shared → Prop) (E : Value → Shared → Prop),i < n1 → St1 i s.heap → (∀ v h' tk,P1 i v → St1 (i + 1) h' → Heap.SameBut i1 s.heap h' → Q v { s with heap:=h',toks:=tk }) → wpAny (model prog w) A (Builtin.SmallTypes.nextOf (.ref i1)) Q E s)
  (it2 : ∀ (i : Nat) (s : Shared) (Q : Value → Shared → Prop) (E : Value → Shared → Prop),i < n2 → St2 i s.heap → (∀ v h' tk,P2 i v → St2 (i + 1) h' → Heap.SameBut i2 s.heap h' → Q v { s with heap:=h',toks:=tk }) → wpAny (model prog w) A (Builtin.SmallTypes.nextOf (.ref i2)) Q E s)
  (hz : IsZip s.heap z TI TO .none) (hTI : IsPair s.heap TI (.ref i1) (.ref i2)) (hTO : IsPair s.heap TO a b)
  (h1 : St1 k s.heap) (h2 : St2 k s.heap) (hk1 : k < n1) (hk2 : k < n2)
  (hQ : ∀ x y h' tk,P1 k x → P2 k y → IsZip h' z TI TO (rawInt s.heap.objs.size) → IsPair h' TO x y → St1 (k + 1) h' → St2 (k + 1) h' → IsPair h' s.heap.objs.size x y → h'.objs.size = s.heap.objs.size + 1 →
   (∀ c o,c ≠ z → c ≠ TO → c ≠ i1 → c ≠ i2 → s.heap.get? c = some o → h'.get? c = some o) → Q (.ref s.heap.objs.size) { s with heap:=h',toks:=tk }) :
  wpAny (model prog w) A (Builtin.«zip.__next__» ⟨[.ref z],[]⟩) (fun fin s'=>∃ v,fin = .done (.ret v) ∧ Q v s') E s:=by
 show wpAny _ _ (field (.ref z) 2 >>= _) _ _ _
 refine wpAny_bind (wpAny_field hz rfl (x:=.bool false) rfl ?_)
 show wpAny _ _ (field (.ref z) 3 >>= _) _ _ _
 refine wpAny_bind (wpAny_field hz rfl (x:=.ref TI) rfl ?_)
 refine wpAny_bind (wpAny_seqItems hTI rfl ?_)
 show wpAny _ _ (Builtin.SmallTypes.ownedTupleIsFree (.ref z) >>= _) _ _ _
 refine wpAny_bind ?_
 unfold Builtin.SmallTypes.ownedTupleIsFree
 refine wpAny_bind (wpAny_field hz rfl (x:=.none) rfl (wpAny_pure ?_))
 simp only [if_true]
 refine wpAny_bind (wpAny_rule ?_)
 refine wpAny_bind (wpAny_field hz rfl (x:=.ref TO) rfl ?_)
 refine wpAny_bind (wpAny_setField_rec hz (by simp) fun h₁ hz₁ hs₁=>?_)
 replace hz₁ : IsZip h₁ z TI TO .ellipsis:=hz₁
 refine wpAny_bind ?_
 simp only [List.zipIdx_cons,List.zipIdx_nil,List.forIn_cons,List.forIn_nil]
 refine wpAny_bind (wpAny_bind (wpAny_onRaise ?_))
 show wpAny _ _ (Builtin.SmallTypes.nextOf (.ref i1) >>= _) _ _ _
 refine wpAny_bind (it1 k _ _ _ hk1 (fr1 _ _ _ h1 fun b o b1 b2 b3 e=>hs₁.extBut _ _ b1 e) fun x h₂ tk₂ hx h1₂ hs₂=>wpAny_pure ?_)
 replace hs₂ : Heap.SameBut i1 h₁ h₂:=hs₂
 have hTO₂ : IsPair h₂ TO a b:=hs₂.extBut _ _ F.TOi1 (hs₁.extBut _ _ F.TOz hTO)
 refine wpAny_bind (wpAny_seqItems hTO₂ rfl ?_)
 refine wpAny_bind (wpAny_updateSeq_pair hTO₂ fun h₃ hTO₃ hs₃=>?_)
 replace hTO₃ : IsPair h₃ TO x b:=hTO₃
 replace hs₃ : Heap.SameBut TO h₂ h₃:=hs₃
 refine wpAny_bind (wpAny_letGo (wpAny_pure ?_))
 refine wpAny_bind (wpAny_bind (wpAny_onRaise ?_))
 show wpAny _ _ (Builtin.SmallTypes.nextOf (.ref i2) >>= _) _ _ _
 refine wpAny_bind (it2 k _ _ _ hk2 (fr2 _ _ _ h2 fun b o b1 b2 b3 e=>hs₃.extBut _ _ b2 (hs₂.extBut _ _ b3 (hs₁.extBut _ _ b1 e))) fun y h₄ tk₄ hy h2₄ hs₄=>wpAny_pure ?_)
 replace hs₄ : Heap.SameBut i2 h₃ h₄:=hs₄
 have hTO₄ : IsPair h₄ TO x b:=hs₄.extBut _ _ F.TOi2 hTO₃
 refine wpAny_bind (wpAny_seqItems hTO₄ rfl ?_)
 refine wpAny_bind (wpAny_updateSeq_pair hTO₄ fun h₅ hTO₅ hs₅=>?_)
 replace hTO₅ : IsPair h₅ TO x y:=hTO₅
 replace hs₅ : Heap.SameBut TO h₄ h₅:=hs₅
 refine wpAny_bind (wpAny_letGo (wpAny_pure (wpAny_pure ?_)))
 refine wpAny_bind (wpAny_seqItems hTO₅ rfl ?_)
 refine wpAny_bind (wpAny_newTuple ?_)
 have hsz : h₅.objs.size = s.heap.objs.size:=by rw [hs₅.1,hs₄.1,hs₃.1,hs₂.1,hs₁.1]
 have hz₅ : IsZip h₅ z TI TO .ellipsis:=hs₅.extBut _ _ F.TOz.symm (hs₄.extBut _ _ F.i2z.symm (hs₃.extBut _ _ F.TOz.symm (hs₂.extBut _ _ F.i1z.symm hz₁)))
 have hk₅ : ∀ c o,c ≠ z → c ≠ TO → c ≠ i1 → c ≠ i2 → s.heap.get? c = some o → h₅.get? c = some o:=fun c o c1 c2 c3 c4 e =>
  hs₅.extBut _ _ c2 (hs₄.extBut _ _ c4 (hs₃.extBut _ _ c2 (hs₂.extBut _ _ c3 (hs₁.extBut _ _ c1 e))))
 have h1₅ : St1 (k + 1) h₅:=fr1 _ _ _ h1₂ fun b o b1 b2 b3 e=>hs₅.extBut _ _ b2 (hs₄.extBut _ _ b3 (hs₃.extBut _ _ b2 e))
 have h2₅ : St2 (k + 1) h₅:=fr2 _ _ _ h2₄ fun b o b1 b2 b3 e=>hs₅.extBut _ _ b2 e
 have hzlt : z < h₅.objs.size:=Heap.lt_size hz₅
 show wpAny _ _ (Builtin.SmallTypes.ownedTupleHandOut (.ref z) (.ref h₅.objs.size) >>= _) _ _ _
 refine wpAny_bind ?_
 unfold Builtin.SmallTypes.ownedTupleHandOut
 have hz₆ : IsZip (h₅.push { cls:=.type "tuple",data:=.seq #[x,y] }) z TI TO .ellipsis:=Heap.get?_push_of_some _ hz₅
 refine wpAny_bind (wpAny_setField_rec hz₆ (by simp) fun h₇ hz₇ hs₇=>?_)
 replace hz₇ : IsZip h₇ z TI TO (rawInt h₅.objs.size):=hz₇
 replace hs₇ : Heap.SameBut z (h₅.push { cls:=.type "tuple",data:=.seq #[x,y] }) h₇:=hs₇
 refine wpAny_setField_rec hz₇ (by simp) fun h₈ hz₈ hs₈=>?_
 replace hz₈ : IsZip h₈ z TI TO (rawInt h₅.objs.size):=hz₈
 replace hs₈ : Heap.SameBut z h₇ h₈:=hs₈
 have up : ∀ c o,c ≠ z → h₅.get? c = some o → h₈.get? c = some o:=fun c o c1 e=>hs₈.extBut _ _ c1 (hs₇.extBut _ _ c1 (Heap.get?_push_of_some _ e))
 have hT₈ : IsPair h₈ h₅.objs.size x y:=hs₈.extBut _ _ (Nat.ne_of_gt hzlt) (hs₇.extBut _ _ (Nat.ne_of_gt hzlt) (Heap.get?_push_size _ rfl))
 have hz8 : h₈.objs.size = h₅.objs.size + 1:=by rw [hs₈.1,hs₇.1,Heap.size_push]
 rw [hsz] at hz₈ hT₈ hz8
 refine wpAny_pure ⟨_,rfl,?_⟩
 show Q (.ref h₅.objs.size) _
 rw [hsz]
 exact hQ x y h₈ tk₄ hx hy hz₈ (up _ _ F.TOz hTO₅) (fr1 _ _ _ h1₅ fun b o b1 b2 b3 e=>up _ o b1 e) (fr2 _ _ _ h2₅ fun b o b1 b2 b3 e=>up _ o b1 e) hT₈ hz8 fun c o c1 c2 c3 c4 e=>up c o c1 (hk₅ c o c1 c2 c3 c4 e)
theorem Jbd {z TI TO i1 i2 : Addr} {k n1 n2 : Nat} {P1 P2 : Nat → Value → Prop} {St1 St2 : Nat → Heap → Prop} {a b : Value} {Q : Fin → Shared → Prop} (F : J3h z TI TO i1 i2)
  (fr1 : ∀ i h h',St1 i h → (∀ b o,b ≠ z → b ≠ TO → b ≠ i2 → h.get? b = some o → h'.get? b = some o) → St1 i h') (fr2 : ∀ i h h',St2 i h → (∀ b o,b ≠ z → b ≠ TO → b ≠ i1 → h.get? b = some o → h'.get? b = some o) → St2 i h')
  (it1 : ∀ (i : Nat) (s : Shared) (Q : Value → Shared → Prop) (E : Value → Shared → Prop),i < n1 → St1 i s.heap → (∀ v h' tk,P1 i v → St1 (i + 1) h' → Heap.SameBut i1 s.heap h' → Q v { s with heap:=h',toks:=tk }) → wpAny (model prog w) A (Builtin.SmallTypes.nextOf (.ref i1)) Q E s)
  (it2 : ∀ (i : Nat) (s : Shared) (Q : Value → Shared → Prop) (E : Value → Shared → Prop),i < n2 → St2 i s.heap → (∀ v h' tk,P2 i v → St2 (i + 1) h' → Heap.SameBut i2 s.heap h' → Q v { s with heap:=h',toks:=tk }) → wpAny (model prog w) A (Builtin.SmallTypes.nextOf (.ref i2)) Q E s)
  (dn1 : ∀ (s : Shared) (Q : Value → Shared → Prop) (E : Value → Shared → Prop),St1 n1 s.heap → (∀ h' e,Heap.ExtBut i1 s.heap h' → (∃ o,h'.get? e = some o ∧ o.cls = .type "StopIteration") → E (.ref e) { s with heap:=h' }) → wpAny (model prog w) A (Builtin.SmallTypes.nextOf (.ref i1)) Q E s)
  (dn2 : ∀ (s : Shared) (Q : Value → Shared → Prop) (E : Value → Shared → Prop),St2 n2 s.heap → (∀ h' e,Heap.ExtBut i2 s.heap h' → (∃ o,h'.get? e = some o ∧ o.cls = .type "StopIteration") → E (.ref e) { s with heap:=h' }) → wpAny (model prog w) A (Builtin.SmallTypes.nextOf (.ref i2)) Q E s)
  (hz : IsZip s.heap z TI TO .none) (hTI : IsPair s.heap TI (.ref i1) (.ref i2)) (hTO : IsPair s.heap TO a b)
  (h1 : St1 k s.heap) (h2 : St2 k s.heap) (hend : k = n1 ∨ (k < n1 ∧ k = n2))
  (hE : ∀ h' tk e,(∀ c o,c ≠ z → c ≠ TO → c ≠ i1 → c ≠ i2 → s.heap.get? c = some o → h'.get? c = some o) → (∃ o,h'.get? e = some o ∧ o.cls = .type "StopIteration") → E (.ref e) { s with heap:=h',toks:=tk }) :
  wpAny (model prog w) A (Builtin.«zip.__next__» ⟨[.ref z],[]⟩) Q E s:=by
 show wpAny _ _ (field (.ref z) 2 >>= _) _ _ _
 refine wpAny_bind (wpAny_field hz rfl (x:=.bool false) rfl ?_)
 show wpAny _ _ (field (.ref z) 3 >>= _) _ _ _
 refine wpAny_bind (wpAny_field hz rfl (x:=.ref TI) rfl ?_)
 refine wpAny_bind (wpAny_seqItems hTI rfl ?_)
 show wpAny _ _ (Builtin.SmallTypes.ownedTupleIsFree (.ref z) >>= _) _ _ _
 refine wpAny_bind ?_
 unfold Builtin.SmallTypes.ownedTupleIsFree
 refine wpAny_bind (wpAny_field hz rfl (x:=.none) rfl (wpAny_pure ?_))
 simp only [if_true]
 refine wpAny_bind (wpAny_rule ?_)
 refine wpAny_bind (wpAny_field hz rfl (x:=.ref TO) rfl ?_)
 refine wpAny_bind (wpAny_setField_rec hz (by simp) fun h₁ hz₁ hs₁=>?_)
 replace hz₁ : IsZip h₁ z TI TO .ellipsis:=hz₁
 refine wpAny_bind ?_
 simp only [List.zipIdx_cons,List.zipIdx_nil,List.forIn_cons,List.forIn_nil]
 refine wpAny_bind (wpAny_bind (wpAny_onRaise ?_))
 show wpAny _ _ (Builtin.SmallTypes.nextOf (.ref i1) >>= _) _ _ _
 rcases hend with hk | ⟨hk1,hk⟩
 ·subst hk
  refine wpAny_bind (dn1 _ _ _ (fr1 _ _ _ h1 fun b o b1 b2 b3 e=>hs₁.extBut _ _ b1 e) fun h₂ e hs₂ he=>?_)
  obtain ⟨oe,hoe,hce⟩:=he
  replace hs₂ : Heap.ExtBut i1 h₁ h₂:=hs₂
  have hz₂ : IsZip h₂ z TI TO .ellipsis:=hs₂ _ _ F.i1z.symm hz₁
  have hez : e ≠ z:=fun x=>by subst x; rw [hz₂] at hoe; cases hoe; simp at hce
  exact wpAny_setField_rec hz₂ (by simp) fun h₃ _ hs₃=>hE h₃ _ e (fun c o c1 _ c3 _ x=>hs₃.extBut _ _ c1 (hs₂ _ _ c3 (hs₁.extBut _ _ c1 x))) ⟨oe,hs₃.extBut _ _ hez hoe,hce⟩
 ·subst hk
  refine wpAny_bind (it1 k _ _ _ hk1 (fr1 _ _ _ h1 fun b o b1 b2 b3 e=>hs₁.extBut _ _ b1 e) fun x h₂ tk₂ hx h1₂ hs₂=>wpAny_pure ?_)
  replace hs₂ : Heap.SameBut i1 h₁ h₂:=hs₂
  have hTO₂ : IsPair h₂ TO a b:=hs₂.extBut _ _ F.TOi1 (hs₁.extBut _ _ F.TOz hTO)
  refine wpAny_bind (wpAny_seqItems hTO₂ rfl ?_)
  refine wpAny_bind (wpAny_updateSeq_pair hTO₂ fun h₃ hTO₃ hs₃=>?_)
  replace hs₃ : Heap.SameBut TO h₂ h₃:=hs₃
  refine wpAny_bind (wpAny_letGo (wpAny_pure ?_))
  refine wpAny_bind (wpAny_bind (wpAny_onRaise ?_))
  show wpAny _ _ (Builtin.SmallTypes.nextOf (.ref i2) >>= _) _ _ _
  refine wpAny_bind (dn2 _ _ _ (fr2 _ _ _ h2 fun b o b1 b2 b3 e=>hs₃.extBut _ _ b2 (hs₂.extBut _ _ b3 (hs₁.extBut _ _ b1 e))) fun h₄ e hs₄ he=>?_)
  obtain ⟨oe,hoe,hce⟩:=he
  replace hs₄ : Heap.ExtBut i2 h₃ h₄:=hs₄
  have hz₄ : IsZip h₄ z TI TO .ellipsis:=hs₄ _ _ F.i2z.symm (hs₃.extBut _ _ F.TOz.symm (hs₂.extBut _ _ F.i1z.symm hz₁))
  have hez : e ≠ z:=fun x=>by subst x; rw [hz₄] at hoe; cases hoe; simp at hce
  exact wpAny_setField_rec hz₄ (by simp) fun h₅ _ hs₅=>hE h₅ _ e (fun c o c1 c2 c3 c4 x=>hs₅.extBut _ _ c1 (hs₄ _ _ c4 (hs₃.extBut _ _ c2 (hs₂.extBut _ _ c3 (hs₁.extBut _ _ c1 x))))) ⟨oe,hs₅.extBut _ _ hez hoe,hce⟩
end
structure ZSrc (P : Program) (w : World) (A : Around) (z TO i1 i2 : Addr) (n1 n2 : Nat) (P1 P2 : Nat → Value → Prop) (St1 St2 : Nat → Heap → Prop) : Prop where
 fr1 : ∀ i h h',St1 i h → (∀ b o,b ≠ z → b ≠ TO → b ≠ i2 → h.get? b = some o → h'.get? b = some o) → St1 i h'
 fr2 : ∀ i h h',St2 i h → (∀ b o,b ≠ z → b ≠ TO → b ≠ i1 → h.get? b = some o → h'.get? b = some o) → St2 i h'
 it1 : ∀ (i : Nat) (s : Shared) (Q : Value → Shared → Prop) (E : Value → Shared → Prop),i < n1 → St1 i s.heap → (∀ v h' tk,P1 i v → St1 (i + 1) h' → Heap.SameBut i1 s.heap h' → Q v { s with heap:=h',toks:=tk }) → wpAny (model P w) A (Builtin.SmallTypes.nextOf (.ref i1)) Q E s
 it2 : ∀ (i : Nat) (s : Shared) (Q : Value → Shared → Prop) (E : Value → Shared → Prop),i < n2 → St2 i s.heap → (∀ v h' tk,P2 i v → St2 (i + 1) h' → Heap.SameBut i2 s.heap h' → Q v { s with heap:=h',toks:=tk }) → wpAny (model P w) A (Builtin.SmallTypes.nextOf (.ref i2)) Q E s
 dn1 : ∀ (s : Shared) (Q : Value → Shared → Prop) (E : Value → Shared → Prop),St1 n1 s.heap → (∀ h' e,Heap.ExtBut i1 s.heap h' → (∃ o,h'.get? e = some o ∧ o.cls = .type "StopIteration") → E (.ref e) { s with heap:=h' }) → wpAny (model P w) A (Builtin.SmallTypes.nextOf (.ref i1)) Q E s
 dn2 : ∀ (s : Shared) (Q : Value → Shared → Prop) (E : Value → Shared → Prop),St2 n2 s.heap → (∀ h' e,Heap.ExtBut i2 s.heap h' → (∃ o,h'.get? e = some o ∧ o.cls = .type "StopIteration") → E (.ref e) { s with heap:=h' }) → wpAny (model P w) A (Builtin.SmallTypes.nextOf (.ref i2)) Q E s
theorem J6L {P : Program} {w : World} {K : PySem.W.Frag} {es : List Expr} {k : Nat} {pos : Pos} {J : It} {z TI TO i1 i2 : Addr} (F : J3h z TI TO i1 i2) {tn1 tn2 : Nat → Heap → Prop}
  (o1 : ∀ i h,tn1 i h → ∃ o,h.get? i1 = some o ∧ ∀ v,o.data ≠ .cell v) (o2 : ∀ i h,tn2 i h → ∃ o,h.get? i2 = some o ∧ ∀ v,o.data ≠ .cell v)
  (k1 : ∀ i h h',tn1 i h → (∀ o,h.get? i1 = some o → h'.get? i1 = some o) → tn1 i h') (k2 : ∀ i h h',tn2 i h → (∀ o,h.get? i2 = some o → h'.get? i2 = some o) → tn2 i h')
  (go : ∀ (X : Cx),X.prog = P → X.w = w → X.K = K → X.calm = true → ∀ (i : Nat) (pins : List (Addr × Obj)) (s : Shared) (σ : St) (H : Hp),Inv X pins σ H s → IsZip s.heap z TI TO .none → (∃ a b,IsPair s.heap TO a b) → tn1 i s.heap → tn2 i s.heap → J.go i H →
   ∃ n1 n2 P1 P2 St1 St2,ZSrc P w X.A.in1 z TO i1 i2 n1 n2 P1 P2 St1 St2 ∧ St1 i s.heap ∧ St2 i s.heap ∧ (∀ i h,St1 i h → tn1 i h) ∧ (∀ i h,St2 i h → tn2 i h) ∧ i < n1 ∧ i < n2 ∧ ∀ u v,P1 i u → P2 i v → ∃ x y,RelV x u ∧ RelV y v ∧ ∀ p,H p = none → J.yld i H (.ref p) (upd H p (.tup [x,y])))
  (stop : ∀ (X : Cx),X.prog = P → X.w = w → X.K = K → X.calm = true → ∀ (i : Nat) (pins : List (Addr × Obj)) (s : Shared) (σ : St) (H : Hp),Inv X pins σ H s → IsZip s.heap z TI TO .none → (∃ a b,IsPair s.heap TO a b) → tn1 i s.heap → tn2 i s.heap → J.stop i H →
   ∃ n1 n2 P1 P2 St1 St2,ZSrc P w X.A.in1 z TO i1 i2 n1 n2 P1 P2 St1 St2 ∧ St1 i s.heap ∧ St2 i s.heap ∧ (i = n1 ∨ (i < n1 ∧ i = n2))) :
  Turn P w K (.Tuple es k pos) J [z,TI,TO,i1,i2] z (fun i h=>IsZip h z TI TO .none ∧ IsPair h TI (.ref i1) (.ref i2) ∧ (∃ a b,IsPair h TO a b) ∧ tn1 i h ∧ tn2 i h) where
 mem:=by simp
 obj:=fun i h st b hb=>by
  obtain ⟨hz,hTI,⟨a,b',hTO⟩,t1,t2⟩:=st
  simp only [List.mem_cons,List.not_mem_nil,or_false] at hb
  rcases hb with rfl | rfl | rfl | rfl | rfl
  ·exact ⟨_,hz,fun v q=>by cases q⟩
  ·exact ⟨_,hTI,fun v q=>by cases q⟩
  ·exact ⟨_,hTO,fun v q=>by cases q⟩
  ·exact o1 i h t1
  ·exact o2 i h t2
 keep:=fun i h h' st kk=>by
  obtain ⟨hz,hTI,⟨a,b',hTO⟩,t1,t2⟩:=st
  exact ⟨kk z (by simp) _ hz,kk TI (by simp) _ hTI,⟨a,b',kk TO (by simp) _ hTO⟩,k1 i h h' t1 fun o e=>kk i1 (by simp) _ e,k2 i h h' t2 fun o e=>kk i2 (by simp) _ e⟩
 item:=by
  intro X hP hw hK hc i pins s σ H E I hf st hg
  obtain ⟨hz,hTI,⟨a,b,hTO⟩,t1,t2⟩:=st
  obtain ⟨n1,n2,P1,P2,St1,St2,S,s1,s2,b1,b2,l1,l2,hy⟩:=go X hP hw hK hc i pins s σ H I hz ⟨a,b,hTO⟩ t1 t2 hg
  subst hP hw hK
  have hT : s.TypeIs (.ref z) "zip":=⟨_,hz,rfl⟩
  obtain ⟨q1,e1,_⟩:=o1 i _ t1
  obtain ⟨q2,e2,_⟩:=o2 i _ t2
  unfold pyNext
  refine wpAny_bind (wpAny_attempt (wpAny_callSpecial?_slot (name:=Str.ofString "__next__") hT PySem.F.slot_zip_next (wpAny_call_entry PySem.F.slot_zip_next hT PySem.F.entry_zip_next
   (Jas F S.fr1 S.fr2 S.it1 S.it2 hz hTI hTO s1 s2 l1 l2 fun u v h' tk hx hv a1 a2 a3 a4 a5 a6 kp=>wpAny_pure ?_) (PySem.F.args_zip_next_1 _))))
  obtain ⟨x,y,ru,rv,hyl⟩:=hy u v hx hv
  refine ⟨_,rfl,?_⟩
  refine wpAny_letOwnedTupleGo_zip (s:={ s with heap:=h',toks:=tk }) a1 fun h2' hz' hs'=>?_
  replace hs' : Heap.SameBut z h' h2':=hs'
  have zlt : z < s.heap.objs.size:=Heap.lt_size hz
  have far : ∀ q ∈ [z,TI,TO,i1,i2],q < s.heap.objs.size:=by
   intro q hq
   simp only [List.mem_cons,List.not_mem_nil,or_false] at hq
   rcases hq with rfl | rfl | rfl | rfl | rfl
   ·exact zlt
   ·exact Heap.lt_size hTI
   ·exact Heap.lt_size hTO
   ·exact Heap.lt_size e1
   ·exact Heap.lt_size e2
  have fz:=hf z (by simp)
  have fTO:=hf TO (by simp)
  have f1:=hf i1 (by simp)
  have f2:=hf i2 (by simp)
  have keepAll : ∀ b o,b ≠ z → b ≠ TO → b ≠ i1 → b ≠ i2 → s.heap.get? b = some o → h2'.get? b = some o:=fun b o b1 b2 b3 b4 e=>hs'.extBut _ _ b1 (kp b o b1 b2 b3 b4 e)
  have hnew : H s.heap.objs.size = none:=I.hok.fresh (Nat.le_refl _)
  have Tz : s.heap.objs.size ≠ z:=Nat.ne_of_gt zlt
  have ht2 : h2'.get? s.heap.objs.size = some { cls:=.type "tuple",data:=.seq #[u,v] }:=hs'.extBut _ _ Tz a5
  have I2 : Inv X pins σ (upd H s.heap.objs.size (.tup [x,y])) { s with heap:=h2',toks:=tk }:=by
   have nch : ∀ b,b ∉ [z,TO,i1,i2] → b ≠ z ∧ b ≠ TO ∧ b ≠ i1 ∧ b ≠ i2:=fun b hb=>by
    simp only [List.mem_cons,List.not_mem_nil,or_false,not_or] at hb
    exact hb
   have trk : ∀ b u',H b = some u' → b ≠ z ∧ b ≠ TO ∧ b ≠ i1 ∧ b ≠ i2:=fun b u' e =>
    ⟨fun q=>(by rw [q,fz.1] at e; cases e),fun q=>(by rw [q,fTO.1] at e; cases e),fun q=>(by rw [q,f1.1] at e; cases e),fun q=>(by rw [q,f2.1] at e; cases e)⟩
   have okH : HOk X.prog X.w (upd H s.heap.objs.size (.tup [x,y])) h2':=fun b u' e=>by
    by_cases hb : b = s.heap.objs.size
    ·subst hb
     rw [Jd] at e
     cases e
     exact ⟨(show 2 ≤ sizeLine by decide),[u,v],.cons ru (.cons rv .nil),⟨_,ht2,rfl,_,rfl⟩⟩
    ·rw [Ja hb] at e
     have hx:=I.hok b u' e
     refine hx.stay (fun q o hq e2=>?_) (fun q e2=>?_) (fun q xs e2=>?_)
     ·rcases hq with rfl | hq
      ·obtain ⟨b1,b2,b3,b4⟩:=trk q _ e
       exact keepAll q o b1 b2 b3 b4 e2
      ·obtain ⟨b1,b2,b3,b4⟩:=trk q _ hq
       exact keepAll q o b1 b2 b3 b4 e2
     ·rw [Ja (J9 e2 hnew)]; exact e2
     ·rw [Ja (J9 e2 hnew)]; exact e2
   refine I.step (g':=s.gens) (d':=s.drawn) (ch:=[z,TO,i1,i2]) (fun b hb=>?_) (fun b o _ _ hcb e n=>?_) (fun b o _ _ hcb e n=>?_) (fun b o hcb e n=>?_) (fun b o hcb e=>?_) (fun b xs e=>?_) (fun b o u' e=>?_) (fun b ps e=>?_) (fun m hm=>?_) okH I.bare
   ·simp only [List.mem_cons,List.not_mem_nil,or_false] at hb
    rcases hb with rfl | rfl | rfl | rfl
    ·exact ⟨fz.2.2.2.1,fz.2.1,fz.2.2.2.2.1,fz.2.2.2.2.2⟩
    ·exact ⟨fTO.2.2.2.1,fTO.2.1,fTO.2.2.2.2.1,fTO.2.2.2.2.2⟩
    ·exact ⟨f1.2.2.2.1,f1.2.1,f1.2.2.2.2.1,f1.2.2.2.2.2⟩
    ·exact ⟨f2.2.2.2.1,f2.2.1,f2.2.2.2.2.1,f2.2.2.2.2.2⟩
   ·obtain ⟨b1,b2,b3,b4⟩:=nch b hcb
    exact keepAll b o b1 b2 b3 b4 e
   ·obtain ⟨b1,b2,b3,b4⟩:=nch b hcb
    exact ⟨o.slots,keepAll b o b1 b2 b3 b4 e⟩
   ·rw [Ja (Nat.ne_of_lt (Heap.lt_size e))]; exact n
   ·obtain ⟨b1,b2,b3,b4⟩:=nch b hcb
    exact ⟨o,keepAll b o b1 b2 b3 b4 e⟩
   ·rw [Ja (J9 e hnew)]; exact e
   ·rw [Ja (J9 e hnew)]; exact e
   ·exact ⟨#[],by rw [Ja (J9 e hnew),e]; simp⟩
   ·obtain ⟨o,es',ep,ho,r⟩:=hm
    exact ⟨o,es',ep,keepAll _ o fz.2.1.symm fTO.2.1.symm f1.2.1.symm f2.2.1.symm ho,r⟩
  refine ⟨.ref s.heap.objs.size,_,I2,rfl,hyl _ hnew,⟨hz',hs'.extBut _ _ F.TIz (kp _ _ F.TIz F.TITO F.TIi1 F.TIi2 hTI),⟨_,_,hs'.extBut _ _ F.TOz a2⟩,?_,?_⟩,fun b hb=>?_⟩
  ·exact k1 _ _ _ (b1 _ _ a3) fun o e=>hs'.extBut _ _ F.i1z e
  ·exact k2 _ _ _ (b2 _ _ a4) fun o e=>hs'.extBut _ _ F.i2z e
  ·rw [Ja (Nat.ne_of_lt (far b hb))]; exact (hf b hb).1
 done:=by
  intro X hP hw hK hc i pins s σ H E I hf st hg
  obtain ⟨hz,hTI,⟨a,b,hTO⟩,t1,t2⟩:=st
  obtain ⟨n1,n2,P1,P2,St1,St2,S,s1,s2,hend⟩:=stop X hP hw hK hc i pins s σ H I hz ⟨a,b,hTO⟩ t1 t2 hg
  subst hP hw hK
  have hT : s.TypeIs (.ref z) "zip":=⟨_,hz,rfl⟩
  unfold pyNext
  refine wpAny_bind (wpAny_attempt (wpAny_callSpecial?_slot (name:=Str.ofString "__next__") hT PySem.F.slot_zip_next (wpAny_call_entry PySem.F.slot_zip_next hT PySem.F.entry_zip_next
   (Jbd F S.fr1 S.fr2 S.it1 S.it2 S.dn1 S.dn2 hz hTI hTO s1 s2 hend fun h' tk e kp he=>?_) (PySem.F.args_zip_next_1 _))))
  obtain ⟨o,ho,hc'⟩:=he
  refine wpAny_bind (wpAny_isInstance (T:="StopIteration") (b:=true) ⟨o,ho,hc'⟩ isSubtype_stop ?_)
  refine wpAny_pure ⟨rfl,?_⟩
  refine I.turnedN (ch:=[z,TO,i1,i2]) (fun b o hb q=>?_) fun b hb=>hf b ?_
  ·simp only [List.mem_cons,List.not_mem_nil,or_false,not_or] at hb
   exact kp b o hb.1 hb.2.1 hb.2.2.1 hb.2.2.2 q
  ·simp only [List.mem_cons,List.not_mem_nil,or_false] at hb ⊢
   rcases hb with q | q | q | q
   ·exact .inl q
   ·exact .inr (.inr (.inl q))
   ·exact .inr (.inr (.inr (.inl q)))
   ·exact .inr (.inr (.inr (.inr q)))
 self:=fun _ _ _ _ _ st h=>wpAny_pyIter_zip st.1 h
noncomputable def Izlt (K : PySem.W.Frag) (a : Addr) (l : List Nat) : It :=
  ⟨fun i H=>∃ xs,SqL K H a xs ∧ i < xs.length ∧ i < l.length,
   fun i H v H'=>∃ p x c,H p = none ∧ (∀ xs,SqL K H a xs → xs[i]? = some x) ∧ l[i]? = some c ∧ v = .ref p ∧ H' = upd H p (.tup [x,T [c]]),
   fun i H=>∃ xs,SqL K H a xs ∧ (i = xs.length ∨ (i < xs.length ∧ i = l.length))⟩
noncomputable def Iztl (K : PySem.W.Frag) (l : List Nat) (a : Addr) : It :=
  ⟨fun i H=>∃ xs,SqL K H a xs ∧ i < l.length ∧ i < xs.length,
   fun i H v H'=>∃ p x c,H p = none ∧ (∀ xs,SqL K H a xs → xs[i]? = some x) ∧ l[i]? = some c ∧ v = .ref p ∧ H' = upd H p (.tup [T [c],x]),
   fun i H=>∃ xs,SqL K H a xs ∧ (i = l.length ∨ (i < l.length ∧ i = xs.length))⟩
theorem J3B {h : Heap} {z TI TO a i j : Addr} {f0 : Value} {n : String} {l : List Nat} {t : Tok} {m k : Nat} {its : Array Value} (hz : IsZip h z TI TO f0) (hTO : ∃ a b,IsPair h TO a b) (hi : h.IsListIter i a m) (hj : h.IsStrIter j n ⟨l.toArray⟩ t k)
  (hn : n = "str_ascii_iterator" ∨ n = "str_iterator") (ha : h.IsList a its) : a ≠ z ∧ a ≠ TO ∧ a ≠ i ∧ a ≠ j:=by
 obtain ⟨x,y,hTO⟩:=hTO
 obtain ⟨o1,e1,c1,_⟩:=hi
 obtain ⟨o2,e2,c2,_⟩:=hj
 obtain ⟨p1,q1,d1,_⟩:=ha
 have n1 : (Value.type "list") ≠ .type "zip":=by intro z; injection z with z; revert z; decide
 have n2 : (Value.type "list") ≠ .type "tuple":=by intro z; injection z with z; revert z; decide
 have n3 : (Value.type "list") ≠ .type "list_iterator":=by intro z; injection z with z; revert z; decide
 have n4 : (Value.type "list") ≠ .type n:=by
  intro z; injection z with z
  rcases hn with rfl | rfl <;> (revert z; decide)
 exact ⟨J20 q1 hz (by rw [d1]; exact n1),J20 q1 hTO (by rw [d1]; exact n2),J20 q1 e1 (by rw [d1,c1]; exact n3),J20 q1 e2 (by rw [d1,c2]; exact n4)⟩
theorem J9I {P : Program} {w : World} {A : Around} {z TO i1 i2 a : Addr} {n : String} {l : List Nat} {t : Tok} {its : Array Value} (F1 : i1 ≠ z ∧ i1 ≠ TO ∧ i1 ≠ i2) (F2 : i2 ≠ z ∧ i2 ≠ TO) (hh : A.handled = none) (hn : n = "str_ascii_iterator" ∨ n = "str_iterator") (ap : a ≠ z ∧ a ≠ TO ∧ a ≠ i1 ∧ a ≠ i2) :
  ZSrc P w A z TO i1 i2 its.size l.length (fun i v=>its[i]? = some v) (fun i v=>∃ c u,l[i]? = some c ∧ v = .str ⟨#[c]⟩ u) (fun i h=>h.IsListIter i1 a i ∧ h.IsList a its) (fun i h=>h.IsStrIter i2 n ⟨l.toArray⟩ t i):=by
 have D1:=Draws.list (prog:=P) (w:=w) hh i1 a ap.2.2.1 its
 have D2:=J8T (prog:=P) (w:=w) (it:=i2) (l:=l) (t:=t) hh hn
 refine ⟨fun i h h' st k=>D1.frame i h h' st fun b hb o e=>?_,fun i h h' st k=>D2.frame i h h' st fun b hb o e=>?_,D1.item,D2.item,D1.done,D2.done⟩
 ·simp only [List.mem_cons,List.not_mem_nil,or_false] at hb
  rcases hb with rfl | rfl
  ·exact k _ o F1.1 F1.2.1 F1.2.2 e
  ·exact k _ o ap.1 ap.2.1 ap.2.2.2 e
 ·rw [List.mem_singleton.mp hb] at e ⊢
  exact k _ o F2.1 F2.2 F1.2.2.symm e
theorem J9M {P : Program} {w : World} {A : Around} {z TO i1 i2 a : Addr} {n : String} {l : List Nat} {t : Tok} {its : Array Value} (F1 : i1 ≠ z ∧ i1 ≠ TO ∧ i1 ≠ i2) (F2 : i2 ≠ z ∧ i2 ≠ TO) (hh : A.handled = none) (hn : n = "str_ascii_iterator" ∨ n = "str_iterator") (ap : a ≠ z ∧ a ≠ TO ∧ a ≠ i2 ∧ a ≠ i1) :
  ZSrc P w A z TO i1 i2 l.length its.size (fun i v=>∃ c u,l[i]? = some c ∧ v = .str ⟨#[c]⟩ u) (fun i v=>its[i]? = some v) (fun i h=>h.IsStrIter i1 n ⟨l.toArray⟩ t i) (fun i h=>h.IsListIter i2 a i ∧ h.IsList a its):=by
 have D1:=Draws.list (prog:=P) (w:=w) hh i2 a ap.2.2.1 its
 have D2:=J8T (prog:=P) (w:=w) (it:=i1) (l:=l) (t:=t) hh hn
 refine ⟨fun i h h' st k=>D2.frame i h h' st fun b hb o e=>?_,fun i h h' st k=>D1.frame i h h' st fun b hb o e=>?_,D2.item,D1.item,D2.done,D1.done⟩
 ·rw [List.mem_singleton.mp hb] at e ⊢
  exact k _ o F1.1 F1.2.1 F1.2.2 e
 ·simp only [List.mem_cons,List.not_mem_nil,or_false] at hb
  rcases hb with rfl | rfl
  ·exact k _ o F2.1 F2.2 F1.2.2.symm e
  ·exact k _ o ap.1 ap.2.1 ap.2.2.2 e
section
variable {P : Program} {w : World} {K : PySem.W.Frag} {es : List Expr} {k : Nat} {pos : Pos} {z TI TO i1 i2 a : Addr} {l : List Nat} {t : Tok} {n : String}
theorem J9a (F : J3h z TI TO i1 i2) (hn : n = "str_ascii_iterator" ∨ n = "str_iterator") :
  Turn P w K (.Tuple es k pos) (Izlt K a l) [z,TI,TO,i1,i2] z (fun i h=>IsZip h z TI TO .none ∧ IsPair h TI (.ref i1) (.ref i2) ∧ (∃ a b,IsPair h TO a b) ∧ h.IsListIter i1 a i ∧ h.IsStrIter i2 n ⟨l.toArray⟩ t i):=by
 refine J6L F (fun i h st=>?_) (fun i h st=>?_) (fun i h h' st kk=>?_) (fun i h h' st kk=>?_) ?_ ?_
 ·obtain ⟨o,e,c,d⟩:=st; exact ⟨o,e,fun v q=>by rw [d] at q; cases q⟩
 ·obtain ⟨o,e,c,d⟩:=st; exact ⟨o,e,fun v q=>by rw [d] at q; cases q⟩
 ·obtain ⟨o,e,r⟩:=st; exact ⟨o,kk _ e,r⟩
 ·obtain ⟨o,e,r⟩:=st; exact ⟨o,kk _ e,r⟩
 ·intro X hP hw hK hc i pins s σ H I hz hTO t1 t2 hg
  obtain ⟨xs,hq,g1,g2⟩:=hg
  subst hP hw hK
  obtain ⟨ia,ra,pa,_⟩:=I.list hq
  have la:=ra.length
  have ap:=J3B hz hTO t1 t2 hn pa.isList
  refine ⟨_,_,_,_,_,_,J9I (its:=ia.toArray) ⟨F.i1z,F.TOi1.symm,F.i12⟩ ⟨F.i2z,F.TOi2.symm⟩ (I.ok.hd hc) hn ap,⟨t1,pa.isList⟩,t2,fun _ _ st=>st.1,fun _ _ st=>st,by simp; omega,g2,fun u v hu hv=>?_⟩
  obtain ⟨c,tk,hc1,rfl⟩:=hv
  have hx : xs[i]? = some xs[i]:=List.getElem?_eq_getElem g1
  obtain ⟨u',hu',ru⟩:=ra.get hx
  have eu : u = u':=by
   have : ia[i]? = some u:=by simpa using hu
   rw [hu'] at this; exact (Option.some.inj this).symm
  subst eu
  exact ⟨xs[i],T [c],ru,⟨tk,rfl⟩,fun p hp=>⟨p,_,c,hp,fun zs hzs=>by rw [I.list_inj hzs hq]; exact hx,hc1,rfl,rfl⟩⟩
 ·intro X hP hw hK hc i pins s σ H I hz hTO t1 t2 hg
  obtain ⟨xs,hq,hend⟩:=hg
  subst hP hw hK
  obtain ⟨ia,ra,pa,_⟩:=I.list hq
  have la:=ra.length
  have ap:=J3B hz hTO t1 t2 hn pa.isList
  exact ⟨_,_,_,_,_,_,J9I (its:=ia.toArray) ⟨F.i1z,F.TOi1.symm,F.i12⟩ ⟨F.i2z,F.TOi2.symm⟩ (I.ok.hd hc) hn ap,⟨t1,pa.isList⟩,t2,by simp; omega⟩
theorem J9g (F : J3h z TI TO i1 i2) (hn : n = "str_ascii_iterator" ∨ n = "str_iterator") :
  Turn P w K (.Tuple es k pos) (Iztl K l a) [z,TI,TO,i1,i2] z (fun i h=>IsZip h z TI TO .none ∧ IsPair h TI (.ref i1) (.ref i2) ∧ (∃ a b,IsPair h TO a b) ∧ h.IsStrIter i1 n ⟨l.toArray⟩ t i ∧ h.IsListIter i2 a i):=by
 refine J6L F (fun i h st=>?_) (fun i h st=>?_) (fun i h h' st kk=>?_) (fun i h h' st kk=>?_) ?_ ?_
 ·obtain ⟨o,e,c,d⟩:=st; exact ⟨o,e,fun v q=>by rw [d] at q; cases q⟩
 ·obtain ⟨o,e,c,d⟩:=st; exact ⟨o,e,fun v q=>by rw [d] at q; cases q⟩
 ·obtain ⟨o,e,r⟩:=st; exact ⟨o,kk _ e,r⟩
 ·obtain ⟨o,e,r⟩:=st; exact ⟨o,kk _ e,r⟩
 ·intro X hP hw hK hc i pins s σ H I hz hTO t1 t2 hg
  obtain ⟨xs,hq,g2,g1⟩:=hg
  subst hP hw hK
  obtain ⟨ia,ra,pa,_⟩:=I.list hq
  have la:=ra.length
  have ap:=J3B hz hTO t2 t1 hn pa.isList
  refine ⟨_,_,_,_,_,_,J9M (its:=ia.toArray) ⟨F.i1z,F.TOi1.symm,F.i12⟩ ⟨F.i2z,F.TOi2.symm⟩ (I.ok.hd hc) hn ap,t1,⟨t2,pa.isList⟩,fun _ _ st=>st,fun _ _ st=>st.1,g2,by simp; omega,fun u v hu hv=>?_⟩
  obtain ⟨c,tk,hc1,rfl⟩:=hu
  have hx : xs[i]? = some xs[i]:=List.getElem?_eq_getElem g1
  obtain ⟨u',hu',ru⟩:=ra.get hx
  have eu : v = u':=by
   have : ia[i]? = some v:=by simpa using hv
   rw [hu'] at this; exact (Option.some.inj this).symm
  subst eu
  exact ⟨T [c],xs[i],⟨tk,rfl⟩,ru,fun p hp=>⟨p,_,c,hp,fun zs hzs=>by rw [I.list_inj hzs hq]; exact hx,hc1,rfl,rfl⟩⟩
 ·intro X hP hw hK hc i pins s σ H I hz hTO t1 t2 hg
  obtain ⟨xs,hq,hend⟩:=hg
  subst hP hw hK
  obtain ⟨ia,ra,pa,_⟩:=I.list hq
  have la:=ra.length
  have ap:=J3B hz hTO t2 t1 hn pa.isList
  exact ⟨_,_,_,_,_,_,J9M (its:=ia.toArray) ⟨F.i1z,F.TOi1.symm,F.i12⟩ ⟨F.i2z,F.TOi2.symm⟩ (I.ok.hd hc) hn ap,t1,⟨t2,pa.isList⟩,by simp; omega⟩
end
noncomputable abbrev itL (l : Addr) : Obj:={ cls:=.type "list_iterator",data:=.fields #[.ref l,.int 0 0] }
noncomputable abbrev itT (l : List Nat) (t : Tok) : Obj:={ cls:=.type (J3j l),data:=.fields #[.str ⟨l.toArray⟩ t,.int 0 0] }
noncomputable abbrev zm3 (h : Heap) (o1 o2 : Obj) : Heap:=((h.push o1).push o2).push { cls:=.type "tuple",data:=.seq #[.ref h.objs.size,.ref (h.push o1).objs.size] }
noncomputable abbrev zm4 (h : Heap) (o1 o2 : Obj) : Heap:=(zm3 h o1 o2).push { cls:=.type "tuple",data:=.seq #[.none,.none] }
noncomputable abbrev zm5 (h : Heap) (o1 o2 : Obj) : Heap:=(zm4 h o1 o2).push { cls:=.type "zip",data:=.fields #[.none,.bool false,.bool false,.ref ((h.push o1).push o2).objs.size,.ref (zm3 h o1 o2).objs.size] }
theorem J8F (a : Addr) (xs : Array Value) (l : List Nat) (t : Tok) :
  Meets (Builtin.«zip.__new__» ⟨[.type "zip",.ref a,.str ⟨l.toArray⟩ t],[]⟩) (fun _ R s=>s.heap.IsList a xs ∧ R (.ok (.ret (.ref (zm4 s.heap (itL a) (itT l t)).objs.size))) { s with heap:=zm5 s.heap (itL a) (itT l t) }) :=
 .of_wp fun prog w A R s h=>by
  obtain ⟨hp,g,d,tk,os⟩:=s
  obtain ⟨hl,h⟩:=h
  have hsub:=sub_zip
  have hL1 : Heap.IsList (Shared.heap ⟨hp,g,d,tk,os⟩) a xs:=hl
  wp_walk using wpAny_pyIter_list hL1,J8w (l:=l) (t:=t)
  exact ⟨_,rfl,h⟩
theorem J8q (a : Addr) (xs : Array Value) (l : List Nat) (t : Tok) :
  Meets (Builtin.«zip.__new__» ⟨[.type "zip",.str ⟨l.toArray⟩ t,.ref a],[]⟩) (fun _ R s=>s.heap.IsList a xs ∧ R (.ok (.ret (.ref (zm4 s.heap (itT l t) (itL a)).objs.size))) { s with heap:=zm5 s.heap (itT l t) (itL a) }) :=
 .of_wp fun prog w A R s h=>by
  obtain ⟨hp,g,d,tk,os⟩:=s
  obtain ⟨hl,h⟩:=h
  have hsub:=sub_zip
  have hL1 : Heap.IsList (Shared.heap ⟨hp.push (itT l t),g,d,tk,os⟩) a xs:=Heap.IsList.push hl _
  wp_walk using J8w (l:=l) (t:=t),wpAny_pyIter_list hL1
  exact ⟨_,rfl,h⟩
theorem J8y (h : Heap) (o1 o2 : Obj) (f1 : o1.isFreed = false) (f2 : o2.isFreed = false) : IsZip (zm5 h o1 o2) (h.objs.size + 4) (h.objs.size + 2) (h.objs.size + 3) .none ∧ IsPair (zm5 h o1 o2) (h.objs.size + 2) (.ref h.objs.size) (.ref (h.objs.size + 1)) ∧ IsPair (zm5 h o1 o2) (h.objs.size + 3) .none .none ∧
  (zm5 h o1 o2).get? h.objs.size = some o1 ∧ (zm5 h o1 o2).get? (h.objs.size + 1) = some o2 ∧ (∀ c o,h.get? c = some o → (zm5 h o1 o2).get? c = some o) ∧ (zm4 h o1 o2).objs.size = h.objs.size + 4:=by
 have z1 : (h.push o1).objs.size = h.objs.size + 1:=Heap.size_push ..
 have z2 : ((h.push o1).push o2).objs.size = h.objs.size + 2:=by rw [Heap.size_push,z1]
 have z3 : (zm3 h o1 o2).objs.size = h.objs.size + 3:=by rw [Heap.size_push,z2]
 have z4 : (zm4 h o1 o2).objs.size = h.objs.size + 4:=by rw [Heap.size_push,z3]
 have g5 : (zm5 h o1 o2).get? (zm4 h o1 o2).objs.size = some _:=Heap.get?_push_size _ rfl
 have g4 : (zm5 h o1 o2).get? (zm3 h o1 o2).objs.size = some _:=Heap.get?_push_of_some _ (Heap.get?_push_size _ rfl)
 have g3 : (zm5 h o1 o2).get? ((h.push o1).push o2).objs.size = some _:=Heap.get?_push_of_some _ (Heap.get?_push_of_some _ (Heap.get?_push_size _ rfl))
 have g2 : (zm5 h o1 o2).get? (h.push o1).objs.size = some o2:=Heap.get?_push_of_some _ (Heap.get?_push_of_some _ (Heap.get?_push_of_some _ (Heap.get?_push_size _ f2)))
 have g1 : (zm5 h o1 o2).get? h.objs.size = some o1:=Heap.get?_push_of_some _ (Heap.get?_push_of_some _ (Heap.get?_push_of_some _ (Heap.get?_push_of_some _ (Heap.get?_push_size _ f1))))
 rw [z2,z3,z4] at g5
 rw [z1,z2] at g3
 rw [z3] at g4
 rw [z1] at g2
 exact ⟨g5,g3,g4,g1,g2,fun c o x=>Heap.get?_push_of_some _ (Heap.get?_push_of_some _ (Heap.get?_push_of_some _ (Heap.get?_push_of_some _ (Heap.get?_push_of_some _ x)))),z4⟩
section
variable {X : Cx} {K : PySem.W.Frag} {es : List Expr} {k : Nat} {tpos : Pos}
theorem fp5 {pins : List (Addr × Obj)} {σ : St} {H : Hp} {s : Shared} {b : Addr} (I : Inv X pins σ H s) (hb : b ∈ [s.heap.objs.size + 4,s.heap.objs.size + 2,s.heap.objs.size + 3,s.heap.objs.size,s.heap.objs.size + 1]) : FpOk X pins H b:=by
 have hb' : s.heap.objs.size ≤ b:=by
  simp only [List.mem_cons,List.not_mem_nil,or_false] at hb
  rcases hb with rfl | rfl | rfl | rfl | rfl
  ·exact Nat.le_add_right _ _
  ·exact Nat.le_add_right _ _
  ·exact Nat.le_add_right _ _
  ·exact Nat.le_refl _
  ·exact Nat.le_add_right _ _
 exact I.fpOk hb' (I.hok.fresh hb')
noncomputable def JdT (K : PySem.W.Frag) (ta : TA) : TI:=fun σ H R=>ta σ H fun vs H1=>∃ a l,vs = [.ref a,T l] ∧ (∃ xs,SqL K H1 a xs) ∧ R (Izlt K a l) H1
noncomputable def JdU (K : PySem.W.Frag) (ta : TA) : TI:=fun σ H R=>ta σ H fun vs H1=>∃ a l,vs = [T l,.ref a] ∧ (∃ xs,SqL K H1 a xs) ∧ R (Iztl K l a) H1
theorem Jbe {a b : Expr} {ta : TA} {p pos : Pos} (hK : X.K = K) (hg : Gl X "zip") (hm : X.mg "zip" = none) (ha : PA X [a,b] ta) (hv : bootBuiltins "zip" = some (.type "zip"):=by decide +kernel) (hs : starEach [a,b] X.env = [(false,eval a X.env),(false,eval b X.env)]:=by rfl) (hs2 : starEach [b] X.env = [(false,eval b X.env)]:=by rfl) :
  PI X (.Tuple es k tpos) (.Call (.Name "zip" p) [a,b] [] pos) (JdT K ta):=by
 subst hK
 intro pins s σ H R I h
 refine Call_ (J2q I hg hm hv (PyProof.Rows.callWith_type1 (thn (ha pos pins s σ H _ I h) fun us s1 ⟨vs,H1,I1,r1,q1⟩=>?_) (by rw [hs,hs2]) (by rw [hs2]; rfl)))
 obtain ⟨a1,l,e,⟨xs,hq⟩,q⟩:=q1
 subst e
 obtain ⟨u,v,rfl,ru,rv⟩:=r1.two
 cases ru
 obtain ⟨t,rfl⟩:=rv
 obtain ⟨ia,ra,pa,_⟩:=I1.list hq
 refine callType_new F.called_zip (by decide) (F.typeCall_zip_2 _ _) (F.newCall_zip_2 _ _) (fun obj=>F.args_object_init_3 obj _ _) F.entry_zip_new (J8F a1 ia.toArray l t) ⟨pa.isList,?_⟩
 obtain ⟨g1,g2,g3,g4,g5,kp,z4⟩:=J8y s1.heap (itL a1) (itT l t) rfl rfl
 rw [z4]
 refine ⟨⟨_,g1,rfl⟩,?_⟩
 have I2 : Inv X pins σ H1 { s1 with heap:=zm5 s1.heap (itL a1) (itT l t) }:=I1.kept (t':=s1.toks) kp
 exact wpAny_pyIter_zip (s:={ s1 with heap:=zm5 s1.heap (itL a1) (itT l t) }) g1 ⟨s1.heap.objs.size + 4,[s1.heap.objs.size + 4,s1.heap.objs.size + 2,s1.heap.objs.size + 3,s1.heap.objs.size,s1.heap.objs.size + 1],_,_,H1,rfl,I2,J9a (t:=t) (J47 _) (J77 l),⟨g1,g2,⟨_,_,g3⟩,⟨_,g4,rfl,rfl⟩,⟨_,g5,rfl,rfl⟩⟩,fun b hb=>fp5 I1 hb,q⟩
theorem Jbh {a b : Expr} {ta : TA} {p pos : Pos} (hK : X.K = K) (hg : Gl X "zip") (hm : X.mg "zip" = none) (ha : PA X [a,b] ta) (hv : bootBuiltins "zip" = some (.type "zip"):=by decide +kernel) (hs : starEach [a,b] X.env = [(false,eval a X.env),(false,eval b X.env)]:=by rfl) (hs2 : starEach [b] X.env = [(false,eval b X.env)]:=by rfl) :
  PI X (.Tuple es k tpos) (.Call (.Name "zip" p) [a,b] [] pos) (JdU K ta):=by
 subst hK
 intro pins s σ H R I h
 refine Call_ (J2q I hg hm hv (PyProof.Rows.callWith_type1 (thn (ha pos pins s σ H _ I h) fun us s1 ⟨vs,H1,I1,r1,q1⟩=>?_) (by rw [hs,hs2]) (by rw [hs2]; rfl)))
 obtain ⟨a1,l,e,⟨xs,hq⟩,q⟩:=q1
 subst e
 obtain ⟨u,v,rfl,ru,rv⟩:=r1.two
 cases rv
 obtain ⟨t,rfl⟩:=ru
 obtain ⟨ia,ra,pa,_⟩:=I1.list hq
 refine callType_new F.called_zip (by decide) (F.typeCall_zip_2 _ _) (F.newCall_zip_2 _ _) (fun obj=>F.args_object_init_3 obj _ _) F.entry_zip_new (J8q a1 ia.toArray l t) ⟨pa.isList,?_⟩
 obtain ⟨g1,g2,g3,g4,g5,kp,z4⟩:=J8y s1.heap (itT l t) (itL a1) rfl rfl
 rw [z4]
 refine ⟨⟨_,g1,rfl⟩,?_⟩
 have I2 : Inv X pins σ H1 { s1 with heap:=zm5 s1.heap (itT l t) (itL a1) }:=I1.kept (t':=s1.toks) kp
 exact wpAny_pyIter_zip (s:={ s1 with heap:=zm5 s1.heap (itT l t) (itL a1) }) g1 ⟨s1.heap.objs.size + 4,[s1.heap.objs.size + 4,s1.heap.objs.size + 2,s1.heap.objs.size + 3,s1.heap.objs.size,s1.heap.objs.size + 1],_,_,H1,rfl,I2,J9g (t:=t) (J47 _) (J77 l),⟨g1,g2,⟨_,_,g3⟩,⟨_,g4,rfl,rfl⟩,⟨_,g5,rfl,rfl⟩⟩,fun b hb=>fp5 I1 hb,q⟩
end
end L2
set_option linter.all false
set_option maxRecDepth 100000
set_option maxHeartbeats 4000000
namespace L2
open PySem PySem.Spec PyProof.Rows
section
variable {prog : Program} {w : World} {A : Around} {E : Value → Shared → Prop} {s : Shared}
theorem Jbb {it t : Addr} {i : Nat} {items} {x : Value} {Q : Value → Shared → Prop} (hit : s.heap.IsTupleIter it t i) (ht : s.heap.IsTuple t items) (hx : items[i]? = some x)
  (hQ : ∀ h',h'.IsTupleIter it t (i + 1) → Heap.SameBut it s.heap h' → Q x { s with heap:=h' }) : wpAny (model prog w) A (Builtin.SmallTypes.nextOf (.ref it)) Q E s:=by
 obtain ⟨o,ho,hc,hd⟩:=id hit
 obtain ⟨ol,hol,_,nl,hdl⟩:=ht
 unfold Builtin.SmallTypes.nextOf
 refine wpAny_bind (wpAny_callSpecial?_slot (name:=Str.ofString "__next__") hit.typeIs F.slot_tuple_iterator_next (wpAny_call_entry F.slot_tuple_iterator_next hit.typeIs F.entry_tuple_iterator_next ?_ (F.args_tuple_iterator_next_1 _)))
 show wpAny _ _ (field (.ref it) 0 >>= _) _ _ s
 refine wpAny_bind (wpAny_field ho hd (x:=.ref t) rfl ?_)
 show wpAny _ _ (if (Value.ref t == Value.none) = true then _ else _) _ _ s
 rw [if_neg (show ¬ (Value.ref t == Value.none) = true from fun z=>nomatch z)]
 show wpAny _ _ (field (.ref it) 1 >>= _) _ _ s
 refine wpAny_bind (wpAny_field ho hd (x:=.int i 0) rfl ?_)
 show wpAny _ _ (seqItems? (.ref t) >>= _) _ _ s
 refine wpAny_bind (wpAny_seqItems hol hdl ?_)
 simp only [Int.toNat_natCast,hx]
 refine wpAny_bind (wpAny_setField ho hd (by simp) (wpAny_pure ⟨x,rfl,wpAny_pure (hQ _ ?_ (Heap.SameBut.update ..))⟩))
 exact ⟨_,Heap.get?_update_self _ ho (Obj.isFreed_of_fields (Obj.data_mapFields hd _)),(Obj.cls_mapFields ..).trans hc,by rw [Obj.data_mapFields hd]; simp [rawInt]⟩
theorem Jbw {it t : Addr} {i : Nat} {items} {Q : Value → Shared → Prop} (hh : A.handled = none) (hit : s.heap.IsTupleIter it t i) (ht : s.heap.IsTuple t items) (hx : items[i]? = none)
  (hE : ∀ h' e,Heap.ExtBut it s.heap h' → (∃ o,h'.get? e = some o ∧ o.cls = .type "StopIteration") → E (.ref e) { s with heap:=h' }) : wpAny (model prog w) A (Builtin.SmallTypes.nextOf (.ref it)) Q E s:=by
 obtain ⟨o,ho,hc,hd⟩:=id hit
 obtain ⟨ol,hol,_,nl,hdl⟩:=ht
 unfold Builtin.SmallTypes.nextOf
 refine wpAny_bind (wpAny_callSpecial?_slot (name:=Str.ofString "__next__") hit.typeIs F.slot_tuple_iterator_next (wpAny_call_entry F.slot_tuple_iterator_next hit.typeIs F.entry_tuple_iterator_next ?_ (F.args_tuple_iterator_next_1 _)))
 show wpAny _ _ (field (.ref it) 0 >>= _) _ _ s
 refine wpAny_bind (wpAny_field ho hd (x:=.ref t) rfl ?_)
 show wpAny _ _ (if (Value.ref t == Value.none) = true then _ else _) _ _ s
 rw [if_neg (show ¬ (Value.ref t == Value.none) = true from fun z=>nomatch z)]
 show wpAny _ _ (field (.ref it) 1 >>= _) _ _ s
 refine wpAny_bind (wpAny_field ho hd (x:=.int i 0) rfl ?_)
 show wpAny _ _ (seqItems? (.ref t) >>= _) _ _ s
 refine wpAny_bind (wpAny_seqItems hol hdl ?_)
 simp only [Int.toNat_natCast,hx]
 refine wpAny_bind (wpAny_rule (wpAny_bind (wpAny_setField ho hd (by simp) ?_)))
 show wpAny _ _ (newExc (.type "StopIteration") [] >>= _) _ _ _
 refine wpAny_bind ?_
 simp only [newExc,newTuple]
 refine wpAny_bind (wpAny_newObj_type ?_ (by size_fits))
 refine wpAny_bind (m:=firstArgMember _ _) (wpAny_of_eq (a:=Value.none) (by first | rfl | (simp only [firstArgMember]; rfl)) ?_)
 refine wpAny_newObj_type ?_ (by size_fits)
 simp only [raiseNew]
 refine wpAny_bind (wpAny_handled ?_)
 first | rw [show A.in1.handled = none from hh] | rw [hh]
 refine wpAny_bind (wpAny_pure (wpAny_throw ?_))
 exact hE _ _ (((Heap.SameBut.update ..).extBut.push _).push _) ⟨_,Heap.get?_push_size _ rfl,rfl⟩
theorem J74 (hh : A.handled = none) (it l : Addr) (hne : l ≠ it) (items : Array Value) :
  Draws prog w A it [it,l] items.size (fun i v=>items[i]? = some v) (fun i h=>h.IsTupleIter it l i ∧ h.IsTuple l items) where
 live:=fun _ _ st=>let ⟨o,ho,_⟩:=st.1; ⟨o,ho⟩
 frame:=fun _ _ _ st hk=>⟨let ⟨o,ho,r⟩:=st.1; ⟨o,hk it (by simp) o ho,r⟩,let ⟨o,ho,r⟩:=st.2; ⟨o,hk l (by simp) o ho,r⟩⟩
 item:=fun i s Q E hi st hQ=>by
  refine Jbb st.1 st.2 (x:=items[i]) (by simp [hi]) fun h' hit' hs'=>?_
  exact hQ _ h' s.toks (by simp [hi]) ⟨hit',let ⟨o,ho,r⟩:=st.2; ⟨o,hs'.extBut _ _ hne ho,r⟩⟩ hs'
 done:=fun s Q E st hE=>Jbw hh st.1 st.2 (by simp) hE
theorem J8G (l : Addr) (items : Array Value) :
  Meets (Builtin.«enumerate.__new__» ⟨[.type "enumerate",.ref l],[]⟩) (fun _ R s=>(∃ o n,s.heap.get? l = some o ∧ o.cls = .type "tuple" ∧ o.data = .seq items n) ∧
   R (.ok (.ret (.ref (s.heap.push { cls:=.type "tuple_iterator",data:=.fields #[.ref l,.int 0 0] }).objs.size)))
    {s with heap:=(s.heap.push { cls:=.type "tuple_iterator",data:=.fields #[.ref l,.int 0 0] }).push { cls:=.type "enumerate",data:=.fields #[.none,.bool false,.ref s.heap.objs.size,rawInt 0,.none,.none] } }) :=
 .of_wp fun prog w A R s h=>by
  obtain ⟨hp,g,d,tk,os⟩:=s
  obtain ⟨⟨⟨c,dct,dt,sl⟩,n,hl,hc,hd⟩,h⟩:=h
  simp only at hc hd
  subst hc hd
  have hsub:=sub_enumerate
  have hL : Heap.IsTuple (Shared.heap ⟨hp,g,d,tk,os⟩) l items:=⟨_,hl,rfl,n,rfl⟩
  wp_walk using wpAny_loadPart' hl
  refine wpAny_stack_any fun st=>wpAny_pure ?_
  split
  ·rename_i c _ _ _ _ _
   cases (c == Value.type "enumerate")
   ·wp_walk using wpAny_loadPart' hl,wpAny_pyIter_tuple hL
    exact ⟨_,rfl,h⟩
   ·wp_walk using wpAny_loadPart' hl,wpAny_pyIter_tuple hL
    exact ⟨_,rfl,h⟩
  ·wp_walk using wpAny_loadPart' hl,wpAny_pyIter_tuple hL
   exact ⟨_,rfl,h⟩
end
theorem J70 {h : Heap} {z it l : Addr} {i : Int} {old : Value} {k : Nat} {its : Array Value} (hz : IsEnum h z it i old) (hi : h.IsTupleIter it l k) (ht : h.IsTuple l its) : l ≠ z ∧ l ≠ it:=by
 obtain ⟨o1,e1,c1,_⟩:=hi
 obtain ⟨p1,q1,d1,_⟩:=ht
 have n1 : (Value.type "tuple") ≠ .type "enumerate":=by intro z; injection z with z; revert z; decide
 have n2 : (Value.type "tuple") ≠ .type "tuple_iterator":=by intro z; injection z with z; revert z; decide
 exact ⟨J20 q1 hz (by rw [d1]; exact n1),J20 q1 e1 (by rw [d1,c1]; exact n2)⟩
noncomputable def Iut (K : PySem.W.Frag) (l : Addr) : It :=
  ⟨fun i H=>∃ xs x,SqT K H l xs ∧ xs[i]? = some x,
   fun i H v H'=>∃ p x,H p = none ∧ (∀ xs,SqT K H l xs → xs[i]? = some x) ∧ v = .ref p ∧ H' = upd H p (.tup [.int i,x]),
   fun i H=>∃ xs,SqT K H l xs ∧ i = xs.length⟩
theorem J9o {P : Program} {w : World} {K : PySem.W.Frag} {es : List Expr} {k : Nat} {pos : Pos} {z it l : Addr} (zi : z ≠ it) :
  Turn P w K (.Tuple es k pos) (Iut K l) [z,it] z (fun i h=>(∃ old,IsEnum h z it (i : Int) old) ∧ h.IsTupleIter it l i) where
 mem:=by simp
 obj:=fun i h st b hb=>by
  obtain ⟨⟨old,hz⟩,o1,e1,c1,d1⟩:=st
  simp only [List.mem_cons,List.not_mem_nil,or_false] at hb
  rcases hb with rfl | rfl
  ·exact ⟨_,hz,fun v q=>by cases q⟩
  ·exact ⟨o1,e1,fun v q=>by rw [d1] at q; cases q⟩
 keep:=fun i h h' st kk=>by
  obtain ⟨⟨old,hz⟩,o1,e1,r1⟩:=st
  exact ⟨⟨old,kk z (by simp) _ hz⟩,⟨o1,kk it (by simp) _ e1,r1⟩⟩
 item:=by
  intro X hP hw hK hc i pins s σ H E I hf st hg
  subst hP hw hK
  obtain ⟨⟨old,hz⟩,h1⟩:=st
  have hh : X.A.in1.handled = none:=I.ok.hd hc
  obtain ⟨xs,y,hq1,hx1⟩:=hg
  obtain ⟨ia,ra,pa,_⟩:=I.tuple hq1
  obtain ⟨u,hu,ru⟩:=ra.get hx1
  obtain ⟨lz,li⟩:=J70 hz h1 (show s.heap.IsTuple l ia.toArray from pa)
  have D1:=J74 (prog:=X.prog) (w:=X.w) (A:=X.A.in1) hh it l li ia.toArray
  have hlt : i < ia.toArray.size:=by
   have : i < ia.length:=(List.getElem?_eq_some_iff.mp hu).1
   simpa using this
  refine wpAny_pyNext_enum_itemD D1 hz ⟨h1,pa⟩ hlt zi (fun q=>by
   simp only [List.mem_cons,List.not_mem_nil,or_false] at q
   rcases q with q | q
   ·exact zi q
   ·exact lz q.symm) fun x h' tk hx a1 a2 a3 a4 kp=>?_
  obtain rfl : x = u:=by
   have : ia[i]? = some x:=by simpa using hx
   rw [hu] at this; exact (Option.some.inj this).symm
  replace a2:=a2.1
  refine ⟨_,rfl,?_⟩
  refine wpAny_letOwnedTupleGo_enum (s:={ s with heap:=h',toks:=tk + 1 }) a1 fun h2' hz' hs'=>?_
  replace hs' : Heap.SameBut z h' h2':=hs'
  have zlt : z < s.heap.objs.size:=Heap.lt_size hz
  have far : ∀ q ∈ [z,it],q < s.heap.objs.size:=by
   intro q hq
   obtain ⟨o1,e1,_⟩:=h1
   simp only [List.mem_cons,List.not_mem_nil,or_false] at hq
   rcases hq with rfl | rfl
   ·exact zlt
   ·exact Heap.lt_size e1
  have fz:=hf z (by simp)
  have f1:=hf it (by simp)
  have keepAll : ∀ b o,b ≠ z → b ≠ it → s.heap.get? b = some o → h2'.get? b = some o:=fun b o b1 b2 e=>hs'.extBut _ _ b1 (kp b o b1 b2 e)
  have hnew : H s.heap.objs.size = none:=I.hok.fresh (Nat.le_refl _)
  have Tz : s.heap.objs.size ≠ z:=Nat.ne_of_gt zlt
  have ht2 : h2'.get? s.heap.objs.size = some { cls:=.type "tuple",data:=.seq #[.int i tk,x] }:=hs'.extBut _ _ Tz a3
  have I2 : Inv X pins σ (upd H s.heap.objs.size (.tup [.int i,y])) { s with heap:=h2',toks:=tk + 1 }:=by
   have nch : ∀ b,b ∉ [z,it] → b ≠ z ∧ b ≠ it:=fun b hb=>by
    simp only [List.mem_cons,List.not_mem_nil,or_false,not_or] at hb
    exact hb
   have trk : ∀ b u',H b = some u' → b ≠ z ∧ b ≠ it:=fun b u' e =>
    ⟨fun q=>(by rw [q,fz.1] at e; cases e),fun q=>(by rw [q,f1.1] at e; cases e)⟩
   have okH : HOk X.prog X.w (upd H s.heap.objs.size (.tup [.int i,y])) h2':=fun b u' e=>by
    by_cases hb : b = s.heap.objs.size
    ·subst hb
     rw [Jd] at e
     cases e
     exact ⟨(show 2 ≤ sizeLine by decide),[.int i tk,x],.cons ⟨_,rfl⟩ (.cons ru .nil),⟨_,ht2,rfl,_,rfl⟩⟩
    ·rw [Ja hb] at e
     have hx:=I.hok b u' e
     refine hx.stay (fun q o hq e2=>?_) (fun q e2=>?_) (fun q xs e2=>?_)
     ·rcases hq with rfl | hq
      ·obtain ⟨b1,b2⟩:=trk q _ e
       exact keepAll q o b1 b2 e2
      ·obtain ⟨b1,b2⟩:=trk q _ hq
       exact keepAll q o b1 b2 e2
     ·rw [Ja (J9 e2 hnew)]; exact e2
     ·rw [Ja (J9 e2 hnew)]; exact e2
   refine I.step (g':=s.gens) (d':=s.drawn) (ch:=[z,it]) (fun b hb=>?_) (fun b o _ _ hcb e n=>?_) (fun b o _ _ hcb e n=>?_) (fun b o hcb e n=>?_) (fun b o hcb e=>?_) (fun b xs e=>?_) (fun b o u' e=>?_) (fun b ps e=>?_) (fun m hm=>?_) okH I.bare
   ·simp only [List.mem_cons,List.not_mem_nil,or_false] at hb
    rcases hb with rfl | rfl
    ·exact ⟨fz.2.2.2.1,fz.2.1,fz.2.2.2.2.1,fz.2.2.2.2.2⟩
    ·exact ⟨f1.2.2.2.1,f1.2.1,f1.2.2.2.2.1,f1.2.2.2.2.2⟩
   ·obtain ⟨b1,b2⟩:=nch b hcb
    exact keepAll b o b1 b2 e
   ·obtain ⟨b1,b2⟩:=nch b hcb
    exact ⟨o.slots,keepAll b o b1 b2 e⟩
   ·rw [Ja (Nat.ne_of_lt (Heap.lt_size e))]; exact n
   ·obtain ⟨b1,b2⟩:=nch b hcb
    exact ⟨o,keepAll b o b1 b2 e⟩
   ·rw [Ja (J9 e hnew)]; exact e
   ·rw [Ja (J9 e hnew)]; exact e
   ·exact ⟨#[],by rw [Ja (J9 e hnew),e]; simp⟩
   ·obtain ⟨o,es',ep,ho,r⟩:=hm
    exact ⟨o,es',ep,keepAll _ o fz.2.1.symm f1.2.1.symm ho,r⟩
  refine ⟨.ref s.heap.objs.size,_,I2,rfl,⟨_,y,hnew,fun zs hz2=>by rw [I.tuple_inj hz2 hq1]; exact hx1,rfl,rfl⟩,⟨⟨_,by rw [Int.natCast_add]; exact hz'⟩,?_⟩,fun b hb=>?_⟩
  ·obtain ⟨o,e,r⟩:=a2; exact ⟨o,hs'.extBut _ _ zi.symm e,r⟩
  ·rw [Ja (Nat.ne_of_lt (far b hb))]; exact (hf b hb).1
 done:=by
  intro X hP hw hK hc i pins s σ H E I hf st hg
  subst hP hw hK
  obtain ⟨⟨old,hz⟩,h1⟩:=st
  have hh : X.A.in1.handled = none:=I.ok.hd hc
  obtain ⟨xs,hq1,hg⟩:=hg
  obtain ⟨ia,ra,pa,_⟩:=I.tuple hq1
  have la:=ra.length
  obtain ⟨lz,li⟩:=J70 hz h1 (show s.heap.IsTuple l ia.toArray from pa)
  have D1:=J74 (prog:=X.prog) (w:=X.w) (A:=X.A.in1) hh it l li ia.toArray
  obtain ⟨f0,f1,f2,f3,f4,f5⟩:=hf it (by simp)
  have hg' : i = ia.toArray.size:=by simp; omega
  subst hg'
  refine wpAny_pyNext_enum_endD D1 hz ⟨h1,pa⟩ fun h' eb=>⟨rfl,I.turned (t':=s.toks) (fun b o hb e=>eb b o hb e) f0 f1 f3 f4 f5⟩
 self:=fun _ _ _ _ _ st h=>by
  obtain ⟨⟨old,hz⟩,_⟩:=st
  exact wpAny_pyIter_enum hz h
section
variable {X : Cx} {K : PySem.W.Frag} {es : List Expr} {k : Nat} {tpos : Pos}
noncomputable def JdC (K : PySem.W.Frag) (ta : TA) : TI:=fun σ H R=>ta σ H fun vs H1=>∃ a,vs = [.ref a] ∧ (∃ xs,SqT K H1 a xs) ∧ R (Iut K a) H1
theorem Jbn {a : Expr} {ta : TA} {p pos : Pos} (hK : X.K = K) (hg : Gl X "enumerate") (hm : X.mg "enumerate" = none) (ha : PA X [a] ta) (hv : bootBuiltins "enumerate" = some (.type "enumerate"):=by decide +kernel) (hs : starEach [a] X.env = [(false,eval a X.env)]:=by rfl) :
  PI X (.Tuple es k tpos) (.Call (.Name "enumerate" p) [a] [] pos) (JdC K ta):=by
 subst hK
 intro pins s σ H R I h
 refine Call_ (J2q I hg hm hv (PyProof.Rows.callWith_type1 (thn (ha pos pins s σ H _ I h) fun us s1 ⟨vs,H1,I1,r1,q1⟩=>?_) (by rw [hs]; rfl) (by rfl)))
 obtain ⟨l1,e,⟨xs,hq⟩,q⟩:=q1
 subst e
 obtain ⟨u,rfl,ru⟩:=r1.one
 cases ru
 obtain ⟨ia,ra,pa,_⟩:=I1.tuple hq
 obtain ⟨o,ho,hc,n,hd⟩:=(show s1.heap.IsTuple l1 ia.toArray from pa)
 refine callType_new F.called_enumerate (by decide) (F.typeCall_enumerate_1 _) (F.newCall_enumerate_1 _) (fun obj=>F.args_object_init_2 obj _) F.entry_enumerate_new (J8G l1 ia.toArray) ⟨⟨o,n,ho,hc,hd⟩,?_⟩
 have hz : (s1.heap.push { cls:=.type "tuple_iterator",data:=.fields #[.ref l1,.int 0 0] }).objs.size = s1.heap.objs.size + 1:=Heap.size_push ..
 show _ ∧ _
 rw [hz]
 have he : IsEnum ((s1.heap.push { cls:=.type "tuple_iterator",data:=.fields #[.ref l1,.int 0 0] }).push { cls:=.type "enumerate",data:=.fields #[.none,.bool false,.ref s1.heap.objs.size,rawInt 0,.none,.none] }) (s1.heap.objs.size + 1) s1.heap.objs.size 0 .none:=by
  have:=Heap.get?_push_size (s1.heap.push { cls:=.type "tuple_iterator",data:=.fields #[.ref l1,.int 0 0] }) (o:={ cls:=.type "enumerate",data:=.fields #[.none,.bool false,.ref s1.heap.objs.size,rawInt 0,.none,.none] }) rfl
  rw [hz] at this; exact this
 have I2 : Inv X pins σ H1 { s1 with heap:=(s1.heap.push { cls:=.type "tuple_iterator",data:=.fields #[.ref l1,.int 0 0] }).push { cls:=.type "enumerate",data:=.fields #[.none,.bool false,.ref s1.heap.objs.size,rawInt 0,.none,.none] } }:=I1.kept (t':=s1.toks) fun b o x=>Heap.get?_push_of_some _ (Heap.get?_push_of_some _ x)
 refine ⟨⟨_,he,rfl⟩,wpAny_pyIter_enum he ⟨s1.heap.objs.size + 1,[s1.heap.objs.size + 1,s1.heap.objs.size],_,_,H1,rfl,I2,J9o (Nat.ne_of_gt (Nat.lt_succ_self _)),⟨⟨_,he⟩,⟨_,Heap.get?_push_of_some _ (Heap.get?_push_size _ rfl),rfl,rfl⟩⟩,fun b hb=>?_,q⟩⟩
 have hb' : s1.heap.objs.size ≤ b:=by
  simp only [List.mem_cons,List.not_mem_nil,or_false] at hb
  rcases hb with rfl | rfl
  ·exact Nat.le_add_right _ _
  ·exact Nat.le_refl _
 exact I1.fpOk hb' (I1.hok.fresh hb')
end
end L2
namespace L2
open PySem PySem.Spec PyProof.Rows
noncomputable def Jdw (P : Program) (w : World) (td ty tx : TE) : TE:=fun σ H Q=>td σ H fun x H1=>∃ a xs,x = .ref a ∧ DAt P w H1 a xs ∧ ty σ H1 fun y H2=>tx σ H2 fun z H3=>∃ o,KGet P w H3 a y o ∧ Q (o.getD z) H3
theorem JaT {X : Cx} {P : Program} {w : World} {o e f : Expr} {apos cpos : Pos} {td ty tx : TE} (hP : X.prog = P) (hw : X.w = w) (hu : X.A.units + 2 < cLine) (ho : PE X o td) (he : PE X e ty) (hf : PE X f tx) (m : M2 X o "get" apos e f cpos) : PE X (.Call (.Attribute o "get" apos) [e,f] [] cpos) (Jdw P w td ty tx):=by
 subst hP hw
 intro pins s σ H Q I h
 refine wpAny_Call_method m.base m.few m.line PySem.F.plainAttrs_dict PySem.F.slot_dict_get PySem.F.type_dict_get (thn (ho pins s σ H _ I h) fun u s1 ⟨x,H1,I1,rx,a,xs,ex,d,q1⟩=>?_)
 subst ex
 obtain rfl : u = Value.ref a:=rx
 obtain ⟨_,_,ys,_,dd⟩:=J4x I1.hok d
 obtain ⟨ob,es,ep,g1,g2,_⟩:=id dd
 refine ⟨dd.typeIs,fun b q=>by cases q; exact ⟨ob,g1,g2.2.1⟩,?_⟩
 rw [m.trees]
 refine Calls.callWith_builtin rfl (Calls.evalArgs_plain (Calls.spliced_cons (thn (he pins s1 σ H1 _ I1 q1) fun iv s2 ⟨y,H2,I2,ry,q2⟩ =>
  Calls.spliced_cons (thn (hf pins s2 σ H2 _ I2 q2) fun fv s3 ⟨z,H3,I3,rz,ov,g,q3⟩=>Calls.spliced_nil ?_))))
 exact Jdo hu I3 g ry rz fun w' s4 I4 rw'=>⟨_,H3,I4,rw',q3⟩
end L2
set_option maxRecDepth 100000
set_option maxHeartbeats 4000000
namespace L2
open PySem PySem.Spec PyProof.Rows
section
variable {X : Cx}
theorem J7O : J1p X (.builtin "sorted") (fun xs H Q=>∃ (a : Addr) (ws : List V),xs = [.ref a] ∧ H a = some (.lst ws) ∧ ws.length ≤ 1 ∧ ∀ D,H D = none → Q (.ref D) (upd H D (.lst ws))):=by
 intro pins s σ H xs us Q I r h
 obtain ⟨a,ws,rfl,ha,hl,q⟩:=h
 obtain ⟨u,rfl,ru⟩:=J4D r
 cases ru
 obtain ⟨z,its,n,rv,hln,e0⟩:=I.lstM ha
 have lv : its.length ≤ 1:=by rw [← hln]; exact hl
 have big : (1 : Nat) ≤ sizeLine:=by decide
 refine Calls.call_function_entry kind_sorted plain_sorted entry_sorted (args_sorted1 _) ?_
 unfold Builtin.«sorted»
 refine wpAny_bind (m:=checkCount "sorted" 1 1 _) (wpAny_pure ?_)
 have hil : s.heap.IsList a its.toArray:=⟨_,e0,rfl,n,rfl⟩
 refine wpAny_bind (collect_list hil ?_ (by omega))
 refine wpAny_bind (wpAny_newList ?_)
 have hz1 : ((s.heap.push (seqObj "list" #[] 0)).update s.heap.objs.size (Obj.mapSeq (· ++ its.toArray))).objs.size = s.heap.objs.size + 1:=by rw [Heap.size_update,size_push']
 show wpAny _ _ _ _ _ { s with heap:=((s.heap.push (seqObj "list" #[] 0)).update s.heap.objs.size (Obj.mapSeq (· ++ its.toArray))).push (seqObj "list" its.toArray 0) }
 have hoL : (((s.heap.push (seqObj "list" #[] 0)).update s.heap.objs.size (Obj.mapSeq (· ++ its.toArray))).push (seqObj "list" its.toArray 0)).get? (s.heap.objs.size + 1) = some (seqObj "list" its.toArray 0):=by
  have:=Heap.get?_push_size ((s.heap.push (seqObj "list" #[] 0)).update s.heap.objs.size (Obj.mapSeq (· ++ its.toArray))) (o:=seqObj "list" its.toArray 0) rfl
  rw [hz1] at this
  exact this
 rw [hz1]
 refine wpAny_bind (wpAny_holding (wpAny_call_entry slot_list_sort ⟨_,hoL,rfl⟩ entry_list_sort (J6i hoL (by omega) fun out eo=>⟨_,rfl,?_⟩) (args_list_sort _)))
 refine wpAny_pure ⟨_,rfl,?_⟩
 obtain ⟨e,he⟩:=sortedHeap_at (out:=out) hoL
 have hsz : s.heap.objs.size ≤ s.heap.objs.size + 1:=Nat.le_succ _
 have hfr : H (s.heap.objs.size + 1) = none:=I.hok.fresh hsz
 refine ⟨.ref (s.heap.objs.size + 1),_,I.laid (o:=.lst ws) (t':=s.toks) (fun b o eb=>?_) hsz ⟨?_,out.toList,e,?_,?_⟩,rfl,q _ hfr⟩
 ·exact sortedAll_old eb
 ·exact Nat.le_trans hl (by decide)
 ·rw [eo]; exact rv
 ·rw [Array.toArray_toList]; exact he
end
end L2
set_option maxHeartbeats 4000000
namespace K69
open PySem L2
noncomputable def top (i : Nat) : Stmt:=PySem.Challenge.pw_rotafair_k69_nobody.main.body.getD i (.Pass ⟨0,0,0,0⟩)
noncomputable abbrev J1d : Stmt:=J10 (top 11) 0
noncomputable abbrev J1a : Stmt:=J10 (top 12) 0
noncomputable abbrev J1e : Stmt:=J10 (top 16) 0
noncomputable abbrev J19 : Stmt:=J10 (top 16) 1
noncomputable abbrev J23 : Stmt:=top 20
noncomputable abbrev J0e : Stmt:=top 21
noncomputable abbrev J0c : Stmt:=top 22
noncomputable abbrev J0u : Stmt:=top 23
noncomputable abbrev J0Q : Stmt:=top 24
noncomputable abbrev J0O : Stmt:=top 25
noncomputable abbrev J0S : Stmt:=top 26
noncomputable abbrev J2P : Stmt:=top 19
noncomputable abbrev J0P : Stmt:=top 31
noncomputable abbrev J0R : Stmt:=top 32
noncomputable abbrev J1x : Stmt:=top 30
noncomputable abbrev J0F : Stmt:=top 38
noncomputable abbrev JW : Stmt:=top 39
noncomputable abbrev J09 : Stmt:=J10 (top 35) 0
noncomputable abbrev JO : Stmt:=J10 (top 36) 0
noncomputable abbrev JV : Stmt:=J10 (top 37) 0
noncomputable abbrev J29 : Stmt:=top 40
noncomputable abbrev J1b : Stmt:=J10 (top 44) 0
noncomputable abbrev J0y : Stmt:=J10 (top 44) 1
noncomputable abbrev J0z : Stmt:=J10 (top 45) 0
noncomputable abbrev J08 : Stmt:=J10 (top 45) 1
noncomputable abbrev J0C : Stmt:=J10 (top 49) 0
noncomputable abbrev J0q : Stmt:=top 50
noncomputable abbrev J0D : Stmt:=top 51
noncomputable abbrev J27 : Stmt:=top 52
noncomputable abbrev J1f : Stmt:=top 53
noncomputable abbrev JK : Stmt:=top 55
noncomputable abbrev J25 : Stmt:=top 54
noncomputable abbrev J12 : Stmt:=J10 (top 48) 0
noncomputable abbrev J0H : Stmt:=J10 (top 48) 1
noncomputable abbrev J0U : Stmt:=top 60
noncomputable abbrev J0k : Stmt:=top 59
noncomputable abbrev J26 : Stmt:=top 61
noncomputable abbrev J1B : Stmt:=top 62
noncomputable abbrev JM : Stmt:=top 58
noncomputable abbrev J0V : Stmt:=top 64
noncomputable abbrev J15 : Stmt:=top 65
noncomputable abbrev J1z : Stmt:=top 66
noncomputable abbrev J1y : Stmt:=top 67
noncomputable abbrev J0B : Stmt:=top 68
noncomputable abbrev J1w : Stmt:=top 69
noncomputable abbrev J2R : Stmt:=top 70
theorem J6x : Jn ["self","word"] ["self","word"] (J2 J1d):=⟨rfl,rfl,rfl,by decide +kernel,rfl,by decide +kernel,by decide +kernel⟩
theorem J6r : Jn ["self","many","marks","days"] ["self","many","marks","days"] (J2 J1a):=⟨rfl,rfl,rfl,by decide +kernel,rfl,by decide +kernel,by decide +kernel⟩
theorem J6q : Jn ["self","days","kinds","needs","persons","leave","wishes","rules","pairs"] ["self","days","kinds","needs","persons","leave","wishes","rules","pairs"] (J2 J1e):=⟨rfl,rfl,rfl,by decide +kernel,rfl,by decide +kernel,by decide +kernel⟩
theorem J1h : Jn ["self","day","kind","need_day","need_kind","least","most"] ["self","day","kind"] (J2 J19):=⟨rfl,rfl,rfl,by decide +kernel,rfl,by decide +kernel,by decide +kernel⟩
theorem J8Z : Jn ["house","rota","day"] ["house","rota","day"] (J2 J23):=⟨rfl,rfl,rfl,by decide +kernel,rfl,by decide +kernel,by decide +kernel⟩
theorem J3n : Jn ["house","rota","day","having"] ["house","rota","day"] (J2 J0e):=⟨rfl,rfl,rfl,by decide +kernel,rfl,by decide +kernel,by decide +kernel⟩
theorem J3l : Jn ["house","rota","day","having"] ["house","rota","day"] (J2 J0c):=⟨rfl,rfl,rfl,by decide +kernel,rfl,by decide +kernel,by decide +kernel⟩
theorem J16 : Jn ["house","rota","day","found","kind","need","many"] ["house","rota","day"] (J2 J0u):=⟨rfl,rfl,rfl,by decide +kernel,rfl,by decide +kernel,by decide +kernel⟩
theorem J1L : Jn ["house","rota","day","found","person","row","many"] ["house","rota","day"] (J2 J0Q):=⟨rfl,rfl,rfl,by decide +kernel,rfl,by decide +kernel,by decide +kernel⟩
theorem J1N : Jn ["house","rota","day","found","p","person","marks","bound"] ["house","rota","day"] (J2 J0O):=⟨rfl,rfl,rfl,by decide +kernel,rfl,by decide +kernel,by decide +kernel⟩
theorem J1R : Jn ["house","rota","day","found","number","pair","mark","other"] ["house","rota","day"] (J2 J0S):=⟨rfl,rfl,rfl,by decide +kernel,rfl,by decide +kernel,by decide +kernel⟩
theorem J18 : Jn ["house","rota","found","day"] ["house","rota"] (J2 J2P):=⟨rfl,rfl,rfl,by decide +kernel,rfl,by decide +kernel,by decide +kernel⟩
theorem J2j : Jn ["house","day","column","kind","need"] ["house","day","column"] (J2 J0P):=⟨rfl,rfl,rfl,by decide +kernel,rfl,by decide +kernel,by decide +kernel⟩
theorem J1V : Jn ["house","column","word","name","other"] ["house","column"] (J2 J0R):=⟨rfl,rfl,rfl,by decide +kernel,rfl,by decide +kernel,by decide +kernel⟩
theorem J22 : Jn ["house","day","choices","many","marks","found"] ["house","day"] (J2 J1x):=⟨rfl,rfl,rfl,by decide +kernel,rfl,by decide +kernel,by decide +kernel⟩
theorem J6t : Jn ["house"] ["house"] (J2 J0F):=⟨rfl,rfl,rfl,by decide +kernel,rfl,by decide +kernel,by decide +kernel⟩
theorem J0i : Jn ["house","wished","name","day","marks"] ["house"] (J2 JW):=⟨rfl,rfl,rfl,by decide +kernel,rfl,by decide +kernel,by decide +kernel⟩
theorem J4i : Jn ["self","house"] ["self","house"] (J2 J09):=⟨rfl,rfl,rfl,by decide +kernel,rfl,by decide +kernel,by decide +kernel⟩
theorem J3H : Jn ["self","house","rota"] ["self","house","rota"] (J2 JO):=⟨rfl,rfl,rfl,by decide +kernel,rfl,by decide +kernel,by decide +kernel⟩
theorem J3W : Jn ["self","house","level"] ["self","house","level"] (J2 JV):=⟨rfl,rfl,rfl,by decide +kernel,rfl,by decide +kernel,by decide +kernel⟩
theorem J2x : Jn ["house","costs","rota","total","p","row"] ["house","costs","rota"] (J2 J29):=⟨rfl,rfl,rfl,by decide +kernel,rfl,by decide +kernel,by decide +kernel⟩
theorem J6z : Jn ["self","rota","total","paper"] ["self","rota","total","paper"] (J2 J1b):=⟨rfl,rfl,rfl,by decide +kernel,rfl,by decide +kernel,by decide +kernel⟩
theorem J55 : Jn ["self","house","costs"] ["self","house","costs"] (J2 J0y):=⟨rfl,rfl,rfl,by decide +kernel,rfl,by decide +kernel,by decide +kernel⟩
theorem J53 : Jn ["self","paper"] ["self","paper"] (J2 J0z):=⟨rfl,rfl,rfl,by decide +kernel,rfl,by decide +kernel,by decide +kernel⟩
theorem J4g : Jn ["self","house","costs"] ["self","house","costs"] (J2 J08):=⟨rfl,rfl,rfl,by decide +kernel,rfl,by decide +kernel,by decide +kernel⟩
theorem J4d : Jn ["self","house","costs","persons"] ["self","house","costs"] (J2 J0C):=⟨rfl,rfl,rfl,by decide +kernel,rfl,by decide +kernel,by decide +kernel⟩
theorem J3s : Jn ["walk","tails"] ["walk"] (J2 J0q):=⟨rfl,rfl,rfl,by decide +kernel,rfl,by decide +kernel,by decide +kernel⟩
theorem J6k : Jn ["costs","counts","cost"] ["costs","counts","cost"] (J2 J0D):=⟨rfl,rfl,rfl,by decide +kernel,rfl,by decide +kernel,by decide +kernel⟩
theorem J1v : Jn ["page","least","tails","counts","cost","place"] ["page"] (J2 J27):=⟨rfl,rfl,rfl,by decide +kernel,rfl,by decide +kernel,by decide +kernel⟩
theorem J3J : Jn ["entry","least","place"] ["entry","least"] (J2 J1f):=⟨rfl,rfl,rfl,by decide +kernel,rfl,by decide +kernel,by decide +kernel⟩
theorem J0v : Jn ["walk","day","entry","every","choices","steps","column","chosen","tails","counts"] ["walk","day","entry","every"] (J2 JK):=⟨rfl,rfl,rfl,by decide +kernel,rfl,by decide +kernel,by decide +kernel⟩
theorem J2b : Jn ["walk","day","page","least","every","entry","step","column"] ["walk","day","page","least"] (J2 J25):=⟨rfl,rfl,rfl,by decide +kernel,rfl,by decide +kernel,by decide +kernel⟩
theorem J7E : Jn ["self","pages"] ["self","pages"] (J2 J12):=⟨rfl,rfl,rfl,by decide +kernel,rfl,by decide +kernel,by decide +kernel⟩
theorem J1l : Jn ["self","house","costs","walk","day","page","following"] ["self","house","costs"] (J2 J0H):=⟨rfl,rfl,rfl,by decide +kernel,rfl,by decide +kernel,by decide +kernel⟩
theorem JU : Jn ["walk","day","places","every","coming","place","told","step","column","goal"] ["walk","day","places"] (J2 J0U):=⟨rfl,rfl,rfl,by decide +kernel,rfl,by decide +kernel,by decide +kernel⟩
theorem J1c : Jn ["walk","first","reached","day"] ["walk"] (J2 J0k):=⟨rfl,rfl,rfl,by decide +kernel,rfl,by decide +kernel,by decide +kernel⟩
theorem J90 : Jn ["places"] ["places"] (J2 J26):=⟨rfl,rfl,rfl,by decide +kernel,rfl,by decide +kernel,by decide +kernel⟩
theorem J24 : Jn ["house","reached","place","rows","day","told"] ["house","reached","place"] (J2 J1B):=⟨rfl,rfl,rfl,by decide +kernel,rfl,by decide +kernel,by decide +kernel⟩
theorem J0a : Jn ["house","costs","walk","reached","book","ends","rota"] ["house","costs"] (J2 JM):=⟨rfl,rfl,rfl,by decide +kernel,rfl,by decide +kernel,by decide +kernel⟩
theorem J5x : Jn ["_law_script","_law_k"] ["_law_script","_law_k"] (J2 J0V):=⟨rfl,rfl,rfl,by decide +kernel,rfl,by decide +kernel,by decide +kernel⟩
theorem J4q : Jn ["_law_cell","_law_many","_law_letters"] ["_law_cell","_law_many"] (J2 J15):=⟨rfl,rfl,rfl,by decide +kernel,rfl,by decide +kernel,by decide +kernel⟩
theorem J0G : Jn ["_law_script","_law_days","_law_kinds_here","_law_found","_law_day","_law_cell","_law_k","_law_one","_law_lower"] ["_law_script","_law_days","_law_kinds_here"] (J2 J1z):=⟨rfl,rfl,rfl,by decide +kernel,rfl,by decide +kernel,by decide +kernel⟩
theorem J7h : Jn ["_law_cell","_law_house"] ["_law_cell","_law_house"] (J2 J1y):=⟨rfl,rfl,rfl,by decide +kernel,rfl,by decide +kernel,by decide +kernel⟩
theorem J7K : Jn ["_law_days","_law_shut"] ["_law_days","_law_shut"] (J2 J0B):=⟨rfl,rfl,rfl,by decide +kernel,rfl,by decide +kernel,by decide +kernel⟩
theorem J7D : Jn ["_law_found"] ["_law_found"] (J2 J1w):=⟨rfl,rfl,rfl,by decide +kernel,rfl,by decide +kernel,by decide +kernel⟩
theorem J1T : Jn ["_law_script","_law_cell","_law_days","_law_kinds_here","_law_needs_here","_law_rules","_law_house","_law_costs_here","_law_shut","_law_day","_law_due","_law_answer","_law_floor"] ["_law_script"] (J2 J2R):=⟨rfl,rfl,rfl,by decide +kernel,rfl,by decide +kernel,by decide +kernel⟩
structure Tx (K : PySem.W.Frag) (mg : Str → Option Value) (Ji Jh J1 Jj J4 J3 J5 Jb J8 Jg Jf : Addr) : Prop where
 J7m : MF K Ji "__init__" "Never.__init__" J1d
 J7q : MF K Jh "__init__" "Least.__init__" J1a
 J7I : MF K J1 "__init__" "House.__init__" J1e
 J7j : MF K J1 "need" "House.need" J19
 J9U : GF K mg "on_duty" J23
 J5T : GF K mg "skill_faults" J0e
 J5M : GF K mg "leave_faults" J0c
 J6y : GF K mg "need_faults" J0u
 J6m : GF K mg "most_faults" J0Q
 J6p : GF K mg "rule_faults" J0O
 J6D : GF K mg "pair_faults" J0S
 JaE : GF K mg "faults" J2P
 J6o : GF K mg "meets_needs" J0P
 J6A : GF K mg "keeps_pairs" J0R
 J9V : GF K mg "columns" J1x
 J7B : GF K mg "burdens_of" J0F
 J4c : GF K mg "wishes_by_place" JW
 J4L : MF K J4 "__init__" "EvenCosts.__init__" J09
 J41 : MF K J3 "__init__" "ChangeCosts.__init__" JO
 J4f : MF K J5 "__init__" "LevelCosts.__init__" JV
 J91 : GF K mg "total_of" J29
 J7d : MF K Jb "__init__" "Found.__init__" J1b
 J5N : MF K Jb "stands" "Found.stands" J0y
 J5D : MF K J8 "__init__" "Without.__init__" J0z
 J4I : MF K J8 "stands" "Without.stands" J08
 J8c : MF K Jf "__init__" "Walk.__init__" J0C
 J6v : GF K mg "first_entry" J0q
 J7J : GF K mg "whole_cost" J0D
 J92 : GF K mg "cheapest" J27
 J7t : GF K mg "is_covered" J1f
 J7w : GF K mg "steps_from" JK
 J8Y : GF K mg "leads_on" J25
 J8g : MF K Jg "__init__" "Book.__init__" J12
 J7p : MF K Jg "floor" "Book.floor" J0H
 J6E : GF K mg "next_places" J0U
 J51 : GF K mg "places_by_day" J0k
 Ja0 : GF K mg "page_of" J26
 J9X : GF K mg "rota_to" J1B
 J54 : GF K mg "least_by_book" JM
 J6C : GF K mg "_law_cell_at" J0V
 J8a : GF K mg "_law_kinds" J15
 J8f : GF K mg "_law_needs" J1z
 J8n : GF K mg "_law_costs" J1y
 J8j : GF K mg "_law_pages" J0B
 J8b : GF K mg "_law_whole" J1w
 Jes : GF K mg "law" J2R
 J7F : CF K mg "Never" Ji
 J7n : CF K mg "Least" Jh
 JA : CF K mg "House" J1
 J7i : CF K mg "Costs" Jj
 J3v : CF K mg "EvenCosts" J4
 J2G : CF K mg "ChangeCosts" J3
 J2Y : CF K mg "LevelCosts" J5
 J2W : CF K mg "Found" Jb
 J28 : CF K mg "Without" J8
 J45 : CF K mg "Book" Jg
 J3w : CF K mg "Walk" Jf
 JbY : J9L K Jb
 J1m : PySem.W.kitOne K (.ref Jb) (.ref Jb) = some true
 J0K : PySem.W.kitOne K (.ref Jb) (.ref J8) = some false
 J2h : PySem.W.kitOne K (.ref Jb) (.ref Jg) = some false
 J9W : J9L K J8
 J1q : PySem.W.kitOne K (.ref J8) (.ref Jb) = some false
 J0m : PySem.W.kitOne K (.ref J8) (.ref J8) = some true
 J1E : PySem.W.kitOne K (.ref J8) (.ref Jg) = some false
 Jdb : J9L K Jg
 J2g : PySem.W.kitOne K (.ref Jg) (.ref Jb) = some false
 J1I : PySem.W.kitOne K (.ref Jg) (.ref J8) = some false
 J2c : PySem.W.kitOne K (.ref Jg) (.ref Jg) = some true
 J1F : JC K Ji "word"
 J1U : JC K Jh "many"
 J1i : JC K Jh "marks"
 J1O : JC K Jh "days"
 JZ : JC K J1 "days"
 J0p : JC K J1 "kinds"
 J0T : JC K J1 "needs"
 Ju : JC K J1 "persons"
 J1j : JC K J1 "leave"
 J0d : JC K J1 "wishes"
 J1k : JC K J1 "rules"
 J0t : JC K J1 "pairs"
 J0g : JC K J4 "weight"
 JY : JC K J4 "burdens"
 J0f : JC K J4 "wished"
 J0b : JC K J3 "rows"
 JT : JC K J5 "burdens"
 J0h : JC K J5 "level"
 J0E : JC K Jb "rota"
 J0r : JC K Jb "total"
 J0s : JC K Jb "paper"
 JX : JC K J8 "paper"
 J0I : JC K Jg "pages"
 J00 : JC K Jf "house"
 J1G : JC K Jf "costs"
 J1J : JC K Jf "bound"
 J1C : JC K Jf "kept"
 J1M : JC K Jf "known"
 J5q : mg "bool" = none
 J0l : mg "enumerate" = none
 J8e : mg "int" = none
 J01 : mg "isinstance" = none
 J21 : mg "len" = none
 J1Q : mg "list" = none
 J4m : mg "min" = none
 J0x : mg "range" = none
 J2Q : mg "sorted" = none
 J6I : mg "sum" = none
 J2z : mg "tuple" = none
 J4X : mg "zip" = none
 J13 : ∃ t,mg "MOST_COLUMNS" = some (.int 256 t)
 J11 : ∃ t,mg "MOST_ENTRIES" = some (.int 300 t)
 J3u : PySem.W.findIn K (.ref Jj) "__init__" = some (some (.builtin "object.__init__"))
theorem J84 {α : Type} (l : List α) (i : Int) (h0 : 0 ≤ i) (h : i < l.length) : ∃ c,atI l i = some c ∧ l[i.toNat]? = some c:=by
 have hi : i.toNat < l.length:=by omega
 have e : i = ((i.toNat : Nat) : Int):=by omega
 have q : atI l ((i.toNat : Nat) : Int) = some l[i.toNat]:=J2D (by simp [hi])
 rw [← e] at q
 exact ⟨l[i.toNat],q,List.getElem?_eq_getElem hi⟩
theorem JdB (ns : List Int) (i : Int) (h0 : 0 ≤ i) (h : i < ns.length) : ∃ z,atI (ns.map V.int) i = some (.int z) ∧ ns[i.toNat]? = some z:=by
 obtain ⟨c,h1,h2⟩:=J84 (ns.map V.int) i h0 (by rw [List.length_map]; exact h)
 rw [List.getElem?_map] at h2
 cases hz : ns[i.toNat]? with
 | none=>rw [hz] at h2; cases h2
 | some z =>
  rw [hz] at h2
  have e : c = .int z:=(Option.some.inj h2).symm
  subst e
  exact ⟨z,h1,rfl⟩
noncomputable def sp_law (K : PySem.W.Frag) : Sp:=fun vs H Q _=>∃ (a : Addr) (ns : List Int),vs = [.ref a] ∧ SqL K H a (ns.map V.int) ∧ ns.length ≤ 63 ∧ ∀ H',Q (.bl true) H'
theorem JdG {p : (Nat → Nat → St → Hp → Prop) → Prop} (h : ∃ W,p W) : ∃ W,p W:=h
theorem JcA {p : (Nat → St → Hp → Prop) → Prop} (h : ∃ W,p W) : ∃ W,p W:=h
theorem Je2 {A B : Prop} (h : B) : if (!true) = true then A else B:=h
theorem Je4 {A B : Prop} (h : A) : if (!false) = true then A else B:=h
theorem Jcb {i j : Int} (h1 : 0 < j) (h2 : j < 1073741824) : CDiv i j:=⟨h1,h2⟩
theorem Jef {i j : Int} (h1 : -(2 ^ 64) < i) (h2 : i < 2 ^ 64) : CMul i j:=.inl ⟨h1,h2⟩
theorem Je5 {i j : Int} (h1 : -(2 ^ 64) < j) (h2 : j < 2 ^ 64) : CMul i j:=.inr ⟨h1,h2⟩
theorem JdV {n : Int} (h : 0 < n) : 0 < n:=h
@[irreducible] def Here (p : Prop) : Prop:=p
theorem Here.mk {p : Prop} (h : p) : Here p:=by unfold Here; exact h
theorem Here.out {p : Prop} (h : Here p) : p:=by unfold Here at h; exact h
theorem JbB {i : Nat} {v : V} {σ σ' : St} {H : Hp} {Q : St → Hp → Prop} (e : σ.set i (some v) = σ') (h : Q σ' H) : J3V i v σ H Q:=by subst e; exact h
theorem JaS {n : Nat} (h : n ≤ 100000) : n ≤ sizeLine:=Nat.le_trans h (by decide)
theorem JbF {n : Nat} (h : n ≤ 100000) : n < sizeLine:=Nat.lt_of_le_of_lt h (by decide)
local macro_rules | `(tactic| walk_at "len")=>`(tactic| (simp only [List.length_append,List.length_cons,List.length_nil,List.length_singleton,List.length_take,List.length_drop,List.length_map,List.length_reverse,List.length_range] <;> omega))
local macro_rules | `(tactic| walk_at "st")=>`(tactic| (try simp only [L2.start,List.map_cons,List.map_nil,List.length_cons,List.length_nil,Nat.reduceAdd,Nat.reduceSub,List.replicate_succ,List.replicate_zero,List.cons_append,List.nil_append]))
local macro_rules | `(tactic| walk_at "lk")=>`(tactic| fail)
local macro_rules | `(tactic| walk_at "cl")=>`(tactic| first
 | (with_reducible assumption) | rfl
 | (with_reducible show @LE.le Nat _ _ _; first | omega | (walk_at "len") | exact JaS (by omega) | exact JaS (by walk_at "len"))
 | (with_reducible show @LT.lt Nat _ _ _; first | omega | (walk_at "len") | exact JbF (by omega) | exact JbF (by walk_at "len"))
 | (with_reducible show @LE.le Int _ _ _; omega) | (with_reducible show @LT.lt Int _ _ _; omega)
 | ((with_reducible refine Jcb ?_ ?_) <;> omega) | ((with_reducible refine Jef ?_ ?_) <;> omega) | ((with_reducible refine Je5 ?_ ?_) <;> omega) | ((with_reducible refine JdV ?_) <;> omega)
 | exact Jd | exact J0n (by with_reducible assumption) _ _ _ Jd | exact SqL.of (by with_reducible assumption) | exact SqL.of Jd | exact SqT.of Jd | exact SqT.of (by with_reducible assumption) | exact Or.inl (by with_reducible assumption) | exact Or.inl (SqL.of (by with_reducible assumption)) | exact Or.inl (SqL.of Jd)
 | exact Or.inl ⟨rfl,_,SqL.of (by with_reducible assumption)⟩ | exact Or.inl ⟨rfl,_,SqL.of Jd⟩ | exact Or.inl ⟨rfl,_,by with_reducible assumption⟩ | exact ⟨_,by with_reducible assumption⟩ | exact ⟨_,SqL.of (by with_reducible assumption)⟩ | exact ⟨_,SqL.of Jd⟩
 | exact ⟨by omega,by omega⟩ | assumption | walk_at "lk")
local macro_rules | `(tactic| walk_at "rd1")=>`(tactic| first
 | (with_reducible refine JbB (by first | (simp only [List.set_cons_zero,List.set_cons_succ]; done) | (simp only [List.set_cons_zero,List.set_cons_succ]; rfl)) ?_)
 | (with_reducible refine iteT ?_) | (with_reducible refine iteF ?_) | (with_reducible refine Je2 ?_) | (with_reducible refine Je4 ?_)
 | ((fail_if_success apply JdG); (fail_if_success apply JcA); apply Exists.intro)
 | (apply And.intro; (· walk_at "cl"))
 | (refine Or.inl ⟨_,rfl,?_⟩) | (refine Or.inr (Or.inl ⟨_,rfl,?_⟩)) | (refine Or.inr (Or.inr (Or.inl ⟨_,rfl,?_⟩))) | (refine Or.inr (Or.inr (Or.inr (Or.inl ⟨_,rfl,?_⟩)))) | (refine Or.inr (Or.inr (Or.inr (Or.inr ⟨_,_,rfl,by with_reducible assumption,?_⟩)))))
local macro_rules | `(tactic| walk_at "rd")=>`(tactic| repeat (walk_at "rd1"))
theorem J2t {f : Str} {v : V} {r : List (Str × V)} : List.lookup f ((f,v) :: r) = some v:=by rw [List.lookup_cons,beq_self_eq_true]
theorem JJ {f g : Str} {v : V} {r : List (Str × V)} (h : f ≠ g) : List.lookup f ((g,v) :: r) = List.lookup f r:=by rw [List.lookup_cons,beq_eq_false_iff_ne.mpr h]
theorem putN {f : Str} {v : V} : ∀ {fs : List (Str × V)},(∀ g ∈ fs.map (·.1),g ≠ f) → putF f v fs = fs ++ [(f,v)]
 | [],_=>rfl
 | (g,x) :: r,h=>by
  have h1 : ¬ g = f:=h g (by simp)
  have ih:=putN (f:=f) (v:=v) (fs:=r) fun g hg=>h g (by rw [List.map_cons]; exact List.mem_cons_of_mem _ hg)
  show (if g = f then (g,v) :: r else (g,x) :: putF f v r) = _
  rw [if_neg h1,ih]
  rfl
noncomputable abbrev fH (a b c d e f g h : V) : List (Str × V):=[("days",a),("kinds",b),("needs",c),("persons",d),("leave",e),("wishes",f),("rules",g),("pairs",h)]
theorem J3G (a b c d e f g h : V) : List.lookup ("days" : Str) (fH a b c d e f g h) = some a:=J2t
theorem J4z (a b c d e f g h : V) : List.lookup ("kinds" : Str) (fH a b c d e f g h) = some b:=by rw [JJ (by decide +kernel),J2t]
theorem Jb1 (a b c d e f g h : V) : List.lookup ("needs" : Str) (fH a b c d e f g h) = some c:=by rw [JJ (by decide +kernel),JJ (by decide +kernel),J2t]
theorem J1r (a b c d e f g h : V) : List.lookup ("persons" : Str) (fH a b c d e f g h) = some d:=by rw [JJ (by decide +kernel),JJ (by decide +kernel),JJ (by decide +kernel),J2t]
theorem Jbq (a b c d e f g h : V) : List.lookup ("leave" : Str) (fH a b c d e f g h) = some e:=by rw [JJ (by decide +kernel),JJ (by decide +kernel),JJ (by decide +kernel),JJ (by decide +kernel),J2t]
theorem J6O (a b c d e f g h : V) : List.lookup ("wishes" : Str) (fH a b c d e f g h) = some f:=by rw [JJ (by decide +kernel),JJ (by decide +kernel),JJ (by decide +kernel),JJ (by decide +kernel),JJ (by decide +kernel),J2t]
theorem Jb9 (a b c d e f g h : V) : List.lookup ("pairs" : Str) (fH a b c d e f g h) = some h:=by rw [JJ (by decide +kernel),JJ (by decide +kernel),JJ (by decide +kernel),JJ (by decide +kernel),JJ (by decide +kernel),JJ (by decide +kernel),JJ (by decide +kernel),J2t]
noncomputable def J8M (C : Addr) (H : Hp) (p : Addr) (d : Int) (k : List Nat) (a1 a2 a3 a4 a5 a6 : Addr) : Prop:=∃ dx,H p = some (.ins C dx (fH (.int d) (T k) (.ref a1) (.ref a2) (.ref a3) (.ref a4) (.ref a5) (.ref a6)))
theorem J8M.keeps {C : Addr} {H H' : Hp} {p : Addr} {d : Int} {k : List Nat} {a1 a2 a3 a4 a5 a6 : Addr} (h : J8M C H p d k a1 a2 a3 a4 a5 a6) (kk : J3o H H') : J8M C H' p d k a1 a2 a3 a4 a5 a6:=let ⟨dx,e⟩:=h; ⟨dx,kk _ _ e fun zs z=>by cases z⟩
noncomputable def But (p : Addr) (H H' : Hp) : Prop:=∀ a o,a ≠ p → H a = some o → H' a = some o
theorem But.refl (p : Addr) (H : Hp) : But p H H:=fun _ _ _ h=>h
theorem But.at {p : Addr} {H H' : Hp} {o : HO} (b : But p H H') : But p H (upd H' p o):=fun a u n e=>by rw [Ja n]; exact b a u n e
theorem But.new {p l : Addr} {H H' : Hp} {o : HO} (b : But p H H') (hl : H' l = none) : But p H (upd H' l o):=fun a u n e=>by
 have:=b a u n e
 rw [Ja (J9 this hl)]; exact this
noncomputable def J86 (C : Addr) : Sp:=fun vs H Q _=>∃ p dx d k b1 b2 b3 b4 b5 b6 x1 x2 x3 x4 x5 x6,vs = [.ref p,d,k,.ref b1,.ref b2,.ref b3,.ref b4,.ref b5,.ref b6] ∧ H p = some (.ins C dx []) ∧
 H b1 = some (.lst x1) ∧ H b2 = some (.lst x2) ∧ H b3 = some (.lst x3) ∧ H b4 = some (.lst x4) ∧ H b5 = some (.lst x5) ∧ H b6 = some (.lst x6) ∧
 ∀ H' a1 a2 a3 a4 a5 a6,But p H H' → H' p = some (.ins C dx (fH d k (.ref a1) (.ref a2) (.ref a3) (.ref a4) (.ref a5) (.ref a6))) → H' a1 = some (.lst x1) → H' a2 = some (.lst x2) → H' a3 = some (.lst x3) → H' a4 = some (.lst x4) → H' a5 = some (.lst x5) → H' a6 = some (.lst x6) →
  H a1 = none → H a2 = none → H a3 = none → H a4 = none → H a5 = none → H a6 = none → Q .non H'
noncomputable def rHou (C : Addr) : List V → Hp → VK → Prop:=fun vs H Q=>∃ d k b1 b2 b3 b4 b5 b6 x1 x2 x3 x4 x5 x6,vs = [.int d,T k,.ref b1,.ref b2,.ref b3,.ref b4,.ref b5,.ref b6] ∧
 H b1 = some (.lst x1) ∧ H b2 = some (.lst x2) ∧ H b3 = some (.lst x3) ∧ H b4 = some (.lst x4) ∧ H b5 = some (.lst x5) ∧ H b6 = some (.lst x6) ∧
 ∀ p H' a1 a2 a3 a4 a5 a6,Same H H' → J8M C H' p d k a1 a2 a3 a4 a5 a6 → H' a1 = some (.lst x1) → H' a2 = some (.lst x2) → H' a3 = some (.lst x3) → H' a4 = some (.lst x4) → H' a5 = some (.lst x5) → H' a6 = some (.lst x6) →
  H a1 = none → H a2 = none → H a3 = none → H a4 = none → H a5 = none → H a6 = none → Q (.ref p) H'
theorem J0W {H H' : Hp} {x dx : Addr} {u o : HO} (nx : H x = none) (nd : H dx = none) (b : But x (upd (upd H dx u) x o) H') : Same H H':=fun a v e=>by
 have h1 : a ≠ x:=J9 e nx
 refine b a v h1 ?_
 rw [Ja h1,Ja (J9 e nd)]
 exact e
theorem J2a {H : Hp} {x dx a : Addr} {u o : HO} (h : upd (upd H dx u) x o a = none) : H a = none:=by
 have h1 : a ≠ x:=fun z=>by subst z; rw [Jd] at h; cases h
 rw [Ja h1] at h
 have h2 : a ≠ dx:=fun z=>by subst z; rw [Jd] at h; cases h
 rw [Ja h2] at h
 exact h
theorem J1Z {H : Hp} {x dx a : Addr} {u o v : HO} (nx : H x = none) (nd : H dx = none) (e : H a = some v) : upd (upd H dx u) x o a = some v:=by
 rw [Ja (J9 e nx),Ja (J9 e nd)]; exact e
theorem JdN {C : Addr} : ∀ vs H Q,rHou C vs H Q → ∀ x dx,H x = none → H dx = none → dx ≠ x → J86 C (.ref x :: (vs ++ [])) (upd (upd H dx (.own x)) x (.ins C dx [])) (fun v H2=>v = .non ∧ Q (.ref x) H2) E0:=by
 rintro _ H Q ⟨d,k,b1,b2,b3,b4,b5,b6,x1,x2,x3,x4,x5,x6,rfl,h1,h2,h3,h4,h5,h6,q⟩ x dx nx nd _
 exact ⟨x,dx,_,_,b1,b2,b3,b4,b5,b6,x1,x2,x3,x4,x5,x6,rfl,Jd,J1Z nx nd h1,J1Z nx nd h2,J1Z nx nd h3,J1Z nx nd h4,J1Z nx nd h5,J1Z nx nd h6,
  fun H' a1 a2 a3 a4 a5 a6 b e e1 e2 e3 e4 e5 e6 n1 n2 n3 n4 n5 n6=>⟨rfl,q x H' a1 a2 a3 a4 a5 a6 (J0W nx nd b) ⟨dx,e⟩ e1 e2 e3 e4 e5 e6 (J2a n1) (J2a n2) (J2a n3) (J2a n4) (J2a n5) (J2a n6)⟩⟩
noncomputable def J2d (ns : List Int) (k : Int) : Int:=ns.getD k.toNat 0
noncomputable def JaF (K : PySem.W.Frag) : Sp:=fun vs H Q _=>∃ (a : Addr) (ns : List Int) (k : Int),vs = [.ref a,.int k] ∧ SqL K H a (ns.map V.int) ∧ 0 ≤ k ∧ Q (.int (J2d ns k)) H
noncomputable def JaL : Sp:=fun vs H Q _=>∃ (n : Int),vs = [.int n] ∧ Q (.bl true) H
noncomputable abbrev ABC : List Nat:=[65,66,67,68,69,70,71,72,73,74,75,76,77,78,79,80,81,82,83,84,85,86,87,88,89,90]
noncomputable def cap (i : Int) : Nat:=65 + i.toNat
theorem JdE (i : Int) (h0 : 0 ≤ i) (h1 : i < 26) : atI ABC i = some (cap i):=by
 obtain ⟨c,h2,h3⟩:=J84 ABC i h0 (by show i < 26; exact h1)
 have key : ∀ n : Nat,n < 26 → ABC[n]? = some (65 + n):=by decide
 rw [h2]
 rw [key i.toNat (by omega)] at h3
 exact h3.symm
theorem Jb5 {ns : List Int} {k : Int} (h0 : 0 ≤ k) (h : k < ns.length) : atI (ns.map V.int) k = some (.int (J2d ns k)):=by
 obtain ⟨z,h1,h2⟩:=JdB ns k h0 h
 unfold J2d
 rw [h1,List.getD_eq_getElem?_getD,h2]
 rfl
theorem Jbr {ns : List Int} {k : Int} (h : (ns.length : Int) ≤ k) : J2d ns k = 0:=by
 unfold J2d
 rw [List.getD_eq_getElem?_getD,List.getElem?_eq_none (by omega)]
 rfl
structure Nd where
 day : Int
 kind : Nat
 least : Int
 most : Int
noncomputable def NdAt : Nd → V → Hp → Prop:=fun n y H=>∃ t,y = .ref t ∧ H t = some (.tup [.int n.day,T [n.kind],.int n.least,.int n.most])
theorem NdAt.keeps (n : Nd) (y : V) (Ha Hb : Hp) (k : J3o Ha Hb) (h : NdAt n y Ha) : NdAt n y Hb:=let ⟨t,e,h⟩:=h; ⟨t,e,k _ _ h fun zs z=>by cases z⟩
noncomputable def J0j : List Nd → Int → Nat → Int × Int
 | [],_,_=>(0,0)
 | n :: r,d,k=>if n.day = d ∧ n.kind = k then (n.least,n.most) else J0j r d k
theorem J64 {nds : List Nd} {i : Nat} {d : Int} {k : Nat} (h : ∀ j < i,∀ n,nds[j]? = some n → ¬ (n.day = d ∧ n.kind = k)) : J0j nds d k = J0j (nds.drop i) d k:=by
 induction i generalizing nds with
 | zero=>rfl
 | succ i ih =>
  cases nds with
  | nil=>rfl
  | cons n r =>
   rw [List.drop_succ_cons,← ih (nds:=r) fun j hj m hm=>h (j + 1) (by omega) m (by simpa using hm)]
   rw [J0j,if_neg (h 0 (by omega) n rfl)]
theorem Ja5 {nds : List Nd} {i : Nat} {d : Int} {k : Nat} {n : Nd} (h : ∀ j < i,∀ n,nds[j]? = some n → ¬ (n.day = d ∧ n.kind = k)) (hi : nds[i]? = some n) (e : n.day = d ∧ n.kind = k) : J0j nds d k = (n.least,n.most):=by
 rw [J64 h,List.drop_eq_getElem_cons (List.getElem?_eq_some_iff.mp hi).1,J0j]
 have : nds[i]'(List.getElem?_eq_some_iff.mp hi).1 = n:=(List.getElem?_eq_some_iff.mp hi).2
 rw [this,if_pos e]
theorem J9i {nds : List Nd} {d : Int} {k : Nat} (h : ∀ j < nds.length,∀ n,nds[j]? = some n → ¬ (n.day = d ∧ n.kind = k)) : J0j nds d k = (0,0):=by
 rw [J64 h,List.drop_eq_nil_of_le (Nat.le_refl _)]
 rfl
section
variable {P : Program} {w : World} {K : PySem.W.Frag} {mg : Str → Option Value} {base : Heap} {Ji Jh J1 Jj J4 J3 J5 Jb J8 Jg Jf : Addr}
theorem J7l (tx : Tx K mg Ji Jh J1 Jj J4 J3 J5 Jb J8 Jg Jf) : MtG P w K mg base J1 "__init__" 1 ["self","days","kinds","needs","persons","leave","wishes","rules","pairs"] (J86 J1):=by
 refine tx.J7I.g tx.JA.cl J6q (fun _ _ _ _ _ _ us hl=>match us,hl with | [_,_,_,_,_,_,_,_,_],_=>rfl) (fun vs H Q E h=>?_) (fun f cdv A outer s H vs Q E hr h=>?_)
 ·obtain ⟨p,dx,d,k,b1,b2,b3,b4,b5,b6,x1,x2,x3,x4,x5,x6,rfl,_⟩:=h
  rfl
 ·obtain ⟨p,dx,d,k,b1,b2,b3,b4,b5,b6,x1,x2,x3,x4,x5,x6,rfl,hp,h1,h2,h3,h4,h5,h6,q⟩:=h
  refine ⟨_,(J7 (JN (pv 0) (pv 1) rfl)
   (J7 (JN (pv 0) (pv 2) rfl)
   (J7 (JN (pv 0) (JQ J02 rfl tx.J1Q J0w (J0 (pv 3) J6)) rfl)
   (J7 (JN (pv 0) (JQ J02 rfl tx.J1Q J0w (J0 (pv 4) J6)) rfl)
   (J7 (JN (pv 0) (JQ J02 rfl tx.J1Q J0w (J0 (pv 5) J6)) rfl)
   (J7 (JN (pv 0) (JQ J02 rfl tx.J1Q J0w (J0 (pv 6) J6)) rfl)
   (J7 (JN (pv 0) (JQ J02 rfl tx.J1Q J0w (J0 (pv 7) J6)) rfl)
   (Jc (JN (pv 0) (JQ J02 rfl tx.J1Q J0w (J0 (pv 8) J6)) rfl))))))))),?_⟩
  walk_at "st"
  have nb : ∀ {b : Addr} {x : List V},H b = some (.lst x) → b ≠ p:=fun e=>J2f e hp (by intro z; cases z)
  refine ⟨_,rfl,_,rfl,p,J1,dx,[],rfl,hp,tx.JA.cl,tx.JZ,(by show 0 < 1000; decide),?_⟩
  refine ⟨_,rfl,_,rfl,p,J1,dx,[("days",d)],rfl,Jd,tx.JA.cl,tx.J0p,(by show 1 < 1000; decide),?_⟩
  rw [putN (fs:=[("days",d)]) (show ∀ g ∈ [("days" : Str)],g ≠ "kinds" from by decide +kernel)]
  have B0 : But p H (upd (upd H p (.ins J1 dx (putF "days" d []))) p (.ins J1 dx ([(("days" : Str),d)] ++ [(("kinds" : Str),k)]))):=(But.refl p H).at.at
  have e0 : upd (upd H p (.ins J1 dx (putF "days" d []))) p (.ins J1 dx ([(("days" : Str),d)] ++ [(("kinds" : Str),k)])) p = some (.ins J1 dx [("days",d),("kinds",k)]):=Jd
  generalize upd (upd H p (.ins J1 dx (putF "days" d []))) p (.ins J1 dx ([(("days" : Str),d)] ++ [(("kinds" : Str),k)])) = H0 at B0 e0 ⊢
  refine ⟨_,rfl,b1,x1,rfl,.inl (SqL.of (B0 _ _ (nb h1) h1)),fun a1 n1=>?_⟩
  refine ⟨_,rfl,p,J1,dx,[("days",d),("kinds",k)],rfl,(Ja (J9 e0 n1)).trans e0,tx.JA.cl,tx.J0T,(by show 2 < 1000; decide),?_⟩
  rw [putN (fs:=[("days",d),("kinds",k)]) (show ∀ g ∈ [("days" : Str),"kinds"],g ≠ "needs" from by decide +kernel)]
  have z1 : a1 ≠ p:=(J9 e0 n1).symm
  have B1 : But p H (upd (upd H0 a1 (.lst x1)) p (.ins J1 dx ([(("days" : Str),d),("kinds",k)] ++ [(("needs" : Str),.ref a1)]))):=(B0.new n1).at
  have e1 : upd (upd H0 a1 (.lst x1)) p (.ins J1 dx ([(("days" : Str),d),("kinds",k)] ++ [(("needs" : Str),.ref a1)])) p = some (.ins J1 dx [("days",d),("kinds",k),("needs",.ref a1)]):=Jd
  have y1 : upd (upd H0 a1 (.lst x1)) p (.ins J1 dx ([(("days" : Str),d),("kinds",k)] ++ [(("needs" : Str),.ref a1)])) a1 = some (.lst x1):=by rw [Ja z1]; exact Jd
  have m1 : H a1 = none:=by cases hh : H a1 with | none=>rfl | some o=>rw [B0 _ _ z1 hh] at n1; cases n1
  generalize upd (upd H0 a1 (.lst x1)) p (.ins J1 dx ([(("days" : Str),d),("kinds",k)] ++ [(("needs" : Str),.ref a1)])) = H1 at B1 e1 y1 ⊢
  refine ⟨_,rfl,b2,x2,rfl,.inl (SqL.of (B1 _ _ (nb h2) h2)),fun a2 n2=>?_⟩
  refine ⟨_,rfl,p,J1,dx,[("days",d),("kinds",k),("needs",.ref a1)],rfl,(Ja (J9 e1 n2)).trans e1,tx.JA.cl,tx.Ju,(by show 3 < 1000; decide),?_⟩
  rw [putN (fs:=[("days",d),("kinds",k),("needs",.ref a1)]) (show ∀ g ∈ [("days" : Str),"kinds","needs"],g ≠ "persons" from by decide +kernel)]
  have z2 : a2 ≠ p:=(J9 e1 n2).symm
  have B2 : But p H (upd (upd H1 a2 (.lst x2)) p (.ins J1 dx ([(("days" : Str),d),("kinds",k),("needs",.ref a1)] ++ [(("persons" : Str),.ref a2)]))):=(B1.new n2).at
  have e2 : upd (upd H1 a2 (.lst x2)) p (.ins J1 dx ([(("days" : Str),d),("kinds",k),("needs",.ref a1)] ++ [(("persons" : Str),.ref a2)])) p = some (.ins J1 dx [("days",d),("kinds",k),("needs",.ref a1),("persons",.ref a2)]):=Jd
  have y2 : upd (upd H1 a2 (.lst x2)) p (.ins J1 dx ([(("days" : Str),d),("kinds",k),("needs",.ref a1)] ++ [(("persons" : Str),.ref a2)])) a2 = some (.lst x2):=by rw [Ja z2]; exact Jd
  have y12 : upd (upd H1 a2 (.lst x2)) p (.ins J1 dx ([(("days" : Str),d),("kinds",k),("needs",.ref a1)] ++ [(("persons" : Str),.ref a2)])) a1 = some (.lst x1):=by rw [Ja z1,Ja (J9 y1 n2)]; exact y1
  have m2 : H a2 = none:=by cases hh : H a2 with | none=>rfl | some o=>rw [B1 _ _ z2 hh] at n2; cases n2
  generalize upd (upd H1 a2 (.lst x2)) p (.ins J1 dx ([(("days" : Str),d),("kinds",k),("needs",.ref a1)] ++ [(("persons" : Str),.ref a2)])) = H2 at B2 e2 y2 y12 ⊢
  refine ⟨_,rfl,b3,x3,rfl,.inl (SqL.of (B2 _ _ (nb h3) h3)),fun a3 n3=>?_⟩
  refine ⟨_,rfl,p,J1,dx,[("days",d),("kinds",k),("needs",.ref a1),("persons",.ref a2)],rfl,(Ja (J9 e2 n3)).trans e2,tx.JA.cl,tx.J1j,(by show 4 < 1000; decide),?_⟩
  rw [putN (fs:=[("days",d),("kinds",k),("needs",.ref a1),("persons",.ref a2)]) (show ∀ g ∈ [("days" : Str),"kinds","needs","persons"],g ≠ "leave" from by decide +kernel)]
  have z3 : a3 ≠ p:=(J9 e2 n3).symm
  have B3 : But p H (upd (upd H2 a3 (.lst x3)) p (.ins J1 dx ([(("days" : Str),d),("kinds",k),("needs",.ref a1),("persons",.ref a2)] ++ [(("leave" : Str),.ref a3)]))):=(B2.new n3).at
  have e3 : upd (upd H2 a3 (.lst x3)) p (.ins J1 dx ([(("days" : Str),d),("kinds",k),("needs",.ref a1),("persons",.ref a2)] ++ [(("leave" : Str),.ref a3)])) p = some (.ins J1 dx [("days",d),("kinds",k),("needs",.ref a1),("persons",.ref a2),("leave",.ref a3)]):=Jd
  have y3 : upd (upd H2 a3 (.lst x3)) p (.ins J1 dx ([(("days" : Str),d),("kinds",k),("needs",.ref a1),("persons",.ref a2)] ++ [(("leave" : Str),.ref a3)])) a3 = some (.lst x3):=by rw [Ja z3]; exact Jd
  have y13 : upd (upd H2 a3 (.lst x3)) p (.ins J1 dx ([(("days" : Str),d),("kinds",k),("needs",.ref a1),("persons",.ref a2)] ++ [(("leave" : Str),.ref a3)])) a1 = some (.lst x1):=by rw [Ja z1,Ja (J9 y12 n3)]; exact y12
  have y23 : upd (upd H2 a3 (.lst x3)) p (.ins J1 dx ([(("days" : Str),d),("kinds",k),("needs",.ref a1),("persons",.ref a2)] ++ [(("leave" : Str),.ref a3)])) a2 = some (.lst x2):=by rw [Ja z2,Ja (J9 y2 n3)]; exact y2
  have m3 : H a3 = none:=by cases hh : H a3 with | none=>rfl | some o=>rw [B2 _ _ z3 hh] at n3; cases n3
  generalize upd (upd H2 a3 (.lst x3)) p (.ins J1 dx ([(("days" : Str),d),("kinds",k),("needs",.ref a1),("persons",.ref a2)] ++ [(("leave" : Str),.ref a3)])) = H3 at B3 e3 y3 y13 y23 ⊢
  refine ⟨_,rfl,b4,x4,rfl,.inl (SqL.of (B3 _ _ (nb h4) h4)),fun a4 n4=>?_⟩
  refine ⟨_,rfl,p,J1,dx,[("days",d),("kinds",k),("needs",.ref a1),("persons",.ref a2),("leave",.ref a3)],rfl,(Ja (J9 e3 n4)).trans e3,tx.JA.cl,tx.J0d,(by show 5 < 1000; decide),?_⟩
  rw [putN (fs:=[("days",d),("kinds",k),("needs",.ref a1),("persons",.ref a2),("leave",.ref a3)]) (show ∀ g ∈ [("days" : Str),"kinds","needs","persons","leave"],g ≠ "wishes" from by decide +kernel)]
  have z4 : a4 ≠ p:=(J9 e3 n4).symm
  have B4 : But p H (upd (upd H3 a4 (.lst x4)) p (.ins J1 dx ([(("days" : Str),d),("kinds",k),("needs",.ref a1),("persons",.ref a2),("leave",.ref a3)] ++ [(("wishes" : Str),.ref a4)]))):=(B3.new n4).at
  have e4 : upd (upd H3 a4 (.lst x4)) p (.ins J1 dx ([(("days" : Str),d),("kinds",k),("needs",.ref a1),("persons",.ref a2),("leave",.ref a3)] ++ [(("wishes" : Str),.ref a4)])) p = some (.ins J1 dx [("days",d),("kinds",k),("needs",.ref a1),("persons",.ref a2),("leave",.ref a3),("wishes",.ref a4)]):=Jd
  have y4 : upd (upd H3 a4 (.lst x4)) p (.ins J1 dx ([(("days" : Str),d),("kinds",k),("needs",.ref a1),("persons",.ref a2),("leave",.ref a3)] ++ [(("wishes" : Str),.ref a4)])) a4 = some (.lst x4):=by rw [Ja z4]; exact Jd
  have y14 : upd (upd H3 a4 (.lst x4)) p (.ins J1 dx ([(("days" : Str),d),("kinds",k),("needs",.ref a1),("persons",.ref a2),("leave",.ref a3)] ++ [(("wishes" : Str),.ref a4)])) a1 = some (.lst x1):=by rw [Ja z1,Ja (J9 y13 n4)]; exact y13
  have y24 : upd (upd H3 a4 (.lst x4)) p (.ins J1 dx ([(("days" : Str),d),("kinds",k),("needs",.ref a1),("persons",.ref a2),("leave",.ref a3)] ++ [(("wishes" : Str),.ref a4)])) a2 = some (.lst x2):=by rw [Ja z2,Ja (J9 y23 n4)]; exact y23
  have y34 : upd (upd H3 a4 (.lst x4)) p (.ins J1 dx ([(("days" : Str),d),("kinds",k),("needs",.ref a1),("persons",.ref a2),("leave",.ref a3)] ++ [(("wishes" : Str),.ref a4)])) a3 = some (.lst x3):=by rw [Ja z3,Ja (J9 y3 n4)]; exact y3
  have m4 : H a4 = none:=by cases hh : H a4 with | none=>rfl | some o=>rw [B3 _ _ z4 hh] at n4; cases n4
  generalize upd (upd H3 a4 (.lst x4)) p (.ins J1 dx ([(("days" : Str),d),("kinds",k),("needs",.ref a1),("persons",.ref a2),("leave",.ref a3)] ++ [(("wishes" : Str),.ref a4)])) = H4 at B4 e4 y4 y14 y24 y34 ⊢
  refine ⟨_,rfl,b5,x5,rfl,.inl (SqL.of (B4 _ _ (nb h5) h5)),fun a5 n5=>?_⟩
  refine ⟨_,rfl,p,J1,dx,[("days",d),("kinds",k),("needs",.ref a1),("persons",.ref a2),("leave",.ref a3),("wishes",.ref a4)],rfl,(Ja (J9 e4 n5)).trans e4,tx.JA.cl,tx.J1k,(by show 6 < 1000; decide),?_⟩
  rw [putN (fs:=[("days",d),("kinds",k),("needs",.ref a1),("persons",.ref a2),("leave",.ref a3),("wishes",.ref a4)]) (show ∀ g ∈ [("days" : Str),"kinds","needs","persons","leave","wishes"],g ≠ "rules" from by decide +kernel)]
  have z5 : a5 ≠ p:=(J9 e4 n5).symm
  have B5 : But p H (upd (upd H4 a5 (.lst x5)) p (.ins J1 dx ([(("days" : Str),d),("kinds",k),("needs",.ref a1),("persons",.ref a2),("leave",.ref a3),("wishes",.ref a4)] ++ [(("rules" : Str),.ref a5)]))):=(B4.new n5).at
  have e5 : upd (upd H4 a5 (.lst x5)) p (.ins J1 dx ([(("days" : Str),d),("kinds",k),("needs",.ref a1),("persons",.ref a2),("leave",.ref a3),("wishes",.ref a4)] ++ [(("rules" : Str),.ref a5)])) p = some (.ins J1 dx [("days",d),("kinds",k),("needs",.ref a1),("persons",.ref a2),("leave",.ref a3),("wishes",.ref a4),("rules",.ref a5)]):=Jd
  have y5 : upd (upd H4 a5 (.lst x5)) p (.ins J1 dx ([(("days" : Str),d),("kinds",k),("needs",.ref a1),("persons",.ref a2),("leave",.ref a3),("wishes",.ref a4)] ++ [(("rules" : Str),.ref a5)])) a5 = some (.lst x5):=by rw [Ja z5]; exact Jd
  have y15 : upd (upd H4 a5 (.lst x5)) p (.ins J1 dx ([(("days" : Str),d),("kinds",k),("needs",.ref a1),("persons",.ref a2),("leave",.ref a3),("wishes",.ref a4)] ++ [(("rules" : Str),.ref a5)])) a1 = some (.lst x1):=by rw [Ja z1,Ja (J9 y14 n5)]; exact y14
  have y25 : upd (upd H4 a5 (.lst x5)) p (.ins J1 dx ([(("days" : Str),d),("kinds",k),("needs",.ref a1),("persons",.ref a2),("leave",.ref a3),("wishes",.ref a4)] ++ [(("rules" : Str),.ref a5)])) a2 = some (.lst x2):=by rw [Ja z2,Ja (J9 y24 n5)]; exact y24
  have y35 : upd (upd H4 a5 (.lst x5)) p (.ins J1 dx ([(("days" : Str),d),("kinds",k),("needs",.ref a1),("persons",.ref a2),("leave",.ref a3),("wishes",.ref a4)] ++ [(("rules" : Str),.ref a5)])) a3 = some (.lst x3):=by rw [Ja z3,Ja (J9 y34 n5)]; exact y34
  have y45 : upd (upd H4 a5 (.lst x5)) p (.ins J1 dx ([(("days" : Str),d),("kinds",k),("needs",.ref a1),("persons",.ref a2),("leave",.ref a3),("wishes",.ref a4)] ++ [(("rules" : Str),.ref a5)])) a4 = some (.lst x4):=by rw [Ja z4,Ja (J9 y4 n5)]; exact y4
  have m5 : H a5 = none:=by cases hh : H a5 with | none=>rfl | some o=>rw [B4 _ _ z5 hh] at n5; cases n5
  generalize upd (upd H4 a5 (.lst x5)) p (.ins J1 dx ([(("days" : Str),d),("kinds",k),("needs",.ref a1),("persons",.ref a2),("leave",.ref a3),("wishes",.ref a4)] ++ [(("rules" : Str),.ref a5)])) = H5 at B5 e5 y5 y15 y25 y35 y45 ⊢
  refine ⟨_,rfl,b6,x6,rfl,.inl (SqL.of (B5 _ _ (nb h6) h6)),fun a6 n6=>?_⟩
  refine ⟨_,rfl,p,J1,dx,[("days",d),("kinds",k),("needs",.ref a1),("persons",.ref a2),("leave",.ref a3),("wishes",.ref a4),("rules",.ref a5)],rfl,(Ja (J9 e5 n6)).trans e5,tx.JA.cl,tx.J0t,(by show 7 < 1000; decide),?_⟩
  rw [putN (fs:=[("days",d),("kinds",k),("needs",.ref a1),("persons",.ref a2),("leave",.ref a3),("wishes",.ref a4),("rules",.ref a5)]) (show ∀ g ∈ [("days" : Str),"kinds","needs","persons","leave","wishes","rules"],g ≠ "pairs" from by decide +kernel)]
  have z6 : a6 ≠ p:=(J9 e5 n6).symm
  have m6 : H a6 = none:=by cases hh : H a6 with | none=>rfl | some o=>rw [B5 _ _ z6 hh] at n6; cases n6
  refine q _ a1 a2 a3 a4 a5 a6 (B5.new n6).at Jd ?_ ?_ ?_ ?_ ?_ ?_ m1 m2 m3 m4 m5 m6
  ·rw [Ja z1,Ja (J9 y15 n6)]; exact y15
  ·rw [Ja z2,Ja (J9 y25 n6)]; exact y25
  ·rw [Ja z3,Ja (J9 y35 n6)]; exact y35
  ·rw [Ja z4,Ja (J9 y45 n6)]; exact y45
  ·rw [Ja z5,Ja (J9 y5 n6)]; exact y5
  ·rw [Ja z6]; exact Jd
end
theorem newl {H : Hp} {l : Addr} {xs : List V} (h : H l = none) : ∃ H',H' = upd H l (.lst xs) ∧ H' l = some (.lst xs) ∧ Same H H':=⟨_,rfl,Jd,J0n h _⟩
theorem newt {H : Hp} {l : Addr} {xs : List V} (h : H l = none) : ∃ H',H' = upd H l (.tup xs) ∧ H' l = some (.tup xs) ∧ Same H H':=⟨_,rfl,Jd,J0n h _⟩
theorem J06 {H H1 : Hp} {p : Addr} {o : HO} (n : H p = none) (e : upd H p o = H1) : H1 p = some o ∧ Same H H1:=by subst e; exact ⟨Jd,J0n n _⟩
theorem lH_m {m : Str} (a b c d e f g h : V) (h1 : m ≠ "days") (h2 : m ≠ "kinds") (h3 : m ≠ "needs") (h4 : m ≠ "persons") (h5 : m ≠ "leave") (h6 : m ≠ "wishes") (h7 : m ≠ "rules") (h8 : m ≠ "pairs") : List.lookup m (fH a b c d e f g h) = none:=by
 rw [JJ h1,JJ h2,JJ h3,JJ h4,JJ h5,JJ h6,JJ h7,JJ h8]
 rfl
theorem Jcy (a b c d e f g h : V) : List.lookup ("need" : Str) (fH a b c d e f g h) = none:=lH_m _ _ _ _ _ _ _ _ (by decide +kernel) (by decide +kernel) (by decide +kernel) (by decide +kernel) (by decide +kernel) (by decide +kernel) (by decide +kernel) (by decide +kernel)
theorem at0 (a b : V) : atI [a,b] 0 = some a:=by simp [atI,ixN]
theorem at1 (a b : V) : atI [a,b] 1 = some b:=by simp [atI,ixN]
noncomputable def Hn (C : Addr) (H : Hp) (h : Addr) (dd : Int) (ks : List Nat) (nds : List Nd) : Prop :=
 ∃ a1 a2 a3 a4 a5 a6 xs,J8M C H h dd ks a1 a2 a3 a4 a5 a6 ∧ H a1 = some (.lst xs) ∧ All2 NdAt H nds xs ∧ H a2 = some (.lst []) ∧ H a4 = some (.lst []) ∧ H a6 = some (.lst [])
theorem Hn.same {C : Addr} {H H' : Hp} {h : Addr} {dd : Int} {ks : List Nat} {nds : List Nd} (x : Hn C H h dd ks nds) (s : Same H H') : Hn C H' h dd ks nds:=by
 obtain ⟨a1,a2,a3,a4,a5,a6,xs,h1,h2,h3,h4,h5,h6⟩:=x
 exact ⟨a1,a2,a3,a4,a5,a6,xs,h1.keeps s.keeps,s _ _ h2,h3.imp fun a y=>NdAt.keeps a y _ _ s.keeps,s _ _ h4,s _ _ h5,s _ _ h6⟩
noncomputable def metB (nds : List Nd) (d : Int) (k : Nat) : Bool:=decide ((J0j nds d k).1 ≤ 0) && decide (0 ≤ (J0j nds d k).2)
noncomputable def J0M (ks : List Nat) (nds : List Nd) (d : Int) : Bool:=ks.all (metB nds d)
theorem JaZ {α : Type} (p : α → Bool) (l : List α) {i : Nat} {x : α} (h : l[i]? = some x) : (l.take (i + 1)).all p = ((l.take i).all p && p x):=by
 rw [List.take_add_one,h,List.all_append]
 show ((l.take i).all p && (p x && true)) = _
 rw [Bool.and_true]
theorem J2V {H : Hp} {F : Addr} (h : H F = some (.lst [])) : ∃ H',H' = upd H F (.lst ([] ++ [])) ∧ H' F = some (.lst []) ∧ Same H H':=⟨_,rfl,Jd,fun b u e=>by
 by_cases hb : b = F
 ·subst hb; rw [Jd,← e,h]; rfl
 ·rw [Ja hb]; exact e⟩
theorem JD {J : It} {H : Hp} {σ0 : St} {g : TG} {tc : TT} {te : TE} {Q : VK} (hs : ∀ H',Same H H' → J.stop 0 H') (hQ : ∀ D H',H D = none → Same H H' → H' D = some (.lst []) → Q (.ref D) H') : J6a J H σ0 g tc te Q:=by
 intro D hD
 refine ⟨fun i m σ1 ys H'=>i = 0 ∧ ys = [] ∧ H' = upd H D (.lst []),⟨0,rfl,rfl,rfl⟩,?_⟩
 rintro i m σ1 ys H' ⟨rfl,rfl,rfl⟩
 exact .inl ⟨hs _ (J0n hD _),hQ D _ hD (J0n hD _) Jd⟩
theorem J0L {J : It} {g : TG} {tb : TS} {D : Ends} {σ : St} {H : Hp} (hs : J.stop 0 H) (hd : D.nx σ H) :
  ∃ W : Nat → Nat → St → Hp → Prop,(∃ m,W 0 m σ H) ∧ ∀ i m σ H,W i m σ H →
   (J.stop i H ∧ D.nx σ H) ∨ (J.go i H ∧ ∃ N : St → Hp → Prop,(∀ σ' H',N σ' H' → ∃ m',m' < m ∧ W (i + 1) m' σ' H') ∧ ∀ x H',J.yld i H x H' → g x σ H' fun σ2 H2=>tb { D with nx:=N,ct:=N,bk:=D.nx } σ2 H2):=by
 refine ⟨fun i m σ' H'=>i = 0 ∧ σ' = σ ∧ H' = H,⟨0,rfl,rfl,rfl⟩,?_⟩
 rintro i m σ' H' ⟨rfl,rfl,rfl⟩
 exact .inl ⟨hs,hd⟩
theorem Jdp {α : Type} (p : α → Bool) (l : List α) {i : Nat} {x : α} (h : l[i]? = some x) (z : p x = false) : l.all p = false:=by
 refine Bool.eq_false_iff.mpr fun y=>?_
 rw [List.all_eq_true.mp y x (List.mem_of_getElem? h)] at z
 cases z
noncomputable def Ja1 (C : Addr) : Sp:=fun vs H Q _=>∃ (h : Addr) (d : Int) (k : Nat) (dd : Int) (ks : List Nat) (nds : List Nd),vs = [.ref h,.int d,T [k]] ∧ Hn C H h dd ks nds ∧ ∀ (t : Addr) (H' : Hp),Same H H' → H' t = some (.tup [.int (J0j nds d k).1,.int (J0j nds d k).2]) → Q (.ref t) H'
noncomputable def JaD (C : Addr) : Sp:=fun vs H Q _=>∃ (h : Addr) (d : Int) (dd : Int) (ks : List Nat) (nds : List Nd),vs = [.ref h,.int d,T []] ∧ Hn C H h dd ks nds ∧ ks.length ≤ 4 ∧ ∀ H',Same H H' → Q (.bl (J0M ks nds d)) H'
noncomputable def JaH (C : Addr) : Sp:=fun vs H Q _=>∃ (h : Addr) (c : V) (dd : Int) (ks : List Nat) (nds : List Nd),vs = [.ref h,c] ∧ Hn C H h dd ks nds ∧ Q (.bl true) H
noncomputable def Ja2 (C : Addr) : Sp:=fun vs H Q _=>∃ (h : Addr) (d : Int) (dd : Int) (ks : List Nat) (nds : List Nd),vs = [.ref h,.int d] ∧ Hn C H h dd ks nds ∧ ks.length ≤ 4 ∧ ∀ D H',Same H H' → H D = none → H' D = some (.lst (if J0M ks nds d = true then [T []] else [])) → Q (.ref D) H'
noncomputable def J46 (C : Addr) : Sp:=fun vs H Q _=>∃ (h r : Addr) (d : Int) (dd : Int) (ks : List Nat) (nds : List Nd),vs = [.ref h,.ref r,.int d] ∧ Hn C H h dd ks nds ∧ H r = some (.lst []) ∧ ks.length ≤ 4 ∧ J0M ks nds d = true ∧ ∀ D H',Same H H' → H D = none → H' D = some (.lst []) → Q (.ref D) H'
noncomputable def JaC (C : Addr) : Sp:=fun vs H Q _=>∃ (h r : Addr) (dd : Int) (ks : List Nat) (nds : List Nd),vs = [.ref h,.ref r] ∧ Hn C H h dd ks nds ∧ H r = some (.lst []) ∧ ks.length ≤ 4 ∧ 0 ≤ dd ∧ dd ≤ 14 ∧ (∀ d : Int,0 ≤ d → d < dd → J0M ks nds d = true) ∧ ∀ D H',Same H H' → H D = none → H' D = some (.lst []) → Q (.ref D) H'
section
variable {P : Program} {w : World} {K : PySem.W.Frag} {mg : Str → Option Value} {base : Heap} {Ji Jh J1 Jj J4 J3 J5 Jb J8 Jg Jf : Addr}
local macro_rules | `(tactic| walk_at "lk")=>`(tactic| first | exact J1r _ _ _ _ _ _ _ _ | exact Jb1 _ _ _ _ _ _ _ _ | exact Jbq _ _ _ _ _ _ _ _ | exact J4z _ _ _ _ _ _ _ _ | exact J6O _ _ _ _ _ _ _ _ | exact Jcy _ _ _ _ _ _ _ _ | exact Jb9 _ _ _ _ _ _ _ _ | exact J3G _ _ _ _ _ _ _ _ | exact Or.inr (SqT.of (by with_reducible assumption)))
theorem JaM (tx : Tx K mg Ji Jh J1 Jj J4 J3 J5 Jb J8 Jg Jf) : MtG P w K mg base J1 "need" 1 ["self","day","kind"] (Ja1 J1):=by
 refine tx.J7j.g tx.JA.cl J1h (fun _ _ _ _ _ _ us hl=>match us,hl with | [_,_,_],_=>rfl) (fun vs H Q E h=>?_) (fun f cdv A outer s H vs Q E hr h=>?_)
 ·obtain ⟨h,d,k,dd,ks,nds,rfl,_⟩:=h
  rfl
 ·obtain ⟨h,d,k,dd,ks,nds,rfl,⟨a1,a2,a3,a4,a5,a6,xs,⟨dx,h1⟩,h2,h3,_⟩,q⟩:=h
  refine ⟨_,(J7 (J03 PassesOwn.never rfl (Jt (K:=K) rfl (Jr (K:=K) rfl (pv 0) rfl)) (J1Y rfl (Jp (Jk (i:=3) J1h.nd rfl (Or.inl rfl)) (Jp (Jk (i:=4) J1h.nd rfl (Or.inl rfl)) (Jp (Jk (i:=5) J1h.nd rfl (Or.inl rfl)) (Jp (Jk (i:=6) J1h.nd rfl (Or.inl rfl)) J0Y))))) (Jc (J0A (PW.pt (J9q (Jx J2v (pv 3) (pv 1) (Jy _)) (J82 (Jx J2v (pv 4) (pv 2) (Jy _))))) (Jc (Jo (J05 (J0 (pv 5) (J0 (pv 6) J6))))) JB)))
   (Jc (Jo (J05 (J0 Je (J0 Je J6)))))),?_⟩
  walk_at "st"
  have cH:=tx.JA.cl
  have nH:=tx.J0T
  walk_at "rd"
  refine J6b (K:=K) (xs:=xs) (fun i σ H2=>Here (∃ v1 v2 v3 v4,σ = [some (.ref h),some (.int d),some (T [k]),v1,v2,v3,v4] ∧ (∀ j < i,∀ n,nds[j]? = some n → ¬ (n.day = d ∧ n.kind = k)) ∧ H2 = H)) (Here.mk ⟨none,none,none,none,rfl,fun j hj=>absurd hj (Nat.not_lt_zero _),rfl⟩) (fun i σ H2 _ hv=>by obtain ⟨_,_,_,_,_,_,e⟩:=hv.out; rw [e]; exact SqL.of h2) ?_ ?_
  ·rintro i x σ H2 hx hv
   obtain ⟨v1,v2,v3,v4,rfl,hno,rfl⟩:=hv.out
   obtain ⟨n,hn,t,rfl,ht⟩:=h3.back hx
   have nx : ¬ (n.day = d ∧ n.kind = k) → ∀ j < i + 1,∀ m,nds[j]? = some m → ¬ (m.day = d ∧ m.kind = k):=fun z j hj m hm=>by
    rcases Nat.lt_or_ge j i with y | y
    ·exact hno j y m hm
    ·have : j = i:=by omega
     subst this
     rw [hn] at hm
     cases hm
     exact z
   walk_at "rd"
   refine ite2 (fun e1=>?_) (fun e1=>?_)
   ·have e1' : n.day = d:=by have:=of_decide_eq_true e1; injection this
    walk_at "rd"
    refine ite2 (fun e2=>?_) (fun e2=>?_)
    ·have e2' : n.kind = k:=by have:=Jem (of_decide_eq_true e2); simpa using this
     walk_at "rd"
     intro t2 ht2
     refine q t2 _ (J0n ht2 _) ?_
     rw [Jd,Ja5 hno hn ⟨e1',e2'⟩]
    ·exact Here.mk ⟨_,_,_,_,rfl,nx fun z=>e2 (decide_eq_true (by rw [z.2])),rfl⟩
   ·walk_at "rd"
    exact Here.mk ⟨_,_,_,_,rfl,nx fun z=>e1 (decide_eq_true (by rw [z.1])),rfl⟩
  ·rintro σ H2 hv
   obtain ⟨v1,v2,v3,v4,rfl,hno,rfl⟩:=hv.out
   walk_at "rd"
   intro t2 ht2
   refine q t2 _ (J0n ht2 _) ?_
   rw [Jd,J9i (by rw [← h3.len]; exact hno)]
theorem J6n (tx : Tx K mg Ji Jh J1 Jj J4 J3 J5 Jb J8 Jg Jf) : FnG P w K mg base "meets_needs" 2 ["house","day","column"] (JaD J1):=by
 have J5m:=JaM (P:=P) (w:=w) (base:=base) tx
 refine tx.J6o.g J2j (fun _ _ _ _ _ _ us hl=>match us,hl with | [_,_,_],_=>rfl) (fun vs H Q E h=>?_) (fun f cdv A outer s H vs Q E hr h=>?_)
 ·obtain ⟨h,d,dd,ks,nds,rfl,_⟩:=h
  rfl
 ·obtain ⟨h,d,dd,ks,nds,rfl,hk,hkl,q⟩:=h
  refine ⟨_,(J7 (J03 PassesOwn.never rfl (JbA (Jr (K:=K) rfl (pv 0) rfl)) (Jk (i:=3) J2j.nd rfl (Or.inl rfl)) (J7 (Jq (i:=4) J2j.nd rfl (Or.inl rfl) (JcW J5m (hr.mono (by decide)) (pv 0) (J0 (pv 1) (J0 (pv 3) J6))))
   (Jc (J0A (J3z (Jbp JbM JbM (JG (Jw (K:=K) rfl) (pv 4) Je (fun _ _=>rfl)) (JcC (K:=K) rfl (pv 2) (J0 (pv 3) J6)) (JG (Jw (K:=K) rfl) (pv 4) Je (fun _ _=>rfl)))) (Jc (Jo J3A)) JB))))
   (Jc (Jo J3A))),?_⟩
  walk_at "st"
  clear J5m
  have hk0:=hk
  obtain ⟨a1,a2,a3,a4,a5,a6,xs',⟨dx,h1⟩,_⟩:=hk0
  have cH:=tx.JA.cl
  have nH:=tx.J0p
  have hkl' : ks.length ≤ 1000:=by omega
  have hcl : ([] : List Nat).length ≤ 40:=by decide
  walk_at "rd"
  refine J9T (l:=ks) (fun i σ H2=>Here (∃ v1 v2,σ = [some (.ref h),some (.int d),some (T []),v1,v2] ∧ (ks.take i).all (metB nds d) = true ∧ Same H H2)) (Here.mk ⟨none,none,rfl,rfl,Same.refl _⟩) ?_ ?_
  ·rintro i c σ H2 hc hv
   obtain ⟨v1,v2,rfl,ha,s2⟩:=hv.out
   have hk2:=hk.same s2
   have h12:=s2 _ _ h1
   have eA:=JaZ (metB nds d) ks hc
   walk_at "rd"
   intro t H3 s3 ht
   have e1:=at0 (V.int (J0j nds d c).1) (V.int (J0j nds d c).2)
   have e2:=at1 (V.int (J0j nds d c).1) (V.int (J0j nds d c).2)
   walk_at "rd"
   have no : metB nds d c = false → Q (V.bl false) H3:=fun z=>by
    have:=q H3 (s2.trans s3)
    unfold J0M at this
    rw [Jdp _ _ hc z] at this
    exact this
   refine ite2 (fun z1=>?_) (fun z1=>?_)
   ·walk_at "rd"
    refine ite2 (fun z2=>?_) (fun z2=>?_)
    ·walk_at "rd"
     refine no ?_
     unfold metB
     rw [decide_eq_true (show (J0j nds d c).1 ≤ 0 from of_decide_eq_true z1),Bool.true_and]
     exact decide_eq_false fun y=>by rw [decide_eq_true (show ((([] : List Nat).count c : Nat) : Int) ≤ (J0j nds d c).2 from y)] at z2; cases z2
    ·refine Here.mk ⟨_,_,rfl,?_,s2.trans s3⟩
     rw [eA,ha,Bool.true_and]
     unfold metB
     rw [decide_eq_true (show (J0j nds d c).1 ≤ 0 from of_decide_eq_true z1),Bool.true_and]
     refine decide_eq_true (Decidable.byContradiction fun y=>z2 ?_)
     rw [decide_eq_false (show ¬ ((([] : List Nat).count c : Nat) : Int) ≤ (J0j nds d c).2 from y)]
     rfl
   ·walk_at "rd"
    refine no ?_
    unfold metB
    rw [decide_eq_false (fun y : (J0j nds d c).1 ≤ 0=>z1 (decide_eq_true y)),Bool.false_and]
  ·rintro σ H2 hv
   obtain ⟨v1,v2,rfl,ha,s2⟩:=hv.out
   rw [List.take_of_length_le (Nat.le_refl _)] at ha
   walk_at "rd"
   have:=q H2 s2
   unfold J0M at this
   rw [ha] at this
   exact this
theorem J6l (tx : Tx K mg Ji Jh J1 Jj J4 J3 J5 Jb J8 Jg Jf) : FnG P w K mg base "keeps_pairs" 2 ["house","column"] (JaH J1):=by
 refine tx.J6A.g J1V (fun _ _ _ _ _ _ us hl=>match us,hl with | [_,_],_=>rfl) (fun vs H Q E h=>?_) (fun f cdv A outer s H vs Q E hr h=>?_)
 ·obtain ⟨h,c,dd,ks,nds,rfl,_⟩:=h
  rfl
 ·obtain ⟨h,c,dd,ks,nds,rfl,⟨a1,a2,a3,a4,a5,a6,xs,⟨dx,h1⟩,h2,h3,h4,h5,h6⟩,q⟩:=h
  refine ⟨_,(J7 (J03 PassesOwn.never rfl (Jt (K:=K) rfl (Jr (K:=K) rfl (pv 0) rfl)) (J1Y rfl (Jp (Jk (i:=2) J1V.nd rfl (Or.inl rfl)) (Jp (Jk (i:=3) J1V.nd rfl (Or.inl rfl)) (Jp (Jk (i:=4) J1V.nd rfl (Or.inl rfl)) J0Y)))) J2A)
   (Jc (Jo J3A))),?_⟩
  walk_at "st"
  have cH:=tx.JA.cl
  have nH:=tx.J0t
  walk_at "rd"
  refine J0L ⟨[],SqL.of h6,Nat.le_refl _⟩ ?_
  walk_at "rd"
  exact q
theorem J4H (tx : Tx K mg Ji Jh J1 Jj J4 J3 J5 Jb J8 Jg Jf) : FnG P w K mg base "columns" 3 ["house","day"] (Ja2 J1):=by
 have J3K:=J6n (P:=P) (w:=w) (base:=base) tx
 have J3L:=J6l (P:=P) (w:=w) (base:=base) tx
 refine tx.J9V.g J22 (fun _ _ _ _ _ _ us hl=>match us,hl with | [_,_],_=>rfl) (fun vs H Q E h=>?_) (fun f cdv A outer s H vs Q E hr h=>?_)
 ·obtain ⟨h,d,dd,ks,nds,rfl,_⟩:=h
  rfl
 ·obtain ⟨h,d,dd,ks,nds,rfl,hk,hkl,q⟩:=h
  refine ⟨_,(J7 (J3e (k:=2) (osc:=J2 J1x) (ON:=["house","day","choices","many","marks","found"]) (N:=["p","day","house"]) (js:=[none,some 1,some 0]) J22.nd rfl (Or.inl rfl) ⟨rfl,by decide +kernel,by decide +kernel,by decide +kernel,rfl,by decide +kernel⟩ rfl rfl rfl (J0X rfl tx.J0x (J0 (Jv (JH (K:=K) rfl) rfl tx.J21 PySem.boot_len (J0 (Jr (K:=K) rfl (pv 0) rfl) J6)) J6)) (fun _ _ _ _ _=>Jk (i:=0) (show List.Nodup (["p","day","house"] : List Str) from by decide +kernel) rfl (Or.inl rfl)) (fun _ _ _ _ _=>JE) (fun _ _ _ _ _=>J17))
   (J7 (Jq (i:=3) J22.nd rfl (Or.inl rfl) Je)
   (J7 (J03 PassesOwn.never rfl (Jt (K:=K) rfl (pv 2)) (Jk (i:=4) J22.nd rfl (Or.inl rfl)) J2A)
   (J7 (J0A (Jx J6X (pv 3) (J8K rfl tx.J13) (Jy _)) (Jc J8J) JB)
   (J7 (Jq (i:=5) J22.nd rfl (Or.inl rfl) (JP (J0 (J3f (l:=[]) (by decide +kernel)) J6)))
   (J7 (J03 PassesOwn.never rfl (Jt (K:=K) rfl (pv 2)) (Jk (i:=4) J22.nd rfl (Or.inl rfl)) J2A)
   (Jc (Jo (Jv J7O rfl tx.J2Q J6W (J0 (JS (osc:=J2 J1x) (ON:=["house","day","choices","many","marks","found"]) (N:=["column","house","day"]) (js:=[none,some 0,some 1]) ⟨rfl,by decide +kernel,by decide +kernel,by decide +kernel,rfl,by decide +kernel⟩ rfl rfl rfl (Jt (K:=K) rfl (pv 5)) (fun _ _ _ _ _=>Jk (i:=0) (show List.Nodup (["column","house","day"] : List Str) from by decide +kernel) rfl (Or.inl rfl)) (fun _ _ _ _ _=>J2r (PW.pt (J9q (J3i (Jz J3K (hr.mono (by decide)) (J0 (pv 1) (J0 (pv 2) (J0 (pv 0) J6))))) (J82 (J3i (Jz J3L (hr.mono (by decide)) (J0 (pv 1) (J0 (pv 0) J6)))))))) (fun _ _ _ _ _=>(pv 0))) J6)))))))))),?_⟩
  walk_at "st"
  clear J3K J3L
  have hk0:=hk
  obtain ⟨a1,a2,a3,a4,a5,a6,xs,⟨dx,h1⟩,h2,h3,h4,h5,h6⟩:=hk0
  have cH:=tx.JA.cl
  have nH:=tx.Ju
  have l0 : ((([] : List V).length : Nat) : Int) < 2 ^ 62:=by decide
  walk_at "rd"
  refine JD (fun _ _=>Nat.le_refl _) fun D H1 nD s1 hD1=>?_
  walk_at "rd"
  refine J0L ⟨[],SqL.of hD1,Nat.le_refl _⟩ ?_
  walk_at "rd"
  intro F nF
  obtain ⟨H2,e2,hF,s2⟩:=newl (xs:=[T []]) nF
  rw [← e2]
  have hD2:=s2 _ _ hD1
  have S2:=s1.trans s2
  walk_at "rd"
  refine J0L ⟨[],SqL.of hD2,Nat.le_refl _⟩ ?_
  walk_at "rd"
  refine Jc3 (fun _=>J0M ks nds d) (fun x=>x) (J2u (SqL.of hF)) (by decide) (fun x hx H' s' R hR=>?_) (fun x hx hp H' s' R hR=>?_) (fun D3 H3 nD3 s3 hD3=>?_)
  ·rw [List.mem_singleton.mp hx]
   have hk3:=hk.same (S2.trans s')
   walk_at "rd"
   intro H4 s4
   have hk4:=hk3.same s4
   walk_at "rd"
   refine ite2 (fun z=>?_) (fun z=>?_)
   ·walk_at "rd"
    rw [z] at hR
    exact hR H4 s4
   ·rw [Bool.eq_false_iff.mpr z] at hR
    exact hR H4 s4
  ·walk_at "rd"
   exact hR H' (Same.refl _)
  ·have e3 : (([T []] : List V).filter fun _=>J0M ks nds d).map (fun x=>x) = if J0M ks nds d = true then [T []] else []:=by
    rw [List.filter_cons,List.filter_nil]
    split <;> rfl
   rw [e3] at hD3
   have hl3 : (if J0M ks nds d = true then [T []] else [] : List V).length ≤ 1:=by split <;> decide
   walk_at "rd"
   intro D4 n4
   have S3:=S2.trans s3
   exact q D4 _ (S3.trans (J0n n4 _)) (S3.free n4) Jd
theorem J4K (tx : Tx K mg Ji Jh J1 Jj J4 J3 J5 Jb J8 Jg Jf) : FnG P w K mg base "on_duty" 1 ["house","rota","day"] (J46 J1):=by
 refine tx.J9U.g J8Z (fun _ _ _ _ _ _ us hl=>match us,hl with | [_,_,_],_=>rfl) (fun vs H Q E h=>?_) (fun f cdv A outer s H vs Q E hr h=>?_)
 ·obtain ⟨h,r,d,dd,ks,nds,rfl,_⟩:=h
  rfl
 ·obtain ⟨h,r,d,dd,ks,nds,rfl,hk,hr0,hkl,ho,q⟩:=h
  refine ⟨_,(Jc (Jo (JS (osc:=J2 J23) (ON:=["house","rota","day"]) (N:=["person","row","day"]) (js:=[none,none,some 2]) ⟨rfl,by decide +kernel,by decide +kernel,by decide +kernel,rfl,by decide +kernel⟩ rfl rfl rfl (J8O (K:=K) rfl rfl tx.J4X (J0 (Jr (K:=K) rfl (pv 0) rfl) (J0 (pv 1) J6))) (fun _ _ _ _ _=>J3x (K:=K) (i:=0) (j:=1) rfl rfl (show List.Nodup (["person","row","day"] : List Str) from by decide +kernel) rfl rfl (Or.inl rfl) (Or.inl rfl)) (fun _ _ _ _ _=>J2r J7Q) (fun _ _ _ _ _=>J17)))),?_⟩
  walk_at "st"
  obtain ⟨a1,a2,a3,a4,a5,a6,xs,⟨dx,h1⟩,h2,h3,h4,h5,h6⟩:=hk
  have cH:=tx.JA.cl
  have nH:=tx.Ju
  walk_at "rd"
  refine JD (fun H' s'=>⟨[],[],SqL.of (s' _ _ h4),SqL.of (s' _ _ hr0),.inl (Nat.le_refl _)⟩) fun D H1 nD s1 hD1=>?_
  exact q D H1 s1 nD hD1
theorem J5G (tx : Tx K mg Ji Jh J1 Jj J4 J3 J5 Jb J8 Jg Jf) : FnG P w K mg base "skill_faults" 2 ["house","rota","day"] (J46 J1):=by
 have J1u:=J4K (P:=P) (w:=w) (base:=base) tx
 refine tx.J5T.g J3n (fun _ _ _ _ _ _ us hl=>match us,hl with | [_,_,_],_=>rfl) (fun vs H Q E h=>?_) (fun f cdv A outer s H vs Q E hr h=>?_)
 ·obtain ⟨h,r,d,dd,ks,nds,rfl,_⟩:=h
  rfl
 ·obtain ⟨h,r,d,dd,ks,nds,rfl,hk,hr0,hkl,ho,q⟩:=h
  refine ⟨_,(J7 (Jq (i:=3) J3n.nd rfl (Or.inl rfl) (Jz J1u (hr.mono (by decide)) (J0 (pv 0) (J0 (pv 1) (J0 (pv 2) J6)))))
   (Jc (Jo (JS (osc:=J2 J0e) (ON:=["house","rota","day","having"]) (N:=["person","row","day"]) (js:=[none,none,some 2]) ⟨rfl,by decide +kernel,by decide +kernel,by decide +kernel,rfl,by decide +kernel⟩ rfl rfl rfl (Jt (K:=K) rfl (pv 3)) (fun _ _ _ _ _=>J3x (K:=K) (i:=0) (j:=1) rfl rfl (show List.Nodup (["person","row","day"] : List Str) from by decide +kernel) rfl rfl (Or.inl rfl) (Or.inl rfl)) (fun _ _ _ _ _=>J2r J7Q) (fun _ _ _ _ _=>J17))))),?_⟩
  walk_at "st"
  clear J1u
  walk_at "rd"
  intro D H1 s1 nD hD1
  walk_at "rd"
  refine JD (fun H' s'=>⟨[],SqL.of (s' _ _ hD1),Nat.le_refl _⟩) fun D2 H2 nD2 s2 hD2=>?_
  exact q D2 H2 (s1.trans s2) (s1.free nD2) hD2
theorem J5F (tx : Tx K mg Ji Jh J1 Jj J4 J3 J5 Jb J8 Jg Jf) : FnG P w K mg base "leave_faults" 2 ["house","rota","day"] (J46 J1):=by
 have J1u:=J4K (P:=P) (w:=w) (base:=base) tx
 refine tx.J5M.g J3l (fun _ _ _ _ _ _ us hl=>match us,hl with | [_,_,_],_=>rfl) (fun vs H Q E h=>?_) (fun f cdv A outer s H vs Q E hr h=>?_)
 ·obtain ⟨h,r,d,dd,ks,nds,rfl,_⟩:=h
  rfl
 ·obtain ⟨h,r,d,dd,ks,nds,rfl,hk,hr0,hkl,ho,q⟩:=h
  refine ⟨_,(J7 (Jq (i:=3) J3l.nd rfl (Or.inl rfl) (Jz J1u (hr.mono (by decide)) (J0 (pv 0) (J0 (pv 1) (J0 (pv 2) J6)))))
   (Jc (Jo (JS (osc:=J2 J0c) (ON:=["house","rota","day","having"]) (N:=["person","row","day","house"]) (js:=[none,none,some 2,some 0]) ⟨rfl,by decide +kernel,by decide +kernel,by decide +kernel,rfl,by decide +kernel⟩ rfl rfl rfl (Jt (K:=K) rfl (pv 3)) (fun _ _ _ _ _=>J3x (K:=K) (i:=0) (j:=1) rfl rfl (show List.Nodup (["person","row","day","house"] : List Str) from by decide +kernel) rfl rfl (Or.inl rfl) (Or.inl rfl)) (fun _ _ _ _ _=>J2r J7Q) (fun _ _ _ _ _=>J17))))),?_⟩
  walk_at "st"
  clear J1u
  walk_at "rd"
  intro D H1 s1 nD hD1
  walk_at "rd"
  refine JD (fun H' s'=>⟨[],SqL.of (s' _ _ hD1),Nat.le_refl _⟩) fun D2 H2 nD2 s2 hD2=>?_
  exact q D2 H2 (s1.trans s2) (s1.free nD2) hD2
theorem J6j (tx : Tx K mg Ji Jh J1 Jj J4 J3 J5 Jb J8 Jg Jf) : FnG P w K mg base "most_faults" 2 ["house","rota","day"] (J46 J1):=by
 have J1u:=J4K (P:=P) (w:=w) (base:=base) tx
 refine tx.J6m.g J1L (fun _ _ _ _ _ _ us hl=>match us,hl with | [_,_,_],_=>rfl) (fun vs H Q E h=>?_) (fun f cdv A outer s H vs Q E hr h=>?_)
 ·obtain ⟨h,r,d,dd,ks,nds,rfl,_⟩:=h
  rfl
 ·obtain ⟨h,r,d,dd,ks,nds,rfl,hk,hr0,hkl,ho,q⟩:=h
  refine ⟨_,(J7 (Jq (i:=3) J1L.nd rfl (Or.inl rfl) (JP J6))
   (J7 (J03 PassesOwn.never rfl (Jt (K:=K) rfl (Jz J1u (hr.mono (by decide)) (J0 (pv 0) (J0 (pv 1) (J0 (pv 2) J6))))) (J1Y rfl (Jp (Jk (i:=4) J1L.nd rfl (Or.inl rfl)) (Jp (Jk (i:=5) J1L.nd rfl (Or.inl rfl)) J0Y))) J2A)
   (Jc (Jo (pv 3))))),?_⟩
  walk_at "st"
  clear J1u
  walk_at "rd"
  intro F nF
  obtain ⟨H1,e1,hF,s1⟩:=newl (xs:=[]) nF
  rw [← e1]
  have hk1:=hk.same s1
  have hr1:=s1 _ _ hr0
  walk_at "rd"
  intro D H2 s2 nD hD
  refine ⟨D,rfl,⟨[],SqL.of hD⟩,J0L ⟨[],SqL.of hD,Nat.le_refl _⟩ ?_⟩
  walk_at "rd"
  exact q F H2 (s1.trans s2) nF (s2 _ _ hF)
theorem J6u (tx : Tx K mg Ji Jh J1 Jj J4 J3 J5 Jb J8 Jg Jf) : FnG P w K mg base "rule_faults" 2 ["house","rota","day"] (J46 J1):=by
 refine tx.J6p.g J1N (fun _ _ _ _ _ _ us hl=>match us,hl with | [_,_,_],_=>rfl) (fun vs H Q E h=>?_) (fun f cdv A outer s H vs Q E hr h=>?_)
 ·obtain ⟨h,r,d,dd,ks,nds,rfl,_⟩:=h
  rfl
 ·obtain ⟨h,r,d,dd,ks,nds,rfl,hk,hr0,hkl,ho,q⟩:=h
  refine ⟨_,(J7 (Jq (i:=3) J1N.nd rfl (Or.inl rfl) (JP J6))
   (J7 (J03 PassesOwn.never rfl (J3C (K:=K) rfl rfl tx.J0l (J0 (Jr (K:=K) rfl (pv 0) rfl) J6)) (J1Y rfl (Jp (Jk (i:=4) J1N.nd rfl (Or.inl rfl)) (Jp (Jk (i:=5) J1N.nd rfl (Or.inr rfl)) J0Y))) J2A)
   (Jc (Jo (pv 3))))),?_⟩
  walk_at "st"
  obtain ⟨a1,a2,a3,a4,a5,a6,xs,⟨dx,h1⟩,h2,h3,h4,h5,h6⟩:=hk
  have cH:=tx.JA.cl
  have nH:=tx.Ju
  walk_at "rd"
  intro F nF
  obtain ⟨H1,e1,hF,s1⟩:=newl (xs:=[]) nF
  rw [← e1]
  have h11:=s1 _ _ h1
  have h41:=s1 _ _ h4
  walk_at "rd"
  refine J0L ⟨[],SqL.of h41,Nat.le_refl _⟩ ?_
  walk_at "rd"
  exact q F H1 s1 nF hF
theorem J6B (tx : Tx K mg Ji Jh J1 Jj J4 J3 J5 Jb J8 Jg Jf) : FnG P w K mg base "pair_faults" 2 ["house","rota","day"] (J46 J1):=by
 refine tx.J6D.g J1R (fun _ _ _ _ _ _ us hl=>match us,hl with | [_,_,_],_=>rfl) (fun vs H Q E h=>?_) (fun f cdv A outer s H vs Q E hr h=>?_)
 ·obtain ⟨h,r,d,dd,ks,nds,rfl,_⟩:=h
  rfl
 ·obtain ⟨h,r,d,dd,ks,nds,rfl,hk,hr0,hkl,ho,q⟩:=h
  refine ⟨_,(J7 (Jq (i:=3) J1R.nd rfl (Or.inl rfl) (JP J6))
   (J7 (J03 PassesOwn.never rfl (J3C (K:=K) rfl rfl tx.J0l (J0 (Jr (K:=K) rfl (pv 0) rfl) J6)) (J1Y rfl (Jp (Jk (i:=4) J1R.nd rfl (Or.inl rfl)) (Jp (Jk (i:=5) J1R.nd rfl (Or.inl rfl)) J0Y))) J2A)
   (Jc (Jo (pv 3))))),?_⟩
  walk_at "st"
  obtain ⟨a1,a2,a3,a4,a5,a6,xs,⟨dx,h1⟩,h2,h3,h4,h5,h6⟩:=hk
  have cH:=tx.JA.cl
  have nH:=tx.J0t
  walk_at "rd"
  intro F nF
  obtain ⟨H1,e1,hF,s1⟩:=newl (xs:=[]) nF
  rw [← e1]
  have h11:=s1 _ _ h1
  have h61:=s1 _ _ h6
  walk_at "rd"
  refine J0L ⟨[],SqL.of h61,Nat.le_refl _⟩ ?_
  walk_at "rd"
  exact q F H1 s1 nF hF
theorem J6s (tx : Tx K mg Ji Jh J1 Jj J4 J3 J5 Jb J8 Jg Jf) : FnG P w K mg base "need_faults" 2 ["house","rota","day"] (J46 J1):=by
 have J5m:=JaM (P:=P) (w:=w) (base:=base) tx
 refine tx.J6y.g J16 (fun _ _ _ _ _ _ us hl=>match us,hl with | [_,_,_],_=>rfl) (fun vs H Q E h=>?_) (fun f cdv A outer s H vs Q E hr h=>?_)
 ·obtain ⟨h,r,d,dd,ks,nds,rfl,_⟩:=h
  rfl
 ·obtain ⟨h,r,d,dd,ks,nds,rfl,hk,hr0,hkl,ho,q⟩:=h
  refine ⟨_,(J7 (Jq (i:=3) J16.nd rfl (Or.inl rfl) (JP J6))
   (J7 (J03 PassesOwn.never rfl (JbA (Jr (K:=K) rfl (pv 0) rfl)) (Jk (i:=4) J16.nd rfl (Or.inr rfl)) (J7 (Jq (i:=5) J16.nd rfl (Or.inl rfl) (JcW J5m (hr.mono (by decide)) (pv 0) (J0 (pv 2) (J0 (pv 4) J6))))
   (J7 (Jq (i:=6) J16.nd rfl (Or.inl rfl) (Jv (JH (K:=K) rfl) rfl tx.J21 PySem.boot_len (J0 (JS (osc:=J2 J0u) (ON:=["house","rota","day","found","kind","need","many"]) (N:=["row","kind","day"]) (js:=[none,some 4,some 2]) ⟨rfl,by decide +kernel,by decide +kernel,by decide +kernel,rfl,by decide +kernel⟩ rfl rfl rfl (Jt (K:=K) rfl (pv 1)) (fun _ _ _ _ _=>Jk (i:=0) (show List.Nodup (["row","kind","day"] : List Str) from by decide +kernel) rfl (Or.inl rfl)) (fun _ _ _ _ _=>J2r J7Q) (fun _ _ _ _ _=>J17)) J6)))
   (Jc (J0A (PW.pt (J4v (Jx J5X (pv 6) (JG (Jw (K:=K) rfl) (pv 5) Je (fun _ _=>rfl)) (Jy _)) (J48 (Jx J6X (pv 6) (JG (Jw (K:=K) rfl) (pv 5) Je (fun _ _=>rfl)) (Jy _))))) (Jc (J5e (J7c PySem.F.plainAttrs_list PySem.F.slot_list_append PySem.F.type_list_append J2i (pv 3) (J0 (J05 (J0 (pv 2) (J0 (J3f (l:=[110,101,101,100]) (by decide +kernel)) (J0 (pv 4) (J0 (pv 6) J6))))) J6)))) JB)))))
   (Jc (Jo (pv 3))))),?_⟩
  walk_at "st"
  clear J5m
  have hk0:=hk
  obtain ⟨a1,a2,a3,a4,a5,a6,xs,⟨dx,h1⟩,h2,h3,h4,h5,h6⟩:=hk0
  have cH:=tx.JA.cl
  have nH:=tx.J0p
  have hkl' : ks.length ≤ 1000:=by omega
  walk_at "rd"
  intro F nF
  obtain ⟨H1,e1,hF,s1⟩:=newl (xs:=[]) nF
  rw [← e1]
  have h11:=s1 _ _ h1
  walk_at "rd"
  refine J9T (l:=ks) (fun i σ H2=>Here (∃ v1 v2 v3,σ = [some (.ref h),some (.ref r),some (.int d),some (.ref F),v1,v2,v3] ∧ H2 F = some (.lst []) ∧ Same H H2)) (Here.mk ⟨none,none,none,rfl,hF,s1⟩) ?_ ?_
  ·rintro i c σ H2 hc hv
   obtain ⟨v1,v2,v3,rfl,hF2,s2⟩:=hv.out
   have hk2:=hk.same s2
   have h12:=s2 _ _ h1
   have hm : metB nds d c = true:=List.all_eq_true.mp ho c (List.mem_of_getElem? hc)
   obtain ⟨m1,m2⟩:=Bool.and_eq_true_iff.mp hm
   have m1':=of_decide_eq_true m1
   have m2':=of_decide_eq_true m2
   walk_at "rd"
   intro t H3 s3 ht
   have e1:=at0 (V.int (J0j nds d c).1) (V.int (J0j nds d c).2)
   have e2:=at1 (V.int (J0j nds d c).1) (V.int (J0j nds d c).2)
   have hr3:=(s2.trans s3) _ _ hr0
   walk_at "rd"
   refine JD (fun H' s'=>⟨[],SqL.of (s' _ _ hr3),Nat.le_refl _⟩) fun D4 H4 nD4 s4 hD4=>?_
   have ht4:=s4 _ _ ht
   walk_at "rd"
   have z1 : ¬ ((([] : List V).length : Nat) : Int) < (J0j nds d c).1:=by show ¬ (0 : Int) < _; omega
   have z2 : ¬ (J0j nds d c).2 < ((([] : List V).length : Nat) : Int):=by show ¬ _ < (0 : Int); omega
   refine ite2 (fun z=>absurd (of_decide_eq_true z) z1) (fun _=>?_)
   walk_at "rd"
   refine ite2 (fun z=>absurd (of_decide_eq_true z) z2) (fun _=>?_)
   walk_at "rd"
   exact Here.mk ⟨_,_,_,rfl,(s3.trans s4) _ _ hF2,(s2.trans s3).trans s4⟩
  ·rintro σ H2 hv
   obtain ⟨v1,v2,v3,rfl,hF2,s2⟩:=hv.out
   walk_at "rd"
   exact q F H2 s2 nF hF2
theorem JaQ (tx : Tx K mg Ji Jh J1 Jj J4 J3 J5 Jb J8 Jg Jf) : FnG P w K mg base "faults" 3 ["house","rota"] (JaC J1):=by
 have J3p:=J5G (P:=P) (w:=w) (base:=base) tx
 have J3q:=J5F (P:=P) (w:=w) (base:=base) tx
 have J3Q:=J6s (P:=P) (w:=w) (base:=base) tx
 have J3I:=J6j (P:=P) (w:=w) (base:=base) tx
 have J3R:=J6u (P:=P) (w:=w) (base:=base) tx
 have J3S:=J6B (P:=P) (w:=w) (base:=base) tx
 refine tx.JaE.g J18 (fun _ _ _ _ _ _ us hl=>match us,hl with | [_,_],_=>rfl) (fun vs H Q E h=>?_) (fun f cdv A outer s H vs Q E hr h=>?_)
 ·obtain ⟨h,r,dd,ks,nds,rfl,_⟩:=h
  rfl
 ·obtain ⟨h,r,dd,ks,nds,rfl,hk,hr0,hkl,d0,d14,ho,q⟩:=h
  refine ⟨_,(J7 (Jq (i:=2) J18.nd rfl (Or.inl rfl) (JP J6))
   (J7 (J03 PassesOwn.never rfl (J0X rfl tx.J0x (J0 (Jr (K:=K) rfl (pv 0) rfl) J6)) (Jk (i:=3) J18.nd rfl (Or.inl rfl)) (J7 (J4P (i:=2) J18.nd rfl (Or.inl rfl) (Jz J3p (hr.mono (by decide)) (J0 (pv 0) (J0 (pv 1) (J0 (pv 3) J6)))) J3F)
   (J7 (J4P (i:=2) J18.nd rfl (Or.inl rfl) (Jz J3q (hr.mono (by decide)) (J0 (pv 0) (J0 (pv 1) (J0 (pv 3) J6)))) J3F)
   (J7 (J4P (i:=2) J18.nd rfl (Or.inl rfl) (Jz J3Q (hr.mono (by decide)) (J0 (pv 0) (J0 (pv 1) (J0 (pv 3) J6)))) J3F)
   (J7 (J4P (i:=2) J18.nd rfl (Or.inl rfl) (Jz J3I (hr.mono (by decide)) (J0 (pv 0) (J0 (pv 1) (J0 (pv 3) J6)))) J3F)
   (J7 (J4P (i:=2) J18.nd rfl (Or.inl rfl) (Jz J3R (hr.mono (by decide)) (J0 (pv 0) (J0 (pv 1) (J0 (pv 3) J6)))) J3F)
   (Jc (J4P (i:=2) J18.nd rfl (Or.inl rfl) (Jz J3S (hr.mono (by decide)) (J0 (pv 0) (J0 (pv 1) (J0 (pv 3) J6)))) J3F))))))))
   (Jc (Jo (pv 2))))),?_⟩
  walk_at "st"
  clear J3p J3q J3Q J3I J3R J3S
  have hk0:=hk
  obtain ⟨a1,a2,a3,a4,a5,a6,xs,⟨dx,h1⟩,h2,h3,h4,h5,h6⟩:=hk0
  have cH:=tx.JA.cl
  have nH:=tx.JZ
  walk_at "rd"
  intro F nF
  obtain ⟨H1,e1,hF,s1⟩:=newl (xs:=[]) nF
  rw [← e1]
  have h11:=s1 _ _ h1
  walk_at "rd"
  refine J2U (lo:=0) (n:=dd.toNat) (fun i σ H2=>Here (∃ v1,σ = [some (.ref h),some (.ref r),some (.ref F),v1] ∧ H2 F = some (.lst []) ∧ Same H H2)) (Here.mk ⟨none,rfl,hF,s1⟩) ?_ ?_
  ·rintro i σ H2 hi hv
   obtain ⟨v1,rfl,hF2,s2⟩:=hv.out
   have hk2:=hk.same s2
   have hr2:=s2 _ _ hr0
   have ho2:=ho (0 + (i : Int)) (by omega) (by omega)
   walk_at "rd"
   intro Da0 Ha0 sa0 na0 ha0
   have hFa0:=sa0 _ _ hF2
   obtain ⟨Hb0,eb0,hFb0,sb0⟩:=J2V hFa0
   have Sb0:=(s2.trans sa0).trans sb0
   have hkb0 : Hn J1 (upd Ha0 F (.lst ([] ++ []))) h dd ks nds:=by rw [← eb0]; exact hk.same Sb0
   have hrb0 : upd Ha0 F (.lst ([] ++ [])) r = some (.lst []):=by rw [← eb0]; exact Sb0 _ _ hr0
   walk_at "rd"
   intro Da1 Ha1 sa1 na1 ha1
   rw [← eb0] at sa1 na1
   have hFa1:=sa1 _ _ hFb0
   obtain ⟨Hb1,eb1,hFb1,sb1⟩:=J2V hFa1
   have Sb1:=(Sb0.trans sa1).trans sb1
   have hkb1 : Hn J1 (upd Ha1 F (.lst ([] ++ []))) h dd ks nds:=by rw [← eb1]; exact hk.same Sb1
   have hrb1 : upd Ha1 F (.lst ([] ++ [])) r = some (.lst []):=by rw [← eb1]; exact Sb1 _ _ hr0
   walk_at "rd"
   intro Da2 Ha2 sa2 na2 ha2
   rw [← eb1] at sa2 na2
   have hFa2:=sa2 _ _ hFb1
   obtain ⟨Hb2,eb2,hFb2,sb2⟩:=J2V hFa2
   have Sb2:=(Sb1.trans sa2).trans sb2
   have hkb2 : Hn J1 (upd Ha2 F (.lst ([] ++ []))) h dd ks nds:=by rw [← eb2]; exact hk.same Sb2
   have hrb2 : upd Ha2 F (.lst ([] ++ [])) r = some (.lst []):=by rw [← eb2]; exact Sb2 _ _ hr0
   walk_at "rd"
   intro Da3 Ha3 sa3 na3 ha3
   rw [← eb2] at sa3 na3
   have hFa3:=sa3 _ _ hFb2
   obtain ⟨Hb3,eb3,hFb3,sb3⟩:=J2V hFa3
   have Sb3:=(Sb2.trans sa3).trans sb3
   have hkb3 : Hn J1 (upd Ha3 F (.lst ([] ++ []))) h dd ks nds:=by rw [← eb3]; exact hk.same Sb3
   have hrb3 : upd Ha3 F (.lst ([] ++ [])) r = some (.lst []):=by rw [← eb3]; exact Sb3 _ _ hr0
   walk_at "rd"
   intro Da4 Ha4 sa4 na4 ha4
   rw [← eb3] at sa4 na4
   have hFa4:=sa4 _ _ hFb3
   obtain ⟨Hb4,eb4,hFb4,sb4⟩:=J2V hFa4
   have Sb4:=(Sb3.trans sa4).trans sb4
   have hkb4 : Hn J1 (upd Ha4 F (.lst ([] ++ []))) h dd ks nds:=by rw [← eb4]; exact hk.same Sb4
   have hrb4 : upd Ha4 F (.lst ([] ++ [])) r = some (.lst []):=by rw [← eb4]; exact Sb4 _ _ hr0
   walk_at "rd"
   intro Da5 Ha5 sa5 na5 ha5
   rw [← eb4] at sa5 na5
   have hFa5:=sa5 _ _ hFb4
   obtain ⟨Hb5,eb5,hFb5,sb5⟩:=J2V hFa5
   have Sb5:=(Sb4.trans sa5).trans sb5
   have hkb5 : Hn J1 (upd Ha5 F (.lst ([] ++ []))) h dd ks nds:=by rw [← eb5]; exact hk.same Sb5
   have hrb5 : upd Ha5 F (.lst ([] ++ [])) r = some (.lst []):=by rw [← eb5]; exact Sb5 _ _ hr0
   walk_at "rd"
   rw [← eb5]
   exact Here.mk ⟨_,rfl,hFb5,Sb5⟩
  ·rintro σ H2 hv
   obtain ⟨v1,rfl,hF2,s2⟩:=hv.out
   walk_at "rd"
   exact q F H2 s2 nF hF2
end
noncomputable def JaO (C : Addr) : Sp:=fun vs H Q _=>∃ p dx a,vs = [.ref p,a] ∧ H p = some (.ins C dx []) ∧ ∀ H',But p H H' → Q .non H'
noncomputable def JaI (C : Addr) : Sp:=fun vs H Q _=>∃ p dx a b c,vs = [.ref p,a,b,c] ∧ H p = some (.ins C dx []) ∧ ∀ H',But p H H' → Q .non H'
noncomputable def JbT (C : Addr) : List V → Hp → VK → Prop:=fun vs H Q=>∃ a,vs = [a] ∧ ∀ p H',Same H H' → Q (.ref p) H'
theorem Jb0 {C : Addr} : ∀ vs H Q,JbT C vs H Q → ∀ x dx,H x = none → H dx = none → dx ≠ x → JaO C (.ref x :: (vs ++ [])) (upd (upd H dx (.own x)) x (.ins C dx [])) (fun v H2=>v = .non ∧ Q (.ref x) H2) E0:=by
 rintro _ H Q ⟨a,rfl,q⟩ x dx nx nd _
 exact ⟨x,dx,a,rfl,Jd,fun H' b=>⟨rfl,q x H' (J0W nx nd b)⟩⟩
noncomputable def JaU (C : Addr) : List V → Hp → VK → Prop:=fun vs H Q=>∃ a b c,vs = [a,b,c] ∧ ∀ p H',Same H H' → Q (.ref p) H'
theorem JbW {C : Addr} : ∀ vs H Q,JaU C vs H Q → ∀ x dx,H x = none → H dx = none → dx ≠ x → JaI C (.ref x :: (vs ++ [])) (upd (upd H dx (.own x)) x (.ins C dx [])) (fun v H2=>v = .non ∧ Q (.ref x) H2) E0:=by
 rintro _ H Q ⟨a,b,c,rfl,q⟩ x dx nx nd _
 exact ⟨x,dx,a,b,c,rfl,Jd,fun H' b=>⟨rfl,q x H' (J0W nx nd b)⟩⟩
theorem Hn.made {C : Addr} {H : Hp} {h x dx : Addr} {u o : HO} {dd : Int} {ks : List Nat} {nds : List Nd} (k : Hn C H h dd ks nds) (nx : H x = none) (nd : H dx = none) : Hn C (upd (upd H dx u) x o) h dd ks nds :=
 k.same fun a v e=>J1Z nx nd e
noncomputable def J9B (CH C : Addr) : Sp:=fun vs H Q _=>∃ p dx h dd ks nds,vs = [.ref p,.ref h] ∧ H p = some (.ins C dx []) ∧ Hn CH H h dd ks nds ∧ ∀ H',But p H H' → Q .non H'
noncomputable def JcP (CH : Addr) : List V → Hp → VK → Prop:=fun vs H Q=>∃ h dd ks nds,vs = [.ref h] ∧ Hn CH H h dd ks nds ∧ ∀ p H',Same H H' → Q (.ref p) H'
theorem Jcx {CH C : Addr} : ∀ vs H Q,JcP CH vs H Q → ∀ x dx,H x = none → H dx = none → dx ≠ x → J9B CH C (.ref x :: (vs ++ [])) (upd (upd H dx (.own x)) x (.ins C dx [])) (fun v H2=>v = .non ∧ Q (.ref x) H2) E0:=by
 rintro _ H Q ⟨h,dd,ks,nds,rfl,k,q⟩ x dx nx nd _
 exact ⟨x,dx,h,dd,ks,nds,rfl,Jd,k.made nx nd,fun H' b=>⟨rfl,q x H' (J0W nx nd b)⟩⟩
noncomputable def J9E (CH C : Addr) : Sp:=fun vs H Q _=>∃ p dx h a dd ks nds,vs = [.ref p,.ref h,a] ∧ H p = some (.ins C dx []) ∧ Hn CH H h dd ks nds ∧ ∀ H',But p H H' → Q .non H'
noncomputable def JcV (CH : Addr) : List V → Hp → VK → Prop:=fun vs H Q=>∃ h a dd ks nds,vs = [.ref h,a] ∧ Hn CH H h dd ks nds ∧ ∀ p H',Same H H' → Q (.ref p) H'
theorem Jcd {CH C : Addr} : ∀ vs H Q,JcV CH vs H Q → ∀ x dx,H x = none → H dx = none → dx ≠ x → J9E CH C (.ref x :: (vs ++ [])) (upd (upd H dx (.own x)) x (.ins C dx [])) (fun v H2=>v = .non ∧ Q (.ref x) H2) E0:=by
 rintro _ H Q ⟨h,a,dd,ks,nds,rfl,k,q⟩ x dx nx nd _
 exact ⟨x,dx,h,a,dd,ks,nds,rfl,Jd,k.made nx nd,fun H' b=>⟨rfl,q x H' (J0W nx nd b)⟩⟩
noncomputable def J9y (C : Addr) : Sp:=fun vs H Q _=>∃ p dx h r xs,vs = [.ref p,h,.ref r] ∧ H p = some (.ins C dx []) ∧ H r = some (.lst xs) ∧ ∀ H',But p H H' → Q .non H'
noncomputable def JcO : List V → Hp → VK → Prop:=fun vs H Q=>∃ h r xs,vs = [h,.ref r] ∧ H r = some (.lst xs) ∧ ∀ p H',Same H H' → Q (.ref p) H'
theorem Jcp {C : Addr} : ∀ vs H Q,JcO vs H Q → ∀ x dx,H x = none → H dx = none → dx ≠ x → J9y C (.ref x :: (vs ++ [])) (upd (upd H dx (.own x)) x (.ins C dx [])) (fun v H2=>v = .non ∧ Q (.ref x) H2) E0:=by
 rintro _ H Q ⟨h,r,xs,rfl,k,q⟩ x dx nx nd _
 exact ⟨x,dx,h,r,xs,rfl,Jd,J1Z nx nd k,fun H' b=>⟨rfl,q x H' (J0W nx nd b)⟩⟩
theorem But.same {p : Addr} {H H1 H2 : Hp} (b : But p H H1) (s : Same H1 H2) : But p H H2:=fun a o n e=>s _ _ (b a o n e)
theorem put1 {f : Str} {v : V} : (putF f v []).length < 1000:=by show 1 < 1000; decide
theorem put2 {f g : Str} {u v : V} (h : ¬ f = g) : (putF g v (putF f u [])).length < 1000:=by
 show (if f = g then _ else _ : List (Str × V)).length < 1000
 rw [if_neg h]
 show 2 < 1000
 decide
theorem Hn.but {C C' : Addr} {H H' : Hp} {h p dx : Addr} {dd : Int} {ks : List Nat} {nds : List Nd} (k : Hn C H h dd ks nds) (b : But p H H') (hp : H p = some (.ins C' dx [])) : Hn C H' h dd ks nds:=by
 obtain ⟨a1,a2,a3,a4,a5,a6,xs,⟨dx1,h1⟩,h2,h3,h4,h5,h6⟩:=k
 have nl : ∀ {a : Addr} {x : List V},H a = some (.lst x) → a ≠ p:=fun e=>J2f e hp fun z=>by cases z
 refine ⟨a1,a2,a3,a4,a5,a6,xs,⟨dx1,b _ _ (J2f h1 hp fun z=>by cases z) h1⟩,b _ _ (nl h2) h2,h3.imp fun n y ⟨t,e,ht⟩=>⟨t,e,b _ _ (J2f ht hp fun z=>by cases z) ht⟩,b _ _ (nl h4) h4,b _ _ (nl h5) h5,b _ _ (nl h6) h6⟩
noncomputable def Jd4 (C : Addr) : Sp:=fun vs H Q _=>∃ h dd ks nds,vs = [.ref h] ∧ Hn C H h dd ks nds ∧ ∀ D H',Same H H' → H D = none → H' D = some (.lst []) → Q (.ref D) H'
noncomputable def Jda (C : Addr) : Sp:=fun vs H Q _=>∃ h dd ks nds,vs = [.ref h] ∧ Hn C H h dd ks nds ∧ ∀ D H',Same H H' → Q (.ref D) H'
noncomputable def JaJ : Sp:=fun vs H Q _=>∃ h c r,vs = [h,c,.ref r] ∧ H r = some (.lst []) ∧ Q (.int 0) H
section
variable {P : Program} {w : World} {K : PySem.W.Frag} {mg : Str → Option Value} {base : Heap} {Ji Jh J1 Jj J4 J3 J5 Jb J8 Jg Jf : Addr}
local macro_rules | `(tactic| walk_at "lk")=>`(tactic| first | exact J1r _ _ _ _ _ _ _ _ | exact J6O _ _ _ _ _ _ _ _ | exact put1)
theorem J7g (tx : Tx K mg Ji Jh J1 Jj J4 J3 J5 Jb J8 Jg Jf) : MtG P w K mg base Ji "__init__" 1 ["self","word"] (JaO Ji):=by
 refine tx.J7m.g tx.J7F.cl J6x (fun _ _ _ _ _ _ us hl=>match us,hl with | [_,_],_=>rfl) (fun vs H Q E h=>?_) (fun f cdv A outer s H vs Q E hr h=>?_)
 ·obtain ⟨p,dx,a,rfl,_⟩:=h
  rfl
 ·obtain ⟨p,dx,a,rfl,hp,q⟩:=h
  refine ⟨_,(Jc (JN (pv 0) (pv 1) rfl)),?_⟩
  walk_at "st"
  have cE:=tx.J7F.cl
  have n1:=tx.J1F
  have z0 : ([] : List (Str × V)).length < 1000:=by decide
  walk_at "rd"
  exact q _ (But.refl p H).at
theorem J7k (tx : Tx K mg Ji Jh J1 Jj J4 J3 J5 Jb J8 Jg Jf) : MtG P w K mg base Jh "__init__" 1 ["self","many","marks","days"] (JaI Jh):=by
 refine tx.J7q.g tx.J7n.cl J6r (fun _ _ _ _ _ _ us hl=>match us,hl with | [_,_,_,_],_=>rfl) (fun vs H Q E h=>?_) (fun f cdv A outer s H vs Q E hr h=>?_)
 ·obtain ⟨p,dx,a,b,c,rfl,_⟩:=h
  rfl
 ·obtain ⟨p,dx,a,b,c,rfl,hp,q⟩:=h
  refine ⟨_,(J7 (JN (pv 0) (pv 1) rfl)
   (J7 (JN (pv 0) (pv 2) rfl)
   (Jc (JN (pv 0) (pv 3) rfl)))),?_⟩
  walk_at "st"
  have cE:=tx.J7n.cl
  have n1:=tx.J1U
  have n2:=tx.J1i
  have n3:=tx.J1O
  have z0 : ([] : List (Str × V)).length < 1000:=by decide
  have z2 : (putF "marks" b (putF "many" a [])).length < 1000:=put2 (by decide +kernel)
  walk_at "rd"
  exact q _ (But.refl p H).at.at.at
theorem J4k (tx : Tx K mg Ji Jh J1 Jj J4 J3 J5 Jb J8 Jg Jf) : FnG P w K mg base "burdens_of" 1 ["house"] (Jd4 J1):=by
 refine tx.J7B.g J6t (fun _ _ _ _ _ _ us hl=>match us,hl with | [_],_=>rfl) (fun vs H Q E h=>?_) (fun f cdv A outer s H vs Q E hr h=>?_)
 ·obtain ⟨h,dd,ks,nds,rfl,_⟩:=h
  rfl
 ·obtain ⟨h,dd,ks,nds,rfl,⟨a1,a2,a3,a4,a5,a6,xs,⟨dx,h1⟩,h2,h3,h4,h5,h6⟩,q⟩:=h
  refine ⟨_,(Jc (Jo (JS (osc:=J2 J0F) (ON:=["house"]) (N:=["person"]) (js:=[none]) ⟨rfl,by decide +kernel,by decide +kernel,by decide +kernel,rfl,by decide +kernel⟩ rfl rfl rfl (Jt (K:=K) rfl (Jr (K:=K) rfl (pv 0) rfl)) (fun _ _ _ _ _=>Jk (i:=0) (show List.Nodup (["person"] : List Str) from by decide +kernel) rfl (Or.inl rfl)) (fun _ _ _ _ _=>JE) (fun _ _ _ _ _=>J17)))),?_⟩
  walk_at "st"
  have cH:=tx.JA.cl
  have nH:=tx.Ju
  walk_at "rd"
  refine JD (fun H' s'=>⟨[],SqL.of (s' _ _ h4),Nat.le_refl _⟩) fun D H1 nD s1 hD1=>?_
  exact q D H1 s1 nD hD1
theorem J4j (tx : Tx K mg Ji Jh J1 Jj J4 J3 J5 Jb J8 Jg Jf) : FnG P w K mg base "wishes_by_place" 1 ["house"] (Jda J1):=by
 refine tx.J4c.g J0i (fun _ _ _ _ _ _ us hl=>match us,hl with | [_],_=>rfl) (fun vs H Q E h=>?_) (fun f cdv A outer s H vs Q E hr h=>?_)
 ·obtain ⟨h,dd,ks,nds,rfl,_⟩:=h
  rfl
 ·obtain ⟨h,dd,ks,nds,rfl,⟨a1,a2,a3,a4,a5,a6,xs,⟨dx,h1⟩,h2,h3,h4,h5,h6⟩,q⟩:=h
  refine ⟨_,(J7 (Jq (i:=1) J0i.nd rfl (Or.inl rfl) J8N)
   (J7 (J03 PassesOwn.never rfl (Jt (K:=K) rfl (Jr (K:=K) rfl (pv 0) rfl)) (J1Y rfl (Jp (Jk (i:=2) J0i.nd rfl (Or.inl rfl)) (Jp (Jk (i:=3) J0i.nd rfl (Or.inl rfl)) (Jp (Jk (i:=4) J0i.nd rfl (Or.inl rfl)) J0Y)))) J2A)
   (Jc (Jo (pv 1))))),?_⟩
  walk_at "st"
  have cH:=tx.JA.cl
  have nH:=tx.J0d
  walk_at "rd"
  intro D nD
  generalize e : upd H D _ = H1
  obtain ⟨y1,s1⟩:=J06 nD e
  have h11:=s1 _ _ h1
  have h51:=s1 _ _ h5
  walk_at "rd"
  refine J0L ⟨[],SqL.of h51,Nat.le_refl _⟩ ?_
  walk_at "rd"
  exact q D H1 s1
theorem J4M (tx : Tx K mg Ji Jh J1 Jj J4 J3 J5 Jb J8 Jg Jf) : MtG P w K mg base J4 "__init__" 2 ["self","house"] (J9B J1 J4):=by
 have J1K:=J4k (P:=P) (w:=w) (base:=base) tx
 have J2y:=J4j (P:=P) (w:=w) (base:=base) tx
 refine tx.J4L.g tx.J3v.cl J4i (fun _ _ _ _ _ _ us hl=>match us,hl with | [_,_],_=>rfl) (fun vs H Q E h=>?_) (fun f cdv A outer s H vs Q E hr h=>?_)
 ·obtain ⟨p,dx,h,dd,ks,nds,rfl,_⟩:=h
  rfl
 ·obtain ⟨p,dx,h,dd,ks,nds,rfl,hp,hk,q⟩:=h
  refine ⟨_,(J7 (JN (pv 0) (JI J1s (Jv (JH (K:=K) rfl) rfl tx.J21 PySem.boot_len (J0 (Jr (K:=K) rfl (pv 1) rfl) J6)) Je) rfl)
   (J7 (JN (pv 0) (Jz J1K (hr.mono (by decide)) (J0 (pv 1) J6)) rfl)
   (Jc (JN (pv 0) (Jz J2y (hr.mono (by decide)) (J0 (pv 1) J6)) rfl)))),?_⟩
  walk_at "st"
  clear J1K J2y
  have hk0:=hk
  obtain ⟨a1,a2,a3,a4,a5,a6,xs,⟨dx1,h1⟩,h2,h3,h4,h5,h6⟩:=hk0
  have cH:=tx.JA.cl
  have nH:=tx.J0d
  have cE:=tx.J3v.cl
  have n1:=tx.J0g
  have n2:=tx.JY
  have n3:=tx.J0f
  have z0 : ([] : List (Str × V)).length < 1000:=by decide
  have hk1 : Hn J1 (upd H p (.ins J4 dx (putF "weight" (.int ((([] : List V).length : Nat) + 1)) []))) h dd ks nds:=hk.but (But.refl p H).at hp
  have b1 : But p H (upd H p (.ins J4 dx (putF "weight" (.int ((([] : List V).length : Nat) + 1)) []))):=(But.refl p H).at
  have y1 : upd H p (.ins J4 dx (putF "weight" (.int ((([] : List V).length : Nat) + 1)) [])) p = some (.ins J4 dx (putF "weight" (.int ((([] : List V).length : Nat) + 1)) [])):=Jd
  walk_at "rd"
  generalize upd H p (.ins J4 dx (putF "weight" (.int ((([] : List V).length : Nat) + 1)) [])) = H1 at hk1 b1 y1 ⊢
  intro D H2 s2 nD hD
  have y2:=s2 _ _ y1
  have b2:=(b1.same s2)
  have hk3 : Hn J1 (upd H2 p (.ins J4 dx (putF "burdens" (.ref D) (putF "weight" (.int ((([] : List V).length : Nat) + 1)) [])))) h dd ks nds:=hk.but b2.at hp
  have z2 : (putF "burdens" (.ref D) (putF "weight" (.int ((([] : List V).length : Nat) + 1)) [])).length < 1000:=put2 (by decide +kernel)
  walk_at "rd"
  intro D3 H3 s3
  have y3:=s3 _ _ (Jd (H:=H2) (a:=p) (o:=.ins J4 dx (putF "burdens" (.ref D) (putF "weight" (.int ((([] : List V).length : Nat) + 1)) []))))
  walk_at "rd"
  exact q _ ((b2.at.same s3).at)
theorem J4h (tx : Tx K mg Ji Jh J1 Jj J4 J3 J5 Jb J8 Jg Jf) : MtG P w K mg base J5 "__init__" 2 ["self","house","level"] (J9E J1 J5):=by
 have J1K:=J4k (P:=P) (w:=w) (base:=base) tx
 refine tx.J4f.g tx.J2Y.cl J3W (fun _ _ _ _ _ _ us hl=>match us,hl with | [_,_,_],_=>rfl) (fun vs H Q E h=>?_) (fun f cdv A outer s H vs Q E hr h=>?_)
 ·obtain ⟨p,dx,h,a,dd,ks,nds,rfl,_⟩:=h
  rfl
 ·obtain ⟨p,dx,h,a,dd,ks,nds,rfl,hp,hk,q⟩:=h
  refine ⟨_,(J7 (JN (pv 0) (Jz J1K (hr.mono (by decide)) (J0 (pv 1) J6)) rfl)
   (Jc (JN (pv 0) (pv 2) rfl))),?_⟩
  walk_at "st"
  clear J1K
  have cE:=tx.J2Y.cl
  have n1:=tx.JT
  have n2:=tx.J0h
  have z0 : ([] : List (Str × V)).length < 1000:=by decide
  walk_at "rd"
  intro D H1 s1 nD hD
  have hp1:=s1 _ _ hp
  walk_at "rd"
  exact q _ (((But.refl p H).same s1).at.at)
theorem J44 (tx : Tx K mg Ji Jh J1 Jj J4 J3 J5 Jb J8 Jg Jf) : MtG P w K mg base J3 "__init__" 2 ["self","house","rota"] (J9y J3):=by
 refine tx.J41.g tx.J2G.cl J3H (fun _ _ _ _ _ _ us hl=>match us,hl with | [_,_,_],_=>rfl) (fun vs H Q E h=>?_) (fun f cdv A outer s H vs Q E hr h=>?_)
 ·obtain ⟨p,dx,h,r,xs,rfl,_⟩:=h
  rfl
 ·obtain ⟨p,dx,h,r,xs,rfl,hp,hk,q⟩:=h
  refine ⟨_,(Jc (JN (pv 0) (JQ J02 rfl tx.J1Q J0w (J0 (pv 2) J6)) rfl)),?_⟩
  walk_at "st"
  have cE:=tx.J2G.cl
  have n1:=tx.J0b
  have z0 : ([] : List (Str × V)).length < 1000:=by decide
  have I1 : SqL K H r xs ∨ SqT K H r xs:=.inl (SqL.of hk)
  walk_at "rd"
  intro D nD
  obtain ⟨H1,e1,y1,s1⟩:=newl (xs:=xs) nD
  rw [← e1]
  have hp1:=s1 _ _ hp
  walk_at "rd"
  exact q _ (((But.refl p H).same s1).at)
theorem J42 (tx : Tx K mg Ji Jh J1 Jj J4 J3 J5 Jb J8 Jg Jf) : FnG P w K mg base "total_of" 2 ["house","costs","rota"] JaJ:=by
 refine tx.J91.g J2x (fun _ _ _ _ _ _ us hl=>match us,hl with | [_,_,_],_=>rfl) (fun vs H Q E h=>?_) (fun f cdv A outer s H vs Q E hr h=>?_)
 ·obtain ⟨h,c,r,rfl,_⟩:=h
  rfl
 ·obtain ⟨h,c,r,rfl,hr0,q⟩:=h
  refine ⟨_,(J7 (Jq (i:=3) J2x.nd rfl (Or.inl rfl) Je)
   (J7 (J03 PassesOwn.never rfl (J3C (K:=K) rfl rfl tx.J0l (J0 (pv 2) J6)) (J1Y rfl (Jp (Jk (i:=4) J2x.nd rfl (Or.inr rfl)) (Jp (Jk (i:=5) J2x.nd rfl (Or.inl rfl)) J0Y))) J2A)
   (Jc (Jo (pv 3))))),?_⟩
  walk_at "st"
  walk_at "rd"
  refine J0L ⟨[],SqL.of hr0,Nat.le_refl _⟩ ?_
  walk_at "rd"
  exact q
end
noncomputable abbrev e0 : PKy:=([],[])
noncomputable abbrev fW (a b c d e : V) : List (Str × V):=[("house",a),("costs",b),("bound",c),("kept",d),("known",e)]
theorem J6e (a b c d e : V) : List.lookup ("house" : Str) (fW a b c d e) = some a:=J2t
theorem J67 (a b c d e : V) : List.lookup ("costs" : Str) (fW a b c d e) = some b:=by rw [JJ (by decide +kernel),J2t]
theorem J7P (a b c d e : V) : List.lookup ("kept" : Str) (fW a b c d e) = some d:=by rw [JJ (by decide +kernel),JJ (by decide +kernel),JJ (by decide +kernel),J2t]
theorem J8W (a : V) : List.lookup ("pages" : Str) [(("pages" : Str),a)] = some a:=J2t
theorem J8p (a : V) : List.lookup ("floor" : Str) [(("pages" : Str),a)] = none:=by rw [JJ (by decide +kernel)]; rfl
noncomputable def WkAt (CH CW : Addr) (H : Hp) (wk h : Addr) (c : V) (dd : Int) (ks : List Nat) (nds : List Nd) : Prop:=∃ dx b k n,H wk = some (.ins CW dx (fW (.ref h) c b (.ref k) n)) ∧ H k = some (.lst []) ∧ Hn CH H h dd ks nds
theorem WkAt.same {CH CW : Addr} {H H' : Hp} {wk h : Addr} {c : V} {dd : Int} {ks : List Nat} {nds : List Nd} (x : WkAt CH CW H wk h c dd ks nds) (s : Same H H') : WkAt CH CW H' wk h c dd ks nds :=
 let ⟨dx,b,k,n,h1,h2,h3⟩:=x; ⟨dx,b,k,n,s _ _ h1,s _ _ h2,h3.same s⟩
noncomputable def JaK (CH C : Addr) : Sp:=fun vs H Q _=>∃ p dx h c dd ks nds,vs = [.ref p,.ref h,c] ∧ H p = some (.ins C dx []) ∧ Hn CH H h dd ks nds ∧ ∀ H' b k n,But p H H' → H' p = some (.ins C dx (fW (.ref h) c b (.ref k) n)) → H' k = some (.lst []) → Q .non H'
noncomputable def rWk (CH C : Addr) : List V → Hp → VK → Prop:=fun vs H Q=>∃ h c dd ks nds,vs = [.ref h,c] ∧ Hn CH H h dd ks nds ∧ ∀ p H',Same H H' → WkAt CH C H' p h c dd ks nds → Q (.ref p) H'
theorem JcJ {CH C : Addr} : ∀ vs H Q,rWk CH C vs H Q → ∀ x dx,H x = none → H dx = none → dx ≠ x → JaK CH C (.ref x :: (vs ++ [])) (upd (upd H dx (.own x)) x (.ins C dx [])) (fun v H2=>v = .non ∧ Q (.ref x) H2) E0:=by
 rintro _ H Q ⟨h,c,dd,ks,nds,rfl,k,q⟩ x dx nx nd _
 refine ⟨x,dx,h,c,dd,ks,nds,rfl,Jd,k.made nx nd,fun H' b kk n bt e1 e2=>⟨rfl,q x H' (J0W nx nd bt) ⟨dx,b,kk,n,e1,e2,k.same (J0W nx nd bt)⟩⟩⟩
theorem puts {f g : Str} {v x : V} {r : List (Str × V)} (h : ¬ g = f) : putF f v ((g,x) :: r) = (g,x) :: putF f v r:=if_neg h
theorem putW (a b c d e : V) : putF "known" e (putF "kept" d (putF "bound" c (putF "costs" b (putF "house" a [])))) = fW a b c d e:=by
 show putF "known" e (putF "kept" d (putF "bound" c (putF "costs" b [("house",a)]))) = _
 rw [puts (by decide +kernel)]
 show putF "known" e (putF "kept" d (putF "bound" c [("house",a),("costs",b)])) = _
 rw [puts (by decide +kernel),puts (by decide +kernel)]
 show putF "known" e (putF "kept" d [("house",a),("costs",b),("bound",c)]) = _
 rw [puts (by decide +kernel),puts (by decide +kernel),puts (by decide +kernel)]
 show putF "known" e [("house",a),("costs",b),("bound",c),("kept",d)] = _
 rw [puts (by decide +kernel),puts (by decide +kernel),puts (by decide +kernel),puts (by decide +kernel)]
 rfl
theorem J2B {f : Str} {v : V} : ∀ fs : List (Str × V),(putF f v fs).length ≤ fs.length + 1
 | []=>Nat.le_refl _
 | (g,x) :: r=>by
  show (if g = f then (g,v) :: r else (g,x) :: putF f v r).length ≤ _
  split
  ·rw [List.length_cons,List.length_cons]; omega
  ·rw [List.length_cons,List.length_cons]
   have:=J2B (f:=f) (v:=v) r
   omega
noncomputable def cF (es : List (PKy × Int)) (b : Addr) : List PEn:=match es with | []=>[] | _ :: _=>[(e0,b,.int 0)]
noncomputable def Jc0 (CH CW : Addr) : Sp:=fun vs H Q _=>∃ wk h c dd ks nds,vs = [.ref wk] ∧ WkAt CH CW H wk h c dd ks nds ∧ ∀ t H',Same H H' → H t = none → EnAt H' t e0 0 → Q (.ref t) H'
noncomputable def JbX : Sp:=fun vs H Q _=>∃ (c : V) (b : Addr) (z : Int),vs = [c,.ref b,.int z] ∧ H b = some (.tup []) ∧ ∀ H',Same H H' → Q (.int z) H'
noncomputable def Jde (P : Program) (w : World) : Sp:=fun vs H Q _=>∃ p es,vs = [.ref p] ∧ PgAt H p es ∧ (es = [] ∨ es = [(e0,0)]) ∧ ∀ D b H',Same H H' → DAt P w H' D (cF es b) → Q (.ref D) H'
noncomputable def Jdc (P : Program) (w : World) : Sp:=fun vs H Q _=>∃ t D es b,vs = [.ref t,.ref D] ∧ EnAt H t e0 0 ∧ DAt P w H D (cF es b) ∧ ∀ H',Same H H' → Q (.bl (!es.isEmpty)) H'
noncomputable def Jd7 (CH CW : Addr) : Sp:=fun vs H Q _=>∃ wk d t ev o,vs = [wk,d,.ref t,.ref ev] ∧ EnAt H t e0 0 ∧ H ev = some (.lst (if o = true then [T []] else [])) ∧
 ∀ D H',Same H H' → (o = false → H' D = some (.lst []) → Q (.ref D) H') ∧ (o = true → ∀ pr t',H' D = some (.lst [.ref pr]) → H' pr = some (.tup [.ref t',T []]) → EnAt H' t' e0 0 → Q (.ref D) H')
theorem at30 (a b c : V) : atI [a,b,c] 0 = some a:=by simp [atI,ixN]
theorem at31 (a b c : V) : atI [a,b,c] 1 = some b:=by simp [atI,ixN]
theorem at32 (a b c : V) : atI [a,b,c] 2 = some c:=by simp [atI,ixN]
section
variable {P : Program} {w : World} {K : PySem.W.Frag} {mg : Str → Option Value} {base : Heap} {Ji Jh J1 Jj J4 J3 J5 Jb J8 Jg Jf : Addr}
local macro_rules | `(tactic| walk_at "lk")=>`(tactic| first | exact J1r _ _ _ _ _ _ _ _ | exact J4z _ _ _ _ _ _ _ _ | exact J3G _ _ _ _ _ _ _ _ | exact J6e _ _ _ _ _ | exact J67 _ _ _ _ _ | exact J7P _ _ _ _ _ | exact put1 | exact Or.inr (SqT.of (by with_reducible assumption)))
theorem J4T (tx : Tx K mg Ji Jh J1 Jj J4 J3 J5 Jb J8 Jg Jf) : MtG P w K mg base Jf "__init__" 2 ["self","house","costs"] (JaK J1 Jf):=by
 refine tx.J8c.g tx.J3w.cl J4d (fun _ _ _ _ _ _ us hl=>match us,hl with | [_,_,_],_=>rfl) (fun vs H Q E h=>?_) (fun f cdv A outer s H vs Q E hr h=>?_)
 ·obtain ⟨p,dx,h,c,dd,ks,nds,rfl,_⟩:=h
  rfl
 ·obtain ⟨p,dx,h,c,dd,ks,nds,rfl,hp,hk,q⟩:=h
  refine ⟨_,(J7 (Jq (i:=3) J4d.nd rfl (Or.inl rfl) (JQ (J9c rfl) rfl tx.J1Q J0w (J0 (JQ J8C rfl tx.J0x J8X (J0 (Jv (JH (K:=K) rfl) rfl tx.J21 PySem.boot_len (J0 (Jr (K:=K) rfl (pv 1) rfl) J6)) J6)) J6)))
   (J7 (JN (pv 0) (pv 1) rfl)
   (J7 (JN (pv 0) (pv 2) rfl)
   (J7 (JN (pv 0) (JS (osc:=J2 J0C) (ON:=["self","house","costs","persons"]) (N:=["p","house"]) (js:=[none,some 1]) ⟨rfl,by decide +kernel,by decide +kernel,by decide +kernel,rfl,by decide +kernel⟩ rfl rfl rfl (Jt (K:=K) rfl (pv 3)) (fun _ _ _ _ _=>Jk (i:=0) (show List.Nodup (["p","house"] : List Str) from by decide +kernel) rfl (Or.inl rfl)) (fun _ _ _ _ _=>JE) (fun _ _ _ _ _=>J17)) rfl)
   (J7 (JN (pv 0) (JS (osc:=J2 J0C) (ON:=["self","house","costs","persons"]) (N:=["p","house"]) (js:=[none,some 1]) ⟨rfl,by decide +kernel,by decide +kernel,by decide +kernel,rfl,by decide +kernel⟩ rfl rfl rfl (Jt (K:=K) rfl (pv 3)) (fun _ _ _ _ _=>Jk (i:=0) (show List.Nodup (["p","house"] : List Str) from by decide +kernel) rfl (Or.inl rfl)) (fun _ _ _ _ _=>JE) (fun _ _ _ _ _=>J17)) rfl)
   (Jc (JN (pv 0) J8N rfl))))))),?_⟩
  walk_at "st"
  obtain ⟨a1,a2,a3,a4,a5,a6,xs,⟨dx1,h1⟩,h2,h3,h4,h5,h6⟩:=hk
  have cH:=tx.JA.cl
  have nH:=tx.Ju
  have cE:=tx.J3w.cl
  have n1:=tx.J00
  have n2:=tx.J1G
  have n3:=tx.J1J
  have n4:=tx.J1C
  have n5:=tx.J1M
  have z0 : ([] : List (Str × V)).length < 1000:=by decide
  have l0 : (0 : Int) ≤ ((([] : List V).length : Nat) : Int):=by decide
  have l1 : ((([] : List V).length : Nat) : Int) ≤ 1000:=by decide
  walk_at "rd"
  intro pr npr
  generalize e1 : upd H pr _ = H1
  obtain ⟨y1,s1⟩:=J06 npr e1
  walk_at "rd"
  intro pl npl
  generalize e2 : upd H1 pl _ = H2
  obtain ⟨y2,s2⟩:=J06 npl e2
  have y2' : H2 pl = some (.lst []):=y2
  have hp2:=(s1.trans s2) _ _ hp
  have npp : pl ≠ p:=(J9 (s1 _ _ hp) npl).symm
  have b2 : But p H H2:=(But.refl p H).same (s1.trans s2)
  walk_at "rd"
  have y3 : upd (upd H2 p (.ins Jf dx (putF "house" (.ref h) []))) p (.ins Jf dx (putF "costs" c (putF "house" (.ref h) []))) p = some (.ins Jf dx (putF "costs" c (putF "house" (.ref h) []))):=Jd
  have l3 : upd (upd H2 p (.ins Jf dx (putF "house" (.ref h) []))) p (.ins Jf dx (putF "costs" c (putF "house" (.ref h) []))) pl = some (.lst []):=by rw [Ja npp,Ja npp]; exact y2'
  have b3 : But p H (upd (upd H2 p (.ins Jf dx (putF "house" (.ref h) []))) p (.ins Jf dx (putF "costs" c (putF "house" (.ref h) [])))):=b2.at.at
  refine ⟨⟨[],SqL.of l3⟩,?_⟩
  generalize upd (upd H2 p (.ins Jf dx (putF "house" (.ref h) []))) p (.ins Jf dx (putF "costs" c (putF "house" (.ref h) []))) = H3 at y3 l3 b3 ⊢
  refine JD (fun H' s'=>⟨[],SqL.of (s' _ _ l3),Nat.le_refl _⟩) fun D4 H4 nD4 s4 hD4=>?_
  have y4:=s4 _ _ y3
  have l4:=s4 _ _ l3
  have b4:=b3.same s4
  have z2 : (putF "costs" c (putF "house" (.ref h) [])).length < 1000:=put2 (by decide +kernel)
  walk_at "rd"
  have y5 : upd H4 p (.ins Jf dx (putF "bound" (.ref D4) (putF "costs" c (putF "house" (.ref h) [])))) p = some (.ins Jf dx (putF "bound" (.ref D4) (putF "costs" c (putF "house" (.ref h) [])))):=Jd
  have l5 : upd H4 p (.ins Jf dx (putF "bound" (.ref D4) (putF "costs" c (putF "house" (.ref h) [])))) pl = some (.lst []):=by rw [Ja npp]; exact l4
  have b5 : But p H (upd H4 p (.ins Jf dx (putF "bound" (.ref D4) (putF "costs" c (putF "house" (.ref h) []))))):=b4.at
  refine ⟨⟨[],SqL.of l5⟩,?_⟩
  generalize upd H4 p (.ins Jf dx (putF "bound" (.ref D4) (putF "costs" c (putF "house" (.ref h) [])))) = H5 at y5 l5 b5 ⊢
  refine JD (fun H' s'=>⟨[],SqL.of (s' _ _ l5),Nat.le_refl _⟩) fun D6 H6 nD6 s6 hD6=>?_
  have y6:=s6 _ _ y5
  have b6:=b5.same s6
  have np6 : D6 ≠ p:=(J9 y5 nD6).symm
  have z3 : (putF "bound" (.ref D4) (putF "costs" c (putF "house" (.ref h) []))).length < 1000:=by
   have h1:=J2B (f:="bound") (v:=.ref D4) (putF "costs" c (putF "house" (.ref h) []))
   have h2:=J2B (f:="costs") (v:=c) (putF "house" (.ref h) [])
   have h3:=J2B (f:="house") (v:=.ref h) []
   rw [List.length_nil] at h3
   omega
  walk_at "rd"
  intro D7 n7
  generalize e7 : upd (upd H6 p _) D7 _ = H7
  obtain ⟨y7,s7⟩:=J06 n7 e7
  have y7p:=s7 _ _ (Jd (H:=H6) (a:=p) (o:=.ins Jf dx (putF "kept" (.ref D6) (putF "bound" (.ref D4) (putF "costs" c (putF "house" (.ref h) []))))))
  have l7 : H7 D6 = some (.lst []):=s7 _ _ (by rw [Ja np6]; exact hD6)
  have z4 : (putF "kept" (.ref D6) (putF "bound" (.ref D4) (putF "costs" c (putF "house" (.ref h) [])))).length < 1000:=by
   have h0:=J2B (f:="kept") (v:=.ref D6) (putF "bound" (.ref D4) (putF "costs" c (putF "house" (.ref h) [])))
   have h1:=J2B (f:="bound") (v:=.ref D4) (putF "costs" c (putF "house" (.ref h) []))
   have h2:=J2B (f:="costs") (v:=c) (putF "house" (.ref h) [])
   have h3:=J2B (f:="house") (v:=.ref h) []
   rw [List.length_nil] at h3
   omega
  walk_at "rd"
  refine q _ (.ref D4) D6 (.ref D7) (((b6.at).same s7).at) ?_ ?_
  ·rw [Jd,putW]
  ·rw [Ja np6]; exact l7
theorem J3N (tx : Tx K mg Ji Jh J1 Jj J4 J3 J5 Jb J8 Jg Jf) : FnG P w K mg base "first_entry" 2 ["walk"] (Jc0 J1 Jf):=by
 refine tx.J6v.g J3s (fun _ _ _ _ _ _ us hl=>match us,hl with | [_],_=>rfl) (fun vs H Q E h=>?_) (fun f cdv A outer s H vs Q E hr h=>?_)
 ·obtain ⟨wk,h,c,dd,ks,nds,rfl,_⟩:=h
  rfl
 ·obtain ⟨wk,h,c,dd,ks,nds,rfl,⟨dxw,b,k,n,w1,w2,hk⟩,q⟩:=h
  refine ⟨_,(J7 (J3e (k:=1) (osc:=J2 J0q) (ON:=["walk","tails"]) (N:=["person","kept"]) (js:=[none,none]) J3s.nd rfl (Or.inl rfl) ⟨rfl,by decide +kernel,by decide +kernel,by decide +kernel,rfl,by decide +kernel⟩ rfl rfl rfl (J8O (K:=K) rfl rfl tx.J4X (J0 (Jr (K:=K) rfl (Jr (K:=K) rfl (pv 0) rfl) rfl) (J0 (Jr (K:=K) rfl (pv 0) rfl) J6))) (fun _ _ _ _ _=>J3x (K:=K) (i:=0) (j:=1) rfl rfl (show List.Nodup (["person","kept"] : List Str) from by decide +kernel) rfl rfl (Or.inl rfl) (Or.inl rfl)) (fun _ _ _ _ _=>JE) (fun _ _ _ _ _=>J17))
   (Jc (Jo (J05 (J0 (JQ (J2F (K:=K) rfl) rfl tx.J2z J2C (J0 (pv 1) J6)) (J0 (JQ (J2F (K:=K) rfl) rfl tx.J2z J2C (J0 (JI JdX (JP (J0 Je J6)) (Jv (JH (K:=K) rfl) rfl tx.J21 PySem.boot_len (J0 (pv 1) J6))) J6)) (J0 Je J6))))))),?_⟩
  walk_at "st"
  obtain ⟨a1,a2,a3,a4,a5,a6,xs,⟨dx1,h1⟩,h2,h3,h4,h5,h6⟩:=hk
  have cH:=tx.JA.cl
  have nH:=tx.Ju
  have cE:=tx.J3w.cl
  have n1:=tx.J00
  have n4:=tx.J1C
  walk_at "rd"
  refine JD (fun H' s'=>⟨[],[],SqL.of (s' _ _ h4),SqL.of (s' _ _ w2),.inl (Nat.le_refl _)⟩) fun D H1 nD s1 hD1=>?_
  walk_at "rd"
  intro ta nta
  obtain ⟨H2,e2,y2,s2⟩:=newt (xs:=[]) nta
  rw [← e2]
  have hD2:=s2 _ _ hD1
  walk_at "rd"
  intro z nz
  obtain ⟨H3,e3,y3,s3⟩:=newl (xs:=[V.int 0]) nz
  rw [← e3]
  have hD3:=s3 _ _ hD2
  have l63 : ((([] : List V).length : Nat) : Int) < 2 ^ 63:=by decide
  have lrp : [V.int 0].length * ((([] : List V).length : Nat) : Int).toNat ≤ sizeLine:=by decide
  walk_at "rd"
  intro zl nzl
  generalize e4 : upd H3 zl _ = H4
  obtain ⟨y4,s4⟩:=J06 nzl e4
  have y4' : H4 zl = some (.lst []):=y4
  walk_at "rd"
  intro tb ntb
  obtain ⟨H5,e5,y5,s5⟩:=newt (xs:=[]) ntb
  rw [← e5]
  have l3 : [V.ref ta,V.ref tb,V.int 0].length ≤ sizeLine:=show 3 ≤ sizeLine by decide
  walk_at "rd"
  intro t nt
  have S5:=(((s1.trans s2).trans s3).trans s4).trans s5
  have S6 : Same H5 (upd H5 t (.tup [V.ref ta,V.ref tb,V.int 0])):=J0n nt _
  exact q t _ (S5.trans S6) (S5.free nt) ⟨ta,tb,Jd,S6 _ _ (((s3.trans s4).trans s5) _ _ y2),S6 _ _ y5⟩
theorem J4s (tx : Tx K mg Ji Jh J1 Jj J4 J3 J5 Jb J8 Jg Jf) : FnG P w K mg base "whole_cost" 2 ["costs","counts","cost"] JbX:=by
 refine tx.J7J.g J6k (fun _ _ _ _ _ _ us hl=>match us,hl with | [_,_,_],_=>rfl) (fun vs H Q E h=>?_) (fun f cdv A outer s H vs Q E hr h=>?_)
 ·obtain ⟨c,b,z,rfl,_⟩:=h
  rfl
 ·obtain ⟨c,b,z,rfl,hb,q⟩:=h
  refine ⟨_,(Jc (Jo (JI J1s (pv 2) (Jv (J6U (K:=K) rfl rfl) rfl tx.J6I JaV (J0 (JS (osc:=J2 J0D) (ON:=["costs","counts","cost"]) (N:=["p","many","costs"]) (js:=[none,none,some 0]) ⟨rfl,by decide +kernel,by decide +kernel,by decide +kernel,rfl,by decide +kernel⟩ rfl rfl rfl (Jbn (K:=K) rfl rfl tx.J0l (J0 (pv 1) J6)) (fun _ _ _ _ _=>J3x (K:=K) (i:=0) (j:=1) rfl rfl (show List.Nodup (["p","many","costs"] : List Str) from by decide +kernel) rfl rfl (Or.inl rfl) (Or.inl rfl)) (fun _ _ _ _ _=>JE) (fun _ _ _ _ _=>J17)) J6))))),?_⟩
  walk_at "st"
  have hE : ∃ xs,SqT K H b xs:=⟨[],SqT.of hb⟩
  walk_at "rd"
  refine JD (fun H' s'=>⟨[],SqT.of (s' _ _ hb),rfl⟩) fun D H1 nD s1 hD1=>?_
  have hD1' : H1 D = some (.lst (([] : List Int).map V.int)):=hD1
  walk_at "rd"
  have:=q H1 s1
  rw [← Int.add_zero z] at this
  exact this
theorem J95 (tx : Tx K mg Ji Jh J1 Jj J4 J3 J5 Jb J8 Jg Jf) : FnG P w K mg base "cheapest" 2 ["page"] (Jde P w):=by
 refine tx.J92.g J1v (fun _ _ _ _ _ _ us hl=>match us,hl with | [_],_=>rfl) (fun vs H Q E h=>?_) (fun f cdv A outer s H vs Q E hr h=>?_)
 ·obtain ⟨p,es,rfl,_⟩:=h
  rfl
 ·obtain ⟨p,es,rfl,hp,he,q⟩:=h
  refine ⟨_,(J7 (Jq (i:=1) J1v.nd rfl (Or.inl rfl) (J8E (P:=P) (w:=w) rfl rfl))
   (J7 (J03 PassesOwn.never rfl (Jt (K:=K) rfl (pv 0)) (J1Y rfl (Jp (Jk (i:=2) J1v.nd rfl (Or.inl rfl)) (Jp (Jk (i:=3) J1v.nd rfl (Or.inl rfl)) (Jp (Jk (i:=4) J1v.nd rfl (Or.inl rfl)) J0Y)))) (J7 (Jq (i:=5) J1v.nd rfl (Or.inl rfl) (J05 (J0 (pv 2) (J0 (pv 3) J6))))
   (Jc (J9G (P:=P) (w:=w) rfl rfl (J2O hr) (pv 1) (pv 5) (Jv (J6Y rfl) rfl tx.J4m J6h (J0 (pv 4) (J0 (JaT (P:=P) (w:=w) rfl rfl (J2O hr) (pv 1) (pv 5) (pv 4) ⟨rfl,rfl,rfl,rfl⟩) J6))) rfl))))
   (Jc (Jo (pv 1))))),?_⟩
  walk_at "st"
  intro D nD
  generalize e1 : upd H D _ = H1
  obtain ⟨y1,s1⟩:=J06 nD e1
  have dA : DAt P w H1 D []:=⟨⟨0,y1⟩,fun e he=>nomatch he⟩
  obtain ⟨ts,hp1,hl,hE⟩:=hp.same s1
  rcases he with rfl | rfl
  ·have ets : ts = []:=List.length_eq_zero_iff.mp hl
   subst ets
   walk_at "rd"
   refine J0L ⟨[],SqL.of hp1,Nat.le_refl _⟩ ?_
   walk_at "rd"
   exact q D D H1 s1 dA
  ·obtain ⟨t,rfl⟩:=List.length_eq_one_iff.mp hl
   obtain ⟨ea,eb,ht,hta,htb⟩:=hE 0 t _ rfl rfl
   walk_at "rd"
   refine J6b (K:=K) (xs:=[V.ref t]) (fun i σ H2=>Here (∃ v2 v3 v4 v5,σ = [some (.ref p),some (.ref D),v2,v3,v4,v5] ∧ (∃ b,DAt P w H2 D (cF (([(e0,0)] : List (PKy × Int)).take i) b)) ∧ But D H1 H2)) (Here.mk ⟨none,none,none,none,rfl,⟨D,dA⟩,But.refl D H1⟩) (fun i σ H2 _ hv=>by
    obtain ⟨_,_,_,_,_,_,bt⟩:=hv.out
    exact SqL.of (bt _ _ (J2f hp1 y1 fun z=>by cases z) hp1)) ?_ ?_
   ·rintro i x σ H2 hx hv
    obtain ⟨v2,v3,v4,v5,rfl,⟨b,dA2⟩,bt⟩:=hv.out
    obtain rfl : i = 0:=by
     rcases i with _ | i
     ·rfl
     ·simp at hx
    obtain rfl : x = .ref t:=(Option.some.inj hx).symm
    have nt : ∀ {a : Addr} {xs : List V},H1 a = some (.tup xs) → a ≠ D:=fun e=>J2f e y1 fun z=>by cases z
    have ht2:=bt _ _ (nt ht) ht
    have hta2:=bt _ _ (nt hta) hta
    have htb2:=bt _ _ (nt htb) htb
    have dA2' : DAt P w H2 D []:=dA2
    walk_at "rd"
    intro pp np
    obtain ⟨H3,e3,y3,s3⟩:=newt (xs:=[V.ref ea,V.ref eb]) np
    rw [← e3]
    have dA3:=dA2'.same s3
    have pA : JL H3 pp e0:=⟨ea,eb,y3,s3 _ _ hta2,s3 _ _ htb2⟩
    have kg : KGet P w H3 D (.ref pp) none:=⟨_,e0,pp,dA3,rfl,pA,rfl⟩
    have l0 : ([] : List PEn).length ≤ 100000:=by decide
    walk_at "rd"
    intro ep
    have nt3 : ∀ {a : Addr} {xs : List V},H3 a = some (.tup xs) → a ≠ D:=fun e=>by
     obtain ⟨⟨ep3,g3⟩,_⟩:=dA3
     exact J2f e g3 fun z=>by cases z
    refine Here.mk ⟨_,_,_,_,rfl,⟨pp,⟨ep,Jd⟩,fun e he=>?_⟩,(bt.same s3).at⟩
    obtain rfl : e = (e0,pp,.int 0):=List.mem_singleton.mp he
    exact pA.same fun c ys ec=>by rw [Ja (nt3 ec)]; exact ec
   ·rintro σ H2 hv
    obtain ⟨v2,v3,v4,v5,rfl,⟨b,dA2⟩,bt⟩:=hv.out
    walk_at "rd"
    exact q D b H2 (fun a u e=>bt a u (J9 e nD) (s1 _ _ e)) dA2
theorem J4l (tx : Tx K mg Ji Jh J1 Jj J4 J3 J5 Jb J8 Jg Jf) : FnG P w K mg base "is_covered" 2 ["entry","least"] (Jdc P w):=by
 refine tx.J7t.g J3J (fun _ _ _ _ _ _ us hl=>match us,hl with | [_,_],_=>rfl) (fun vs H Q E h=>?_) (fun f cdv A outer s H vs Q E hr h=>?_)
 ·obtain ⟨t,D,es,b,rfl,_⟩:=h
  rfl
 ·obtain ⟨t,D,es,b,rfl,⟨ea,eb,ht,hta,htb⟩,hD,q⟩:=h
  refine ⟨_,(J7 (Jq (i:=2) J3J.nd rfl (Or.inl rfl) (J05 (J0 (JG (Jw (K:=K) rfl) (pv 0) Je (fun _ _=>rfl)) (J0 (JG (Jw (K:=K) rfl) (pv 0) Je (fun _ _=>rfl)) J6))))
   (Jc (Jo (J83 (JdD (Jdg (P:=P) (w:=w) rfl rfl (J2O hr) (pv 2) (pv 1)) rfl) (J9n (J2E JbM (J5g (P:=P) (w:=w) rfl rfl (J2O hr) (pv 1) (pv 2) (fun _ _=>rfl)) (JG (Jw (K:=K) rfl) (pv 0) Je (fun _ _=>rfl)) (Jy _))))))),?_⟩
  walk_at "st"
  have x0:=at30 (V.ref ea) (V.ref eb) (V.int 0)
  have x1:=at31 (V.ref ea) (V.ref eb) (V.int 0)
  have x2:=at32 (V.ref ea) (V.ref eb) (V.int 0)
  walk_at "rd"
  intro pp np
  obtain ⟨H2,e2,y2,s2⟩:=newt (xs:=[V.ref ea,V.ref eb]) np
  rw [← e2]
  have hD2:=hD.same s2
  have pA : JL H2 pp e0:=⟨ea,eb,y2,s2 _ _ hta,s2 _ _ htb⟩
  have ht2:=s2 _ _ ht
  cases es with
  | nil =>
   have kg : KGet P w H2 D (.ref pp) none:=⟨_,e0,pp,hD2,rfl,pA,rfl⟩
   walk_at "rd"
   exact q H2 s2
  | cons e es =>
   have kg : KGet P w H2 D (.ref pp) (some (.int 0)):=⟨_,e0,pp,hD2,rfl,pA,(J4u (p:=(e0,b,V.int 0)) (r:=[]) rfl).symm⟩
   walk_at "rd"
   exact q H2 s2
theorem J4p (tx : Tx K mg Ji Jh J1 Jj J4 J3 J5 Jb J8 Jg Jf) : FnG P w K mg base "steps_from" 2 ["walk","day","entry","every"] (Jd7 J1 Jf):=by
 refine tx.J7w.g J0v (fun _ _ _ _ _ _ us hl=>match us,hl with | [_,_,_,_],_=>rfl) (fun vs H Q E h=>?_) (fun f cdv A outer s H vs Q E hr h=>?_)
 ·obtain ⟨wk,d,t,ev,o,rfl,_⟩:=h
  rfl
 ·obtain ⟨wk,d,t,ev,o,rfl,⟨ea,eb,ht,hta,htb⟩,hev,q⟩:=h
  refine ⟨_,(J7 (J3e (k:=4) (osc:=J2 JK) (ON:=["walk","day","entry","every","choices","steps","column","chosen","tails","counts"]) (N:=["p","walk","day","entry"]) (js:=[none,some 0,some 1,some 2]) J0v.nd rfl (Or.inl rfl) ⟨rfl,by decide +kernel,by decide +kernel,by decide +kernel,rfl,by decide +kernel⟩ rfl rfl rfl (J0X rfl tx.J0x (J0 (Jv (JH (K:=K) rfl) rfl tx.J21 PySem.boot_len (J0 (JG (Jw (K:=K) rfl) (pv 2) Je (fun _ _=>rfl)) J6)) J6)) (fun _ _ _ _ _=>Jk (i:=0) (show List.Nodup (["p","walk","day","entry"] : List Str) from by decide +kernel) rfl (Or.inl rfl)) (fun _ _ _ _ _=>JE) (fun _ _ _ _ _=>J17))
   (J7 (Jq (i:=5) J0v.nd rfl (Or.inl rfl) (JP J6))
   (J7 (J03 PassesOwn.never rfl (Jt (K:=K) rfl (pv 3)) (Jk (i:=6) J0v.nd rfl (Or.inl rfl)) (J7 (J3e (k:=7) (osc:=J2 JK) (ON:=["walk","day","entry","every","choices","steps","column","chosen","tails","counts"]) (N:=["choice","mark"]) (js:=[none,none]) J0v.nd rfl (Or.inl rfl) ⟨rfl,by decide +kernel,by decide +kernel,by decide +kernel,rfl,by decide +kernel⟩ rfl rfl rfl (Jbe (K:=K) rfl rfl tx.J4X (J0 (pv 4) (J0 (pv 6) J6))) (fun _ _ _ _ _=>J3x (K:=K) (i:=0) (j:=1) rfl rfl (show List.Nodup (["choice","mark"] : List Str) from by decide +kernel) rfl rfl (Or.inl rfl) (Or.inl rfl)) (fun _ _ _ _ _=>JE) (fun _ _ _ _ _=>J17))
   (Jc (J0A (Jx (Jac (K:=K) rfl) J5Y (pv 7) rfl) (J7 (Jq (i:=8) J0v.nd rfl (Or.inl rfl) (JQ (J2F (K:=K) rfl) rfl tx.J2z J2C (J0 (JS (osc:=J2 JK) (ON:=["walk","day","entry","every","choices","steps","column","chosen","tails","counts"]) (N:=["part"]) (js:=[none]) ⟨rfl,by decide +kernel,by decide +kernel,by decide +kernel,rfl,by decide +kernel⟩ rfl rfl rfl (Jt (K:=K) rfl (pv 7)) (fun _ _ _ _ _=>Jk (i:=0) (show List.Nodup (["part"] : List Str) from by decide +kernel) rfl (Or.inl rfl)) (fun _ _ _ _ _=>JE) (fun _ _ _ _ _=>J17)) J6)))
   (J7 (Jq (i:=9) J0v.nd rfl (Or.inl rfl) (JQ (J2F (K:=K) rfl) rfl tx.J2z J2C (J0 (JS (osc:=J2 JK) (ON:=["walk","day","entry","every","choices","steps","column","chosen","tails","counts"]) (N:=["part"]) (js:=[none]) ⟨rfl,by decide +kernel,by decide +kernel,by decide +kernel,rfl,by decide +kernel⟩ rfl rfl rfl (Jt (K:=K) rfl (pv 7)) (fun _ _ _ _ _=>Jk (i:=0) (show List.Nodup (["part"] : List Str) from by decide +kernel) rfl (Or.inl rfl)) (fun _ _ _ _ _=>JE) (fun _ _ _ _ _=>J17)) J6)))
   (Jc (J5e (J7c PySem.F.plainAttrs_list PySem.F.slot_list_append PySem.F.type_list_append J2i (pv 5) (J0 (J05 (J0 (J05 (J0 (pv 8) (J0 (pv 9) (J0 (JI J1s (JG (Jw (K:=K) rfl) (pv 2) Je (fun _ _=>rfl)) (Jv (J6U (K:=K) rfl rfl) rfl tx.J6I JaV (J0 (JS (osc:=J2 JK) (ON:=["walk","day","entry","every","choices","steps","column","chosen","tails","counts"]) (N:=["part"]) (js:=[none]) ⟨rfl,by decide +kernel,by decide +kernel,by decide +kernel,rfl,by decide +kernel⟩ rfl rfl rfl (Jt (K:=K) rfl (pv 7)) (fun _ _ _ _ _=>Jk (i:=0) (show List.Nodup (["part"] : List Str) from by decide +kernel) rfl (Or.inl rfl)) (fun _ _ _ _ _=>JE) (fun _ _ _ _ _=>J17)) J6))) J6)))) (J0 (pv 6) J6))) J6)))))) JB))))
   (Jc (Jo (pv 5)))))),?_⟩
  walk_at "st"
  have x0:=at30 (V.ref ea) (V.ref eb) (V.int 0)
  have x1:=at31 (V.ref ea) (V.ref eb) (V.int 0)
  have x2:=at32 (V.ref ea) (V.ref eb) (V.int 0)
  have hta' : H ea = some (.tup []):=hta
  have l62 : ((([] : List V).length : Nat) : Int) < 2 ^ 62:=by decide
  have l62' : (((e0.1.map kV).length : Nat) : Int) < 2 ^ 62:=by decide
  walk_at "rd"
  refine JD (fun _ _=>Nat.le_refl _) fun D H1 nD s1 hD1=>?_
  walk_at "rd"
  intro S nS
  have hDS : D ≠ S:=J9 hD1 nS
  have hES : ev ≠ S:=J9 (s1 _ _ hev) nS
  have hS0 : H S = none:=s1.free nS
  obtain ⟨H2,e2,hS,s2⟩:=newl (xs:=[]) nS
  rw [← e2]
  have hD2:=s2 _ _ hD1
  have hev2:=(s1.trans s2) _ _ hev
  have ht2:=(s1.trans s2) _ _ ht
  cases o with
  | false =>
   walk_at "rd"
   refine J0L ⟨[],SqL.of hev2,Nat.le_refl _⟩ ?_
   walk_at "rd"
   exact (q S H2 (s1.trans s2)).1 rfl hS
  | true =>
   walk_at "rd"
   refine J6b (K:=K) (xs:=[T []]) (fun i σ H3=>Here (∃ v6 v7 v8 v9,σ = [some wk,some d,some (.ref t),some (.ref ev),some (.ref D),some (.ref S),v6,v7,v8,v9] ∧ Same H H3 ∧ H3 D = some (.lst []) ∧ H3 ev = some (.lst [T []]) ∧ (i = 0 → H3 S = some (.lst [])) ∧ (1 ≤ i → ∃ pr t',H3 S = some (.lst [.ref pr]) ∧ H3 pr = some (.tup [.ref t',T []]) ∧ EnAt H3 t' e0 0))) (Here.mk ⟨none,none,none,none,rfl,s1.trans s2,hD2,hev2,fun _=>hS,fun h=>absurd h (by decide)⟩) (fun i σ H3 _ hv=>by
    obtain ⟨_,_,_,_,_,_,_,he,_⟩:=hv.out
    exact SqL.of he) ?_ ?_
   ·rintro i x σ H3 hx hv
    obtain ⟨v6,v7,v8,v9,rfl,s3,hD3,hev3,hS3,_⟩:=hv.out
    obtain rfl : i = 0:=by
     rcases i with _ | i
     ·rfl
     ·simp at hx
    obtain rfl : x = T []:=(Option.some.inj hx).symm
    have hS3':=hS3 rfl
    have ht3:=s3 _ _ ht
    walk_at "rd"
    refine JD (fun H' s'=>⟨[],SqL.of (s' _ _ hD3),.inl rfl⟩) fun D4 H4 nD4 s4 hD4=>?_
    have hq4 : SqL K H4 D4 [] ∨ SqT K H4 D4 []:=.inl (SqL.of hD4)
    walk_at "rd"
    refine JD (fun H' s'=>⟨[],SqL.of (s' _ _ hD4),Nat.le_refl _⟩) fun D5 H5 nD5 s5 hD5=>?_
    walk_at "rd"
    intro ta nta
    obtain ⟨H6,e6,y6,s6⟩:=newt (xs:=[]) nta
    rw [← e6]
    have hD46:=(s5.trans s6) _ _ hD4
    walk_at "rd"
    refine JD (fun H' s'=>⟨[],SqL.of (s' _ _ hD46),Nat.le_refl _⟩) fun D7 H7 nD7 s7 hD7=>?_
    walk_at "rd"
    intro tb ntb
    obtain ⟨H8,e8,y8,s8⟩:=newt (xs:=[]) ntb
    rw [← e8]
    have S8:=((((s4.trans s5).trans s6).trans s7).trans s8)
    have hD48:=((((s5.trans s6).trans s7).trans s8)) _ _ hD4
    have ht8:=S8 _ _ ht3
    have hS8:=S8 _ _ hS3'
    walk_at "rd"
    refine JD (fun H' s'=>⟨[],SqL.of (s' _ _ hD48),Nat.le_refl _⟩) fun D9 H9 nD9 s9 hD9=>?_
    have hD9' : H9 D9 = some (.lst (([] : List Int).map V.int)):=hD9
    have l3 : [V.ref ta,V.ref tb,V.int (0 + ([] : List Int).sum)].length ≤ sizeLine:=show 3 ≤ sizeLine by decide
    walk_at "rd"
    intro t' nt'
    generalize e10 : upd H9 t' _ = H10
    obtain ⟨y10,s10⟩:=J06 nt' e10
    have y10' : H10 t' = some (.tup [.ref ta,.ref tb,.int 0]):=y10
    have l2 : [V.ref t',T []].length ≤ sizeLine:=show 2 ≤ sizeLine by decide
    walk_at "rd"
    intro pr npr
    obtain ⟨H11,e11,y11,s11⟩:=newt (xs:=[V.ref t',T []]) npr
    rw [← e11]
    have S11:=((S8.trans s9).trans s10).trans s11
    have hS11:=S11 _ _ hS3'
    have nS : ∀ {a : Addr} {xs : List V},H11 a = some (.tup xs) → a ≠ S:=fun e=>J2f e hS11 fun z=>by cases z
    have g1:=nS y11
    have y10t:=s11 _ _ y10'
    have y6t:=(((s7.trans s8).trans s9).trans (s10.trans s11)) _ _ y6
    have y8t:=((s9.trans s10).trans s11) _ _ y8
    walk_at "rd"
    have eD : H11 D = some (.lst []):=S11 _ _ hD3
    have eV : H11 ev = some (.lst [T []]):=S11 _ _ hev3
    refine Here.mk ⟨_,_,_,_,rfl,(s3.trans S11).upd hS0,by rw [Ja hDS]; exact eD,by rw [Ja hES]; exact eV,fun h=>absurd h (by decide),fun _=>⟨pr,t',Jd,by rw [Ja g1]; exact y11,ta,tb,?_,?_,?_⟩⟩
    ·rw [Ja (nS y10t)]; exact y10t
    ·rw [Ja (nS y6t)]; exact y6t
    ·rw [Ja (nS y8t)]; exact y8t
   ·rintro σ H3 hv
    obtain ⟨v6,v7,v8,v9,rfl,s3,hD3,hev3,_,hS3⟩:=hv.out
    obtain ⟨pr,t',g1,g2,g3⟩:=hS3 (by decide)
    walk_at "rd"
    exact (q S H3 s3).2 rfl pr t' g1 g2 g3
end
theorem J7W {K : PySem.W.Frag} {a : Addr} {x : V} {g : TG} {tb : TS} {D : Ends} {σ : St} {H : Hp} (h : SqL K H a [x])
  (hs : g x σ H fun σ2 H2=>tb { D with nx:=fun σ' H'=>SqL K H' a [x] ∧ D.nx σ' H',ct:=fun σ' H'=>SqL K H' a [x] ∧ D.nx σ' H',bk:=D.nx } σ2 H2) :
  ∃ W : Nat → Nat → St → Hp → Prop,(∃ m,W 0 m σ H) ∧ ∀ i m σ H,W i m σ H →
   ((Itl K a).stop i H ∧ D.nx σ H) ∨ ((Itl K a).go i H ∧ ∃ N : St → Hp → Prop,(∀ σ' H',N σ' H' → ∃ m',m' < m ∧ W (i + 1) m' σ' H') ∧ ∀ x H',(Itl K a).yld i H x H' → g x σ H' fun σ2 H2=>tb { D with nx:=N,ct:=N,bk:=D.nx } σ2 H2):=by
 refine ⟨fun i m σ' H'=>(i = 0 ∧ m = 1 ∧ σ' = σ ∧ H' = H) ∨ (i = 1 ∧ m = 0 ∧ SqL K H' a [x] ∧ D.nx σ' H'),⟨1,.inl ⟨rfl,rfl,rfl,rfl⟩⟩,?_⟩
 rintro i m σ' H' (⟨rfl,rfl,rfl,rfl⟩ | ⟨rfl,rfl,hq,hd⟩)
 ·refine .inr ⟨⟨[x],x,h,rfl⟩,fun σ' H'=>SqL K H' a [x] ∧ D.nx σ' H',fun σ' H' ⟨h1,h2⟩=>⟨0,by decide,.inr ⟨rfl,rfl,h1,h2⟩⟩,fun y H' hy=>?_⟩
  obtain ⟨rfl,e⟩:=hy
  have:=e [x] h
  obtain rfl : x = y:=Option.some.inj this
  exact hs
 ·exact .inl ⟨⟨[x],hq,Nat.le_refl _⟩,hd⟩
theorem J76 {α : Type} {J : It} {H : Hp} {σ0 : St} {g : TG} {te : TE} {Q : VK} (xs : List α) (P : Addr → α → V → Hp → Prop) (sh : St → Prop) (hx : xs.length ≤ 1000000) (h0 : sh σ0)
  (hgo : ∀ i H',Same H H' → i < xs.length → J.go i H') (hstop : ∀ H',Same H H' → J.stop xs.length H')
  (hk : ∀ D a y Ha Hb,But D Ha Hb → P D a y Ha → P D a y Hb)
  (step : ∀ (D : Addr) (i : Nat) a σ x H' H'',H D = none → (∃ ys,H' D = some (.lst ys)) → xs[i]? = some a → sh σ → Same H H' → J.yld i H' x H'' → ∀ (Rt : St → V → Hp → Prop),
   (∀ σ2 y H4,sh σ2 → Same H' H4 → P D a y H4 → Rt σ2 y H4) → g x σ H'' fun σ2 H2=>te σ2 H2 (fun y H4=>Rt σ2 y H4))
  (hQ : ∀ D H' ys,H D = none → Same H H' → All2 (P D) H' xs ys → H' D = some (.lst ys) → Q (.ref D) H') : J6a J H σ0 g tYes te Q:=by
 intro D hD
 refine ⟨fun i m σ1 ys H'=>m = xs.length - i ∧ i ≤ xs.length ∧ sh σ1 ∧ All2 (P D) H' (xs.take i) ys ∧ H' D = some (.lst ys) ∧ Same H H',⟨xs.length,by simp,Nat.zero_le _,h0,trivial,Jd,J0n hD _⟩,?_⟩
 rintro i m σ1 ys H' ⟨rfl,hi,hσ,hP,hDD,hs⟩
 by_cases hlt : i < xs.length
 ·refine .inr ⟨hgo i H' hs hlt,fun x H'' hy=>?_⟩
  have ha : xs[i]? = some xs[i]:=List.getElem?_eq_getElem hlt
  have ht : xs.take (i + 1) = xs.take i ++ [xs[i]]:=by rw [List.take_add_one,ha]; rfl
  refine step D i xs[i] σ1 x H' H'' hD ⟨ys,hDD⟩ ha hσ hs hy _ fun σ2 y H4 sh2 s4 py=>?_
  have hl:=hP.len
  refine ⟨s4 _ _ hDD,?_,xs.length - (i + 1),by omega,rfl,hlt,sh2,?_,Jd,(hs.trans s4).upd hD⟩
  ·rw [List.length_take] at hl
   have : (1000001 : Nat) ≤ sizeLine:=by decide
   omega
  ·rw [ht]
   have kk : But D H4 (upd H4 D (.lst (ys ++ [y]))):=(But.refl D H4).at
   exact All2.snoc (hP.imp fun a y=>hk D a y _ _ (fun b o n e=>kk b o n (s4 _ _ e))) (hk D _ _ _ _ kk py)
 ·have e : i = xs.length:=by omega
  subst e
  refine .inl ⟨hstop H' hs,hQ D H' ys hD hs ?_ hDD⟩
  rw [List.take_of_length_le (Nat.le_refl _)] at hP
  exact hP
theorem Jah {P : Program} {w : World} {a : Addr} {ep : Nat} {e : PEn} {g : TG} {tb : TS} {D : Ends} {σ : St} {H : Hp} (h : H a = some (DPo P w a ep [e]))
  (hs : ∀ p,H p = none → g (.ref p) σ (upd H p (.tup [.ref e.2.1,e.2.2])) fun σ2 H2=>tb { D with nx:=fun σ' H'=>H' a = some (DPo P w a ep [e]) ∧ D.nx σ' H',ct:=fun σ' H'=>H' a = some (DPo P w a ep [e]) ∧ D.nx σ' H',bk:=D.nx } σ2 H2) :
  ∃ W : Nat → Nat → St → Hp → Prop,(∃ m,W 0 m σ H) ∧ ∀ i m σ H,W i m σ H →
   ((Idp P w a ep [e]).stop i H ∧ D.nx σ H) ∨ ((Idp P w a ep [e]).go i H ∧ ∃ N : St → Hp → Prop,(∀ σ' H',N σ' H' → ∃ m',m' < m ∧ W (i + 1) m' σ' H') ∧ ∀ x H',(Idp P w a ep [e]).yld i H x H' → g x σ H' fun σ2 H2=>tb { D with nx:=N,ct:=N,bk:=D.nx } σ2 H2):=by
 refine ⟨fun i m σ' H'=>(i = 0 ∧ m = 1 ∧ σ' = σ ∧ H' = H) ∨ (i = 1 ∧ m = 0 ∧ H' a = some (DPo P w a ep [e]) ∧ D.nx σ' H'),⟨1,.inl ⟨rfl,rfl,rfl,rfl⟩⟩,?_⟩
 rintro i m σ' H' (⟨rfl,rfl,rfl,rfl⟩ | ⟨rfl,rfl,hq,hd⟩)
 ·refine .inr ⟨⟨h,Nat.lt_succ_self 0⟩,fun σ' H'=>H' a = some (DPo P w a ep [e]) ∧ D.nx σ' H',fun σ' H' ⟨h1,h2⟩=>⟨0,by decide,.inr ⟨rfl,rfl,h1,h2⟩⟩,fun y H' hy=>?_⟩
  obtain ⟨p,e',np,ee,rfl,rfl⟩:=hy
  obtain rfl : e = e':=Option.some.inj ee
  exact hs p np
 ·exact .inl ⟨⟨hq,Nat.le_refl _⟩,hd⟩
noncomputable def Jdd (P : Program) (w : World) (CH CW : Addr) : Sp:=fun vs H Q _=>∃ wk h c dd ks nds d pg D es b,vs = [.ref wk,.int d,.ref pg,.ref D] ∧ WkAt CH CW H wk h c dd ks nds ∧ ks.length ≤ 4 ∧ PgAt H pg [(e0,0)] ∧ DAt P w H D (cF es b) ∧ (J0M ks nds d = true → es ≠ []) ∧ ∀ H',Same H H' → Q (.bl true) H'
noncomputable def PlAt (P : Program) (w : World) (H : Hp) (D : Addr) (x : V) : Prop:=∃ b tt,DAt P w H D [(e0,b,.ref tt)] ∧ H tt = some (.tup [.int 0,x,T []])
theorem PlAt.same {P : Program} {w : World} {H H' : Hp} {D : Addr} {x : V} (h : PlAt P w H D x) (s : Same H H') : PlAt P w H' D x:=let ⟨b,tt,h1,h2⟩:=h; ⟨b,tt,h1.same s,s _ _ h2⟩
noncomputable def Jd2 (P : Program) (w : World) (CH CW : Addr) : Sp:=fun vs H Q _=>∃ wk h c dd ks nds d D x,vs = [.ref wk,.int d,.ref D] ∧ WkAt CH CW H wk h c dd ks nds ∧ ks.length ≤ 4 ∧ PlAt P w H D x ∧
 ∀ D' H',Same H H' → (J0M ks nds d = false → DAt P w H' D' [] → Q (.ref D') H') ∧ (J0M ks nds d = true → ∀ a,JL H' a e0 → PlAt P w H' D' (.ref a) → Q (.ref D') H')
noncomputable def Jd3 (P : Program) (w : World) : Sp:=fun vs H Q _=>∃ (D : Addr) (o : Bool),vs = [.ref D] ∧ (o = false → DAt P w H D []) ∧ (o = true → ∃ x,PlAt P w H D x) ∧ ∀ p H',Same H H' → H p = none → PgAt H' p (if o = true then [(e0,0)] else []) → Q (.ref p) H'
section
variable {P : Program} {w : World} {K : PySem.W.Frag} {mg : Str → Option Value} {base : Heap} {Ji Jh J1 Jj J4 J3 J5 Jb J8 Jg Jf : Addr}
local macro_rules | `(tactic| walk_at "lk")=>`(tactic| first | exact J1r _ _ _ _ _ _ _ _ | exact J4z _ _ _ _ _ _ _ _ | exact J3G _ _ _ _ _ _ _ _ | exact J6e _ _ _ _ _ | exact J67 _ _ _ _ _ | exact J7P _ _ _ _ _ | exact put1 | exact Or.inr (SqT.of (by with_reducible assumption)))
theorem J96 (tx : Tx K mg Ji Jh J1 Jj J4 J3 J5 Jb J8 Jg Jf) : FnG P w K mg base "leads_on" 4 ["walk","day","page","least"] (Jdd P w J1 Jf):=by
 have J1A:=J4H (P:=P) (w:=w) (base:=base) tx
 have J1S:=J4p (P:=P) (w:=w) (base:=base) tx
 have J1P:=J4l (P:=P) (w:=w) (base:=base) tx
 refine tx.J8Y.g J2b (fun _ _ _ _ _ _ us hl=>match us,hl with | [_,_,_,_],_=>rfl) (fun vs H Q E h=>?_) (fun f cdv A outer s H vs Q E hr h=>?_)
 ·obtain ⟨wk,h,c,dd,ks,nds,d,pg,D,es,b,rfl,_⟩:=h
  rfl
 ·obtain ⟨wk,h,c,dd,ks,nds,d,pg,D,es,b,rfl,hw,hkl,hp,hD,ho,q⟩:=h
  refine ⟨_,(J7 (Jc8 rfl (Jc (Jq (i:=4) J2b.nd rfl (Or.inl rfl) (Jz J1A (hr.mono (by decide)) (J0 (Jr (K:=K) rfl (pv 0) rfl) (J0 (pv 1) J6))))))
   (J7 (J03 PassesOwn.never rfl (Jt (K:=K) rfl (pv 2)) (Jk (i:=5) J2b.nd rfl (Or.inl rfl)) (Jc (J03 PassesOwn.never rfl (Jt (K:=K) rfl (Jz J1S (hr.mono (by decide)) (J0 (pv 0) (J0 (pv 1) (J0 (pv 5) (J0 (pv 4) J6)))))) (J1Y rfl (Jp (Jk (i:=6) J2b.nd rfl (Or.inl rfl)) (Jp (Jk (i:=7) J2b.nd rfl (Or.inl rfl)) J0Y))) (Jc (J0A (J3z (J3i (Jz J1P (hr.mono (by decide)) (J0 (pv 6) (J0 (pv 3) J6))))) (Jc (Jo J3A)) JB)))))
   (Jc (Jo J3A)))),?_⟩
  walk_at "st"
  clear J1A J1S J1P
  obtain ⟨dxw,bb,kk,nn,w1,w2,hk⟩:=hw
  have cE:=tx.J3w.cl
  have n1:=tx.J00
  walk_at "rd"
  intro ev H1 s1 nev hev
  obtain ⟨ts,hp1,hl,hE⟩:=hp.same s1
  obtain ⟨t,rfl⟩:=List.length_eq_one_iff.mp hl
  have hen:=hE 0 t _ rfl rfl
  have hp1' : H1 pg = some (.lst [.ref t]):=hp1
  have hD1:=hD.same s1
  walk_at "rd"
  refine J7W (SqL.of hp1') ?_
  walk_at "rd"
  intro S H2 s2
  have hp2:=s2 _ _ hp1'
  refine ⟨fun eo hS=>?_,fun eo pr t' hS hpr hen2=>?_⟩
  ·refine ⟨S,rfl,⟨_,SqL.of hS⟩,J0L ⟨[],SqL.of hS,Nat.le_refl _⟩ ?_⟩
   walk_at "rd"
   exact q H2 (s1.trans s2)
  ·have hD2:=hD1.same s2
   have hne:=ho eo
   refine ⟨S,rfl,⟨_,SqL.of hS⟩,J7W (SqL.of hS) ?_⟩
   walk_at "rd"
   intro H3 s3
   cases es with
   | nil=>exact absurd rfl hne
   | cons e0' es' =>
    have hS3:=s3 _ _ hS
    have hp3:=s3 _ _ hp2
    walk_at "rd"
    exact q H3 ((s1.trans s2).trans s3)
theorem J6w (tx : Tx K mg Ji Jh J1 Jj J4 J3 J5 Jb J8 Jg Jf) : FnG P w K mg base "next_places" 4 ["walk","day","places"] (Jd2 P w J1 Jf):=by
 have J1A:=J4H (P:=P) (w:=w) (base:=base) tx
 have J1S:=J4p (P:=P) (w:=w) (base:=base) tx
 refine tx.J6E.g JU (fun _ _ _ _ _ _ us hl=>match us,hl with | [_,_,_],_=>rfl) (fun vs H Q E h=>?_) (fun f cdv A outer s H vs Q E hr h=>?_)
 ·obtain ⟨wk,h,c,dd,ks,nds,d,D,x,rfl,_⟩:=h
  rfl
 ·obtain ⟨wk,h,c,dd,ks,nds,d,D,x,rfl,hw,hkl,hD,q⟩:=h
  refine ⟨_,(J7 (Jq (i:=3) JU.nd rfl (Or.inl rfl) (Jz J1A (hr.mono (by decide)) (J0 (Jr (K:=K) rfl (pv 0) rfl) (J0 (pv 1) J6))))
   (J7 (Jq (i:=4) JU.nd rfl (Or.inl rfl) (J8E (P:=P) (w:=w) rfl rfl))
   (J7 (J03 PassesOwn.never rfl (J8o (P:=P) (w:=w) rfl rfl (pv 2) rfl rfl) (J1Y rfl (Jp (Jk (i:=5) JU.nd rfl (Or.inl rfl)) (Jp (Jk (i:=6) JU.nd rfl (Or.inl rfl)) J0Y))) (J7 (J03 PassesOwn.never rfl (Jt (K:=K) rfl (Jz J1S (hr.mono (by decide)) (J0 (pv 0) (J0 (pv 1) (J0 (J05 (J0 (JG (Jw (K:=K) rfl) (pv 5) Je (fun _ _=>rfl)) (J0 (JG (Jw (K:=K) rfl) (pv 5) Je (fun _ _=>rfl)) (J0 (JG (Jw (K:=K) rfl) (pv 6) Je (fun _ _=>rfl)) J6)))) (J0 (pv 3) J6)))))) (J1Y rfl (Jp (Jk (i:=7) JU.nd rfl (Or.inl rfl)) (Jp (Jk (i:=8) JU.nd rfl (Or.inl rfl)) J0Y))) (J7 (Jq (i:=9) JU.nd rfl (Or.inl rfl) (J05 (J0 (JG (Jw (K:=K) rfl) (pv 7) Je (fun _ _=>rfl)) (J0 (JG (Jw (K:=K) rfl) (pv 7) Je (fun _ _=>rfl)) J6))))
   (Jc (J0A (PW.pt (J4v (JdO (Jao (P:=P) (w:=w) rfl rfl (J2O hr) (pv 9) (pv 4)) rfl) (J48 (Jx J5X (JG (Jw (K:=K) rfl) (pv 7) Je (fun _ _=>rfl)) (JG (Jw (K:=K) rfl) (J5g (P:=P) (w:=w) rfl rfl (J2O hr) (pv 4) (pv 9) (fun _ _=>rfl)) Je (fun _ _=>rfl)) (Jy _))))) (Jc (J9G (P:=P) (w:=w) rfl rfl (J2O hr) (pv 4) (pv 9) (J05 (J0 (JG (Jw (K:=K) rfl) (pv 7) Je (fun _ _=>rfl)) (J0 (pv 5) (J0 (pv 8) J6)))) rfl)) JB))))
   (Jc (J0A (Jx J6X (Jv (J78 (P:=P) (w:=w) rfl rfl) rfl tx.J21 PySem.boot_len (J0 (pv 4) J6)) (J8K rfl tx.J11) (Jy _)) (Jc J8J) JB))))
   (Jc (Jo (pv 4)))))),?_⟩
  walk_at "st"
  clear J1A J1S
  obtain ⟨dxw,bb,kk,nn,w1,w2,hk⟩:=hw
  have cE:=tx.J3w.cl
  have n1:=tx.J00
  walk_at "rd"
  intro ev H1 s1 nev hev
  intro C nC
  have hC0 : H C = none:=s1.free nC
  have hDC : D ≠ C:=by
   obtain ⟨b,tt,⟨⟨ep,hd⟩,_⟩,_⟩:=hD.same s1
   exact J9 hd nC
  generalize e2 : upd H1 C _ = H2
  obtain ⟨y2,s2⟩:=J06 nC e2
  have dC : DAt P w H2 C []:=⟨⟨0,y2⟩,fun e he=>nomatch he⟩
  obtain ⟨b,tt,⟨⟨ep,hd⟩,hal⟩,htt⟩:=hD.same (s1.trans s2)
  have hb:=hal _ (List.mem_singleton_self _)
  have hev2:=s2 _ _ hev
  walk_at "rd"
  refine Jah hd fun p np=>?_
  obtain ⟨H3,e3,y3,s3⟩:=newt (xs:=[V.ref b,V.ref tt]) np
  show gTup _ _ _ (.ref p) _ (upd H2 p (.tup [V.ref b,V.ref tt])) _
  rw [← e3]
  obtain ⟨xa,xb,g1,g2,g3⟩:=hb.same fun c ys=>s3 c _
  have htt3:=s3 _ _ htt
  have t0:=at30 (V.int 0) x (T [])
  have p0:=at0 (V.ref xa) (V.ref xb)
  have p1:=at1 (V.ref xa) (V.ref xb)
  walk_at "rd"
  intro t nt
  obtain ⟨H4,e4,y4,s4⟩:=newt (xs:=[V.ref xa,V.ref xb,V.int 0]) nt
  rw [← e4]
  have hen : EnAt H4 t e0 0:=⟨xa,xb,y4,s4 _ _ g2,s4 _ _ g3⟩
  have hev4:=(s3.trans s4) _ _ hev2
  walk_at "rd"
  intro S H5 s5
  have S25:=(s3.trans s4).trans s5
  have hd5:=S25 _ _ hd
  have dC5:=dC.same S25
  have l0 : ([] : List PEn).length ≤ 100000:=by decide
  refine ⟨fun eo hS=>?_,fun eo pr t' hS hpr hen2=>?_⟩
  ·refine ⟨S,rfl,⟨_,SqL.of hS⟩,J0L ⟨[],SqL.of hS,Nat.le_refl _⟩ ?_⟩
   walk_at "rd"
   exact (q C H5 ((s1.trans s2).trans S25)).1 eo dC5
  ·obtain ⟨ya,yb,k1,k2,k3⟩:=hen2
   have q0:=at30 (V.ref ya) (V.ref yb) (V.int 0)
   have q1:=at31 (V.ref ya) (V.ref yb) (V.int 0)
   have q2:=at32 (V.ref ya) (V.ref yb) (V.int 0)
   refine ⟨S,rfl,⟨_,SqL.of hS⟩,J7W (SqL.of hS) ?_⟩
   walk_at "rd"
   intro gp ngp
   obtain ⟨H6,e6,y6,s6⟩:=newt (xs:=[V.ref ya,V.ref yb]) ngp
   rw [← e6]
   have dC6:=dC5.same s6
   have pA : JL H6 gp e0:=⟨ya,yb,y6,s6 _ _ k2,s6 _ _ k3⟩
   have kg : KGet P w H6 C (.ref gp) none:=⟨_,e0,gp,dC6,rfl,pA,rfl⟩
   have k16:=s6 _ _ k1
   walk_at "rd"
   intro tu ntu
   generalize e7 : upd H6 tu _ = H7
   obtain ⟨y7,s7⟩:=J06 ntu e7
   have y7' : H7 tu = some (.tup [.int 0,.ref b,T []]):=y7
   have dC7:=dC6.same s7
   have pA7 : JL H7 gp e0:=pA.same fun c ys=>s7 c _
   have S27:=S25.trans (s6.trans s7)
   have hb7:=hb.same fun c ys=>S27 c _
   have hd7:=S27 _ _ hd
   have hS7:=(s6.trans s7) _ _ hS
   obtain ⟨⟨ep6,hC7⟩,_⟩:=dC7
   have dC7 : DAt P w H7 C []:=⟨⟨ep6,hC7⟩,fun e he=>nomatch he⟩
   have nT : ∀ {a : Addr} {xs : List V},H7 a = some (.tup xs) → a ≠ C:=fun e=>J2f e hC7 fun z=>by cases z
   have nSC : S ≠ C:=J2f hS7 hC7 fun z=>by cases z
   walk_at "rd"
   intro ep7
   generalize e8 : upd H7 C _ = H8
   have b8 : But C H7 H8:=by rw [← e8]; exact (But.refl C H7).at
   have y8 : H8 C = some (DPo P w C ep7 [(e0,gp,.ref tu)]):=by rw [← e8]; exact Jd
   have pA8 : JL H8 gp e0:=pA7.same fun c ys ec=>b8 _ _ (nT ec) ec
   have dC8 : DAt P w H8 C [(e0,gp,.ref tu)]:=⟨⟨ep7,y8⟩,fun e he=>by rw [List.mem_singleton.mp he]; exact pA8⟩
   have hS8:=b8 _ _ nSC hS7
   have hd8:=b8 _ _ hDC hd7
   have y78:=b8 _ _ (nT y7') y7'
   have hb8 : JL H8 b e0:=hb7.same fun c ys ec=>b8 _ _ (nT ec) ec
   walk_at "rd"
   refine (q C H8 ?_).2 eo b hb8 ⟨gp,tu,dC8,y78⟩
   rw [← e8]
   exact (((s1.trans s2).trans S27)).upd hC0
theorem J9Z (tx : Tx K mg Ji Jh J1 Jj J4 J3 J5 Jb J8 Jg Jf) : FnG P w K mg base "page_of" 2 ["places"] (Jd3 P w):=by
 refine tx.Ja0.g J90 (fun _ _ _ _ _ _ us hl=>match us,hl with | [_],_=>rfl) (fun vs H Q E h=>?_) (fun f cdv A outer s H vs Q E hr h=>?_)
 ·obtain ⟨D,o,rfl,_⟩:=h
  rfl
 ·obtain ⟨D,o,rfl,h0,h1,q⟩:=h
  refine ⟨_,(Jc (Jo (JS (osc:=J2 J26) (ON:=["places"]) (N:=["place","places"]) (js:=[none,some 0]) ⟨rfl,by decide +kernel,by decide +kernel,by decide +kernel,rfl,by decide +kernel⟩ rfl rfl rfl (Jt (K:=K) rfl (Jv (J7V (P:=P) (w:=w) rfl rfl rfl) rfl tx.J2Q J6W (J0 (pv 0) J6))) (fun _ _ _ _ _=>Jk (i:=0) (show List.Nodup (["place","places"] : List Str) from by decide +kernel) rfl (Or.inl rfl)) (fun _ _ _ _ _=>JE) (fun _ _ _ _ _=>(J05 (J0 (JG (Jw (K:=K) rfl) (pv 0) Je (fun _ _=>rfl)) (J0 (JG (Jw (K:=K) rfl) (pv 0) Je (fun _ _=>rfl)) (J0 (JG (Jw (K:=K) rfl) (J5g (P:=P) (w:=w) rfl rfl (J2O hr) (pv 1) (pv 0) (fun _ _=>rfl)) Je (fun _ _=>rfl)) J6)))))))),?_⟩
  walk_at "st"
  cases o with
  | false =>
   have hD:=h0 rfl
   have l1 : ([] : List PEn).length ≤ 1:=by decide
   walk_at "rd"
   intro S nS
   generalize e1 : upd H S _ = H1
   obtain ⟨y1,s1⟩:=J06 nS e1
   have y1' : H1 S = some (.lst []):=y1
   refine ⟨S,rfl,⟨_,SqL.of y1'⟩,?_⟩
   refine JD (fun H' s'=>⟨[],SqL.of (s' _ _ y1'),Nat.le_refl _⟩) fun D2 H2 nD2 s2 hD2=>?_
   exact q D2 H2 (s1.trans s2) (s1.free nD2) ⟨[],hD2,rfl,fun i t e h=>by cases h⟩
  | true =>
   obtain ⟨x,b,tt,hD,htt⟩:=h1 rfl
   have l1 : ([(e0,b,V.ref tt)] : List PEn).length ≤ 1:=Nat.le_refl 1
   walk_at "rd"
   intro S nS
   generalize e1 : upd H S _ = H1
   obtain ⟨y1,s1⟩:=J06 nS e1
   have y1' : H1 S = some (.lst [V.ref b]):=y1
   refine ⟨S,rfl,⟨_,SqL.of y1'⟩,?_⟩
   refine J2s [b] (fun _=>true) (fun _ y H=>∃ t,y = .ref t ∧ EnAt H t e0 0) (fun σ=>∃ v,σ = [v,some (.ref D)]) (J2u (SqL.of y1')) rfl (show 1 ≤ 1000000 by decide) ⟨_,rfl⟩ (fun a y Ha Hb k ⟨t,e,ta,tb,g1,g2,g3⟩=>⟨t,e,ta,tb,k _ _ g1 (fun zs z=>by cases z),k _ _ g2 (fun zs z=>by cases z),k _ _ g3 (fun zs z=>by cases z)⟩) (fun i a v σ H' ha hv hσ s' Rf Rt _ hR=>?_) (fun D2 H2 ys nD2 s2 hys hD2=>?_)
   ·obtain ⟨w1,rfl⟩:=hσ
    have s1':=s1.trans s'
    have hD':=hD.same s1'
    have htt':=s1' _ _ htt
    obtain rfl : v = .ref b:=by
     rcases i with _ | i
     ·exact (Option.some.inj hv).symm
     ·simp at hv
    have hb:=hD'.2 _ (List.mem_singleton_self _)
    have kg : KGet P w H' D (.ref b) (some (.ref tt)):=⟨_,e0,b,hD',rfl,hb,(J4u (p:=(e0,b,V.ref tt)) (r:=[]) rfl).symm⟩
    obtain ⟨xa,xb,g1,g2,g3⟩:=hb
    have p0:=at0 (V.ref xa) (V.ref xb)
    have p1:=at1 (V.ref xa) (V.ref xb)
    have t0:=at30 (V.int 0) x (T [])
    walk_at "rd"
    intro t nt
    generalize e3 : upd H' t _ = H3
    obtain ⟨y3,s3⟩:=J06 nt e3
    exact hR _ _ _ rfl ⟨_,rfl⟩ s3 ⟨t,rfl,xa,xb,y3,s3 _ _ g2,s3 _ _ g3⟩
   ·have hys' : All2 (fun (_ : Addr) y H=>∃ t,y = V.ref t ∧ EnAt H t e0 0) H2 [b] ys:=hys
    match ys,hys',hD2 with
    | [y],hys',hD2 =>
     obtain ⟨⟨t,rfl,hen⟩,_⟩:=hys'
     exact q D2 H2 (s1.trans s2) (s1.free nD2) ⟨[t],hD2,rfl,fun i t' e h1 h2=>by
      rcases i with _ | i
      ·obtain rfl : t = t':=Option.some.inj h1
       obtain rfl : (e0,0) = e:=Option.some.inj h2
       exact hen
      ·simp at h1⟩
    | [],hys',_=>exact hys'.elim
    | _ :: _ :: _,hys',_=>exact hys'.2.elim
end
noncomputable def RcAt (P : Program) (w : World) (H : Hp) (l : Addr) (n : Nat) (sh : Bool) : Prop:=∃ ds : List Addr,H l = some (.lst (ds.map V.ref)) ∧ ds.length = n + 1 + (if sh = true then 1 else 0) ∧
 (∀ (i : Nat) d,i ≤ n → ds[i]? = some d → ∃ x,PlAt P w H d x ∧ (1 ≤ i → ∃ a,x = .ref a ∧ JL H a e0)) ∧ (sh = true → ∀ d,ds[n + 1]? = some d → DAt P w H d [])
theorem RcAt.same {P : Program} {w : World} {H H' : Hp} {l : Addr} {n : Nat} {sh : Bool} (h : RcAt P w H l n sh) (s : Same H H') : RcAt P w H' l n sh:=by
 obtain ⟨ds,h1,h2,h3,h4⟩:=h
 refine ⟨ds,s _ _ h1,h2,fun i d hi hd=>?_,fun e d hd=>(h4 e d hd).same s⟩
 obtain ⟨x,g1,g2⟩:=h3 i d hi hd
 exact ⟨x,g1.same s,fun h=>let ⟨a,e,pa⟩:=g2 h; ⟨a,e,pa.same fun c ys=>s c _⟩⟩
theorem J63 {H H' : Hp} {L b : Addr} {k : PKy} {zs : List V} (h : JL H b k) (bt : But L H H') (hL : H L = some (.lst zs)) : JL H' b k:=h.same fun c ys ec=>bt _ _ (J2f ec hL fun z=>by cases z) ec
theorem J9F {P : Program} {w : World} {H H' : Hp} {L D : Addr} {xs : List PEn} {zs : List V} (h : DAt P w H D xs) (bt : But L H H') (hL : H L = some (.lst zs)) : DAt P w H' D xs:=by
 obtain ⟨⟨ep,e⟩,al⟩:=h
 exact ⟨⟨ep,bt _ _ (J2f e hL fun z=>by cases z) e⟩,fun x hx=>J63 (al x hx) bt hL⟩
theorem PlAt.but {P : Program} {w : World} {H H' : Hp} {L D : Addr} {x : V} {zs : List V} (h : PlAt P w H D x) (bt : But L H H') (hL : H L = some (.lst zs)) : PlAt P w H' D x:=by
 obtain ⟨b,tt,h1,h2⟩:=h
 exact ⟨b,tt,J9F h1 bt hL,bt _ _ (J2f h2 hL fun z=>by cases z) h2⟩
theorem RcAt.more {P : Program} {w : World} {H H' : Hp} {l d : Addr} {n : Nat} {ds : List Addr} (h1 : H l = some (.lst (ds.map V.ref))) (h2 : ds.length = n + 1)
  (h3 : ∀ (i : Nat) d,i ≤ n → ds[i]? = some d → ∃ x,PlAt P w H d x ∧ (1 ≤ i → ∃ a,x = .ref a ∧ JL H a e0)) (bt : But l H H') (h' : H' l = some (.lst (ds.map V.ref ++ [V.ref d]))) {sh : Bool}
  (hn : sh = false → ∃ a,PlAt P w H d (.ref a) ∧ JL H a e0) (hs : sh = true → DAt P w H d []) : RcAt P w H' l (if sh = true then n else n + 1) sh:=by
 have old : ∀ (i : Nat) e,i ≤ n → (ds ++ [d])[i]? = some e → ∃ x,PlAt P w H' e x ∧ (1 ≤ i → ∃ a,x = .ref a ∧ JL H' a e0):=fun i e hi he=>by
  rw [List.getElem?_append_left (by omega)] at he
  obtain ⟨x,g1,g2⟩:=h3 i e hi he
  exact ⟨x,g1.but bt h1,fun h=>let ⟨a,ea,pa⟩:=g2 h; ⟨a,ea,J63 pa bt h1⟩⟩
 have lst : (ds ++ [d])[n + 1]? = some d:=by rw [List.getElem?_append_right (by omega),show n + 1 - ds.length = 0 by omega]; rfl
 refine ⟨ds ++ [d],by rw [h',List.map_append]; rfl,?_,?_,?_⟩
 ·rw [List.length_append,List.length_singleton,h2]
  cases sh <;> simp
 ·cases sh with
  | true=>exact old
  | false =>
   intro i e hi he
   have hi' : i ≤ n + 1:=hi
   rcases Nat.lt_or_ge n i with y | y
   ·obtain rfl : i = n + 1:=by omega
    rw [lst] at he
    obtain rfl : d = e:=Option.some.inj he
    obtain ⟨a,g1,g2⟩:=hn rfl
    exact ⟨.ref a,g1.but bt h1,fun _=>⟨a,rfl,J63 g2 bt h1⟩⟩
   ·exact old i e y he
 ·intro e d' hd'
  subst e
  have hd2 : (ds ++ [d])[n + 1]? = some d':=hd'
  rw [lst] at hd2
  obtain rfl : d = d':=Option.some.inj hd2
  exact J9F (hs rfl) bt h1
noncomputable def OpN (ks : List Nat) (nds : List Nd) (dd : Int) (n : Nat) (sh : Bool) : Prop:=(n : Int) ≤ dd ∧ (∀ i : Nat,i < n → J0M ks nds (i : Int) = true) ∧ (sh = true → (n : Int) < dd ∧ J0M ks nds (n : Int) = false) ∧ (sh = false → (n : Int) = dd)
noncomputable def Jd6 (P : Program) (w : World) (CH CW : Addr) : Sp:=fun vs H Q _=>∃ wk h c dd ks nds,vs = [.ref wk] ∧ WkAt CH CW H wk h c dd ks nds ∧ ks.length ≤ 4 ∧ 1 ≤ dd ∧ dd ≤ 14 ∧ ∀ l n sh H',Same H H' → OpN ks nds dd n sh → RcAt P w H' l n sh → Q (.ref l) H'
section
variable {P : Program} {w : World} {K : PySem.W.Frag} {mg : Str → Option Value} {base : Heap} {Ji Jh J1 Jj J4 J3 J5 Jb J8 Jg Jf : Addr}
local macro_rules | `(tactic| walk_at "lk")=>`(tactic| first | exact J1r _ _ _ _ _ _ _ _ | exact J4z _ _ _ _ _ _ _ _ | exact J3G _ _ _ _ _ _ _ _ | exact J6e _ _ _ _ _ | exact J67 _ _ _ _ _ | exact J7P _ _ _ _ _ | exact put1 | exact Or.inr (SqT.of (by with_reducible assumption)))
theorem J56 (tx : Tx K mg Ji Jh J1 Jj J4 J3 J5 Jb J8 Jg Jf) : FnG P w K mg base "places_by_day" 5 ["walk"] (Jd6 P w J1 Jf):=by
 have J1n:=J3N (P:=P) (w:=w) (base:=base) tx
 have J3P:=J6w (P:=P) (w:=w) (base:=base) tx
 refine tx.J51.g J1c (fun _ _ _ _ _ _ us hl=>match us,hl with | [_],_=>rfl) (fun vs H Q E h=>?_) (fun f cdv A outer s H vs Q E hr h=>?_)
 ·obtain ⟨wk,h,c,dd,ks,nds,rfl,_⟩:=h
  rfl
 ·obtain ⟨wk,h,c,dd,ks,nds,rfl,hw,hkl,d1,d14,q⟩:=h
  refine ⟨_,(J7 (Jq (i:=1) J1c.nd rfl (Or.inl rfl) (Jz J1n (hr.mono (by decide)) (J0 (pv 0) J6)))
   (J7 (Jq (i:=2) J1c.nd rfl (Or.inl rfl) (JP (J0 (JbG (P:=P) (w:=w) rfl rfl (J2O hr) (J05 (J0 (JG (Jw (K:=K) rfl) (pv 1) Je (fun _ _=>rfl)) (J0 (JG (Jw (K:=K) rfl) (pv 1) Je (fun _ _=>rfl)) J6))) (J05 (J0 (JG (Jw (K:=K) rfl) (pv 1) Je (fun _ _=>rfl)) (J0 J5Y (J0 (J3f (l:=[]) (by decide +kernel)) J6))))) J6)))
   (J7 (J03 PassesOwn.never rfl (J0X rfl tx.J0x (J0 (Jr (K:=K) rfl (Jr (K:=K) rfl (pv 0) rfl) rfl) J6)) (Jk (i:=3) J1c.nd rfl (Or.inl rfl)) (J7 (J0A (Jx J2v (Jv (J78 (P:=P) (w:=w) rfl rfl) rfl tx.J21 PySem.boot_len (J0 (JG (J2e (K:=K) rfl) (pv 2) (pv 3) (fun _ _=>rfl)) J6)) Je (Jy _)) (Jc JbO) JB)
   (Jc (J5e (J7c PySem.F.plainAttrs_list PySem.F.slot_list_append PySem.F.type_list_append J2i (pv 2) (J0 (Jz J3P (hr.mono (by decide)) (J0 (pv 0) (J0 (pv 3) (J0 (JG (J2e (K:=K) rfl) (pv 2) (pv 3) (fun _ _=>rfl)) J6)))) J6))))))
   (Jc (Jo (pv 2)))))),?_⟩
  walk_at "st"
  clear J1n J3P
  have hw0:=hw
  obtain ⟨dxw,bb,kk,nn,w1,w2,hk⟩:=hw0
  obtain ⟨a1,a2,a3,a4,a5,a6,xs,⟨dx1,h1⟩,h2,h3,h4,h5,h6⟩:=hk
  have cH:=tx.JA.cl
  have nH:=tx.JZ
  have cE:=tx.J3w.cl
  have n1:=tx.J00
  walk_at "rd"
  intro t H1 s1 nt ⟨ea,eb,ht,hta,htb⟩
  have x0:=at30 (V.ref ea) (V.ref eb) (V.int 0)
  have x1:=at31 (V.ref ea) (V.ref eb) (V.int 0)
  have x2:=at32 (V.ref ea) (V.ref eb) (V.int 0)
  walk_at "rd"
  intro D nD
  generalize e2 : upd H1 D _ = H2
  obtain ⟨y2,s2⟩:=J06 nD e2
  have ht2:=s2 _ _ ht
  walk_at "rd"
  intro pp np
  obtain ⟨H3,e3,y3,s3⟩:=newt (xs:=[V.ref ea,V.ref eb]) np
  rw [← e3]
  have ht3:=s3 _ _ ht2
  walk_at "rd"
  intro tt ntt
  obtain ⟨H4,e4,y4,s4⟩:=newt (xs:=[V.int 0,V.non,T []]) ntt
  rw [← e4]
  have S14:=(s2.trans s3).trans s4
  have pA : JL H4 pp e0:=⟨ea,eb,s4 _ _ y3,S14 _ _ hta,S14 _ _ htb⟩
  have y24:=(s3.trans s4) _ _ y2
  refine ⟨pp,e0,rfl,pA,y24,fun ep=>?_⟩
  generalize e5 : upd H4 D _ = H5
  have b5 : But D H4 H5:=by rw [← e5]; exact (But.refl D H4).at
  have y5 : H5 D = some (DPo P w D ep [(e0,pp,.ref tt)]):=by rw [← e5]; exact Jd
  have S15 : Same H1 H5:=by rw [← e5]; exact S14.upd nD
  have nT : ∀ {a : Addr} {xs : List V},H4 a = some (.tup xs) → a ≠ D:=fun e=>J2f e y24 fun z=>by cases z
  have pA5 : JL H5 pp e0:=pA.same fun c ys ec=>b5 _ _ (nT ec) ec
  have pl5 : PlAt P w H5 D .non:=⟨pp,tt,⟨⟨ep,y5⟩,fun e he=>by rw [List.mem_singleton.mp he]; exact pA5⟩,b5 _ _ (nT y4) y4⟩
  walk_at "rd"
  intro L nL
  obtain ⟨H6,e6,y6,s6⟩:=newl (xs:=[V.ref D]) nL
  rw [← e6]
  have S6:=(s1.trans S15).trans s6
  have nL0 : H L = none:=(s1.trans S15).free nL
  have rc6 : RcAt P w H6 L 0 false:=⟨[D],y6,rfl,fun i d hi hd=>by
   obtain rfl : i = 0:=Nat.le_zero.mp hi
   obtain rfl : D = d:=Option.some.inj hd
   exact ⟨.non,pl5.same s6,fun h=>absurd h (by decide)⟩,fun h=>by cases h⟩
  have w16:=S6 _ _ w1
  have h16:=S6 _ _ h1
  walk_at "rd"
  refine J2U (lo:=0) (n:=dd.toNat) (fun i σ H7=>Here ((∃ v3,σ = [some (.ref wk),some (.ref t),some (.ref L),v3]) ∧ Same H H7 ∧ ((RcAt P w H7 L i false ∧ ∀ j : Nat,j < i → J0M ks nds (j : Int) = true) ∨ ∃ n,i = n + 1 ∧ RcAt P w H7 L n true ∧ (∀ j : Nat,j < n → J0M ks nds (j : Int) = true) ∧ J0M ks nds (n : Int) = false))) (Here.mk ⟨⟨none,rfl⟩,S6,.inl ⟨rc6,fun j hj=>absurd hj (Nat.not_lt_zero _)⟩⟩) ?_ ?_
  ·rintro i σ H7 hi hv
   obtain ⟨⟨v3,rfl⟩,s7,hst⟩:=hv.out
   clear hv
   have hw7:=hw.same s7
   rcases hst with ⟨⟨ds,r1,r2,r3,r4⟩,hop⟩ | ⟨n,rfl,hrc,hop,hcl⟩
   ·have hlt : i < ds.length:=by rw [r2]; simp
    have hx : ds[i]? = some ds[i]:=List.getElem?_eq_getElem hlt
    obtain ⟨x,hpl,_⟩:=r3 i ds[i] (Nat.le_refl _) hx
    have ha : atI (ds.map V.ref) (0 + (i : Int)) = some (.ref ds[i]):=by
     rw [Int.zero_add]
     exact J2D (by rw [List.getElem?_map,hx]; rfl)
    have hll : (ds.map V.ref).length ≤ 1000:=by rw [List.length_map,r2]; simp; omega
    have hpl0:=hpl
    obtain ⟨pb,ptt,hdA,hptt⟩:=hpl0
    walk_at "rd"
    intro D8 H8 s8
    have r18:=s8 _ _ r1
    have r38 : ∀ (i' : Nat) d,i' ≤ i → ds[i']? = some d → ∃ x,PlAt P w H8 d x ∧ (1 ≤ i' → ∃ a,x = .ref a ∧ JL H8 a e0):=fun i' d hi' hd=>by
     obtain ⟨x,g1,g2⟩:=r3 i' d hi' hd
     exact ⟨x,g1.same s8,fun h=>let ⟨a,e,pa⟩:=g2 h; ⟨a,e,pa.same fun c ys=>s8 c _⟩⟩
    have r2' : ds.length = i + 1:=r2
    have S8:=s7.trans s8
    refine ⟨fun eo hd8=>?_,fun eo a ha8 hp8=>?_⟩
    ·walk_at "rd"
     refine Here.mk ⟨⟨_,rfl⟩,S8.upd nL0,.inr ⟨i,rfl,RcAt.more (sh:=true) r18 r2' r38 (But.refl L H8).at Jd (fun h=>by cases h) (fun _=>hd8),hop,?_⟩⟩
     rw [Int.zero_add] at eo
     exact eo
    ·walk_at "rd"
     refine Here.mk ⟨⟨_,rfl⟩,S8.upd nL0,.inl ⟨RcAt.more (sh:=false) r18 r2' r38 (But.refl L H8).at Jd (fun _=>⟨a,hp8,ha8⟩) (fun h=>by cases h),fun j hj=>?_⟩⟩
     rcases Nat.lt_or_ge j i with y | y
     ·exact hop j y
     ·obtain rfl : j = i:=by omega
      rw [Int.zero_add] at eo
      exact eo
   ·have hrc0:=hrc
    obtain ⟨ds,r1,r2,r3,r4⟩:=hrc0
    have hlt : n + 1 < ds.length:=by rw [r2]; simp
    have hx : ds[n + 1]? = some ds[n + 1]:=List.getElem?_eq_getElem hlt
    have hdA:=r4 rfl _ hx
    have ha : atI (ds.map V.ref) (0 + ((n + 1 : Nat) : Int)) = some (.ref ds[n + 1]):=by
     rw [Int.zero_add]
     exact J2D (by rw [List.getElem?_map,hx]; rfl)
    have hll : (ds.map V.ref).length ≤ 1000:=by rw [List.length_map,r2]; simp; omega
    walk_at "rd"
    exact q L n true H7 s7 ⟨by omega,hop,(fun _=>⟨by omega,hcl⟩),fun h=>by cases h⟩ hrc
  ·rintro σ H7 hv
   obtain ⟨⟨v3,rfl⟩,s7,hst⟩:=hv.out
   rcases hst with ⟨hrc,hop⟩ | ⟨n,en,hrc,hop,hcl⟩
   ·walk_at "rd"
    exact q L _ false H7 s7 ⟨by omega,hop,(fun h=>by cases h),fun _=>by omega⟩ hrc
   ·walk_at "rd"
    exact q L n true H7 s7 ⟨by omega,hop,(fun _=>⟨by omega,hcl⟩),fun h=>by cases h⟩ hrc
end
noncomputable abbrev fF (a b c : V) : List (Str × V):=[("rota",a),("total",b),("paper",c)]
theorem J7Y (a b c : V) : List.lookup ("rota" : Str) (fF a b c) = some a:=J2t
theorem J61 (a b c : V) : List.lookup ("total" : Str) (fF a b c) = some b:=by rw [JJ (by decide +kernel),J2t]
theorem J6f (a b c : V) : List.lookup ("paper" : Str) (fF a b c) = some c:=by rw [JJ (by decide +kernel),JJ (by decide +kernel),J2t]
theorem Jar (a b c : V) : List.lookup ("stands" : Str) (fF a b c) = none:=by rw [JJ (by decide +kernel),JJ (by decide +kernel),JJ (by decide +kernel)]; rfl
theorem J6g (a : V) : List.lookup ("paper" : Str) [(("paper" : Str),a)] = some a:=J2t
theorem Jal (a : V) : List.lookup ("stands" : Str) [(("paper" : Str),a)] = none:=by rw [JJ (by decide +kernel)]; rfl
theorem Jeq (a b c : V) : putF "paper" c (putF "total" b (putF "rota" a [])) = fF a b c:=by
 show putF "paper" c (putF "total" b ([(("rota" : Str),a)] : List (Str × V))) = _
 rw [putN (fs:=[("rota",a)]) (show ∀ g ∈ [("rota" : Str)],g ≠ "total" from by decide +kernel)]
 show putF "paper" c ([(("rota" : Str),a),(("total" : Str),b)] : List (Str × V)) = _
 rw [putN (fs:=[("rota",a),("total",b)]) (show ∀ g ∈ [("rota" : Str),"total"],g ≠ "paper" from by decide +kernel)]
 rfl
theorem Je8 (a b : V) : (putF "total" b (putF "rota" a [])).length = 2:=by
 show (putF "total" b ([(("rota" : Str),a)] : List (Str × V))).length = _
 rw [putN (fs:=[("rota",a)]) (show ∀ g ∈ [("rota" : Str)],g ≠ "total" from by decide +kernel)]
 rfl
noncomputable def J8m (C : Addr) : Sp:=fun vs H Q _=>∃ p dx r pp xs z,vs = [.ref p,.ref r,.int z,.ref pp] ∧ H p = some (.ins C dx []) ∧ H r = some (.lst xs) ∧ ∀ H' a,But p H H' → H' p = some (.ins C dx (fF (.ref a) (.int z) (.ref pp))) → H' a = some (.lst xs) → H a = none → Q .non H'
noncomputable def rFnd (C : Addr) : List V → Hp → VK → Prop:=fun vs H Q=>∃ r pp xs z,vs = [.ref r,.int z,.ref pp] ∧ H r = some (.lst xs) ∧ ∀ p dx a H',Same H H' → H' p = some (.ins C dx (fF (.ref a) (.int z) (.ref pp))) → H' a = some (.lst xs) → H a = none → Q (.ref p) H'
theorem JdK {C : Addr} : ∀ vs H Q,rFnd C vs H Q → ∀ x dx,H x = none → H dx = none → dx ≠ x → J8m C (.ref x :: (vs ++ [])) (upd (upd H dx (.own x)) x (.ins C dx [])) (fun v H2=>v = .non ∧ Q (.ref x) H2) E0:=by
 rintro _ H Q ⟨r,pp,xs,z,rfl,h1,q⟩ x dx nx nd _
 exact ⟨x,dx,r,pp,xs,z,rfl,Jd,J1Z nx nd h1,fun H' a bt e e1 n1=>⟨rfl,q x dx a H' (J0W nx nd bt) e e1 (J2a n1)⟩⟩
noncomputable def J8d (C : Addr) : Sp:=fun vs H Q _=>∃ p dx pp,vs = [.ref p,.ref pp] ∧ H p = some (.ins C dx []) ∧ Q .non (upd H p (.ins C dx [("paper",.ref pp)]))
noncomputable def rWth (C : Addr) : List V → Hp → VK → Prop:=fun vs H Q=>∃ pp,vs = [.ref pp] ∧ ∀ p dx H',Same H H' → H' p = some (.ins C dx [("paper",.ref pp)]) → Q (.ref p) H'
theorem Jdx {C : Addr} : ∀ vs H Q,rWth C vs H Q → ∀ x dx,H x = none → H dx = none → dx ≠ x → J8d C (.ref x :: (vs ++ [])) (upd (upd H dx (.own x)) x (.ins C dx [])) (fun v H2=>v = .non ∧ Q (.ref x) H2) E0:=by
 rintro _ H Q ⟨pp,rfl,q⟩ x dx nx nd _
 exact ⟨x,dx,pp,rfl,Jd,rfl,q x dx _ (((J0n nd _).upd nx).upd nx) Jd⟩
theorem Je7 {H H' : Hp} {t : Addr} {k : PKy} {c : Int} (h : EnAt H t k c) (k1 : ∀ c ys,H c = some (.tup ys) → H' c = some (.tup ys)) : EnAt H' t k c:=let ⟨a,b,h1,h2,h3⟩:=h; ⟨a,b,k1 _ _ h1,k1 _ _ h2,k1 _ _ h3⟩
theorem JcX {H H' : Hp} {p : Addr} {es : List (PKy × Int)} (h : PgAt H p es) (k1 : ∀ c ys,H c = some (.tup ys) → H' c = some (.tup ys)) (k2 : ∀ ys,H p = some (.lst ys) → H' p = some (.lst ys)) : PgAt H' p es:=let ⟨ts,h1,h2,h3⟩:=h; ⟨ts,k2 _ h1,h2,fun i t e a b=>Je7 (h3 i t e a b) k1⟩
theorem JdY {H H' : Hp} {p : Addr} {es : List (List (PKy × Int))} (h : PsAt H p es) (k1 : ∀ c ys,H c = some (.tup ys) → H' c = some (.tup ys)) (k2 : ∀ c ys,H c = some (.lst ys) → H' c = some (.lst ys)) : PsAt H' p es:=let ⟨ts,h1,h2,h3⟩:=h; ⟨ts,k2 _ _ h1,h2,fun i t e a b=>JcX (h3 i t e a b) k1 (k2 _)⟩
noncomputable def rmv (H : Hp) (D : Addr) : Hp:=fun c=>if c = D then none else H c
theorem Jb8 {H : Hp} {D : Addr} : rmv H D D = none:=if_pos rfl
theorem J98 {H : Hp} {D c : Addr} (h : c ≠ D) : rmv H D c = H c:=if_neg h
noncomputable def HidP (D : Addr) (es : List (PKy × Int)) (y : V) (H : Hp) : Prop:=∃ H0 t,H0 D = none ∧ Same H0 H ∧ y = .ref t ∧ PgAt H0 t es
theorem J8D {H : Hp} {D : Addr} : ∀ {xs : List (List (PKy × Int))} {ys : List V},All2 (HidP D) H xs ys → ∃ ts : List Addr,ys = ts.map V.ref ∧ ts.length = xs.length ∧ ∀ (i : Nat) t e,ts[i]? = some t → xs[i]? = some e → PgAt H t e
 | [],[],_=>⟨[],rfl,rfl,fun i t e h=>by cases h⟩
 | [],_ :: _,h=>h.elim
 | _ :: _,[],h=>h.elim
 | x :: xs,y :: ys,⟨⟨H0,t0,n0,s0,e0',h0⟩,h2⟩=>by
  obtain ⟨ts,e1,e2,e3⟩:=J8D h2
  refine ⟨t0 :: ts,by rw [e0',e1]; rfl,by rw [List.length_cons,List.length_cons,e2],fun i t e ht he=>?_⟩
  rcases i with _ | i
  ·obtain rfl : t0 = t:=Option.some.inj ht
   obtain rfl : x = e:=Option.some.inj he
   exact h0.same s0
  ·exact e3 i t e ht he
theorem J4C {J : It} {H : Hp} {σ0 : St} {g : TG} {te : TE} {Q : VK} (xs : List (List (PKy × Int))) (sh : St → Prop) (hx : xs.length ≤ 1000000) (h0 : sh σ0)
  (hgo : ∀ i H',Same H H' → i < xs.length → J.go i H') (hstop : ∀ H',Same H H' → J.stop xs.length H')
  (step : ∀ (i : Nat) a σ x H' H'',xs[i]? = some a → sh σ → Same H H' → J.yld i H' x H'' → ∀ (Rt : St → V → Hp → Prop),
   (∀ σ2 t H4,sh σ2 → Same H' H4 → H' t = none → PgAt H4 t a → Rt σ2 (.ref t) H4) → g x σ H'' fun σ2 H2=>te σ2 H2 (fun y H4=>Rt σ2 y H4))
  (hQ : ∀ D H',H D = none → Same H H' → PsAt H' D xs → Q (.ref D) H') : J6a J H σ0 g tYes te Q:=by
 refine J76 xs HidP sh hx h0 hgo hstop (fun D a y Ha Hb bt ⟨H0,t,n0,s0,e,h⟩=>⟨H0,t,n0,fun c o ec=>bt c o (fun z=>by rw [z,n0] at ec; cases ec) (s0 c o ec),e,h⟩) (fun D i a σ x H' H'' nD hD ha hσ s' hy Rt hR=>?_) (fun D H' ys nD s' hA hD=>?_)
 ·obtain ⟨ys,hD⟩:=hD
  refine step i a σ x H' H'' ha hσ s' hy Rt fun σ2 t H4 h2 s4 nt pg=>hR σ2 (.ref t) H4 h2 s4 ?_
  have hD4:=s4 _ _ hD
  refine ⟨rmv H4 D,t,Jb8,fun c o e=>?_,rfl,JcX pg (fun c zs e=>?_) (fun zs e=>?_)⟩
  ·by_cases hc : c = D
   ·rw [hc,Jb8] at e; cases e
   ·rw [J98 hc] at e; exact e
  ·rw [J98 (fun z=>by rw [z,hD4] at e; cases e)]; exact e
  ·rw [J98 (fun z=>by rw [z,hD] at nt; cases nt)]; exact e
 ·obtain ⟨ts,e1,e2,e3⟩:=J8D hA
  exact hQ D H' nD s' ⟨ts,by rw [hD,e1],e2,e3⟩
noncomputable def JaR (C : Addr) : Sp:=fun vs H Q _=>∃ p dx pl ps,vs = [.ref p,.ref pl] ∧ H p = some (.ins C dx []) ∧ PsAt H pl ps ∧ ps.length ≤ 1000 ∧ ∀ H' q,But p H H' → H' p = some (.ins C dx [("pages",.ref q)]) → PsAt H' q ps → Q .non H'
noncomputable def rBk (C : Addr) : List V → Hp → VK → Prop:=fun vs H Q=>∃ pl ps,vs = [.ref pl] ∧ PsAt H pl ps ∧ ps.length ≤ 1000 ∧ ∀ p dx q H',Same H H' → H' p = some (.ins C dx [("pages",.ref q)]) → PsAt H' q ps → Q (.ref p) H'
theorem Je1 {C : Addr} : ∀ vs H Q,rBk C vs H Q → ∀ x dx,H x = none → H dx = none → dx ≠ x → JaR C (.ref x :: (vs ++ [])) (upd (upd H dx (.own x)) x (.ins C dx [])) (fun v H2=>v = .non ∧ Q (.ref x) H2) E0:=by
 rintro _ H Q ⟨pl,ps,rfl,h1,hl,q⟩ x dx nx nd _
 exact ⟨x,dx,pl,ps,rfl,Jd,h1.same fun a v e=>J1Z nx nd e,hl,fun H' a bt e e1=>⟨rfl,q x dx a H' (J0W nx nd bt) e e1⟩⟩
noncomputable def Jd8 (P : Program) (w : World) (CH : Addr) : Sp:=fun vs H Q _=>∃ h l a dd ks nds n,vs = [.ref h,.ref l,.ref a] ∧ Hn CH H h dd ks nds ∧ RcAt P w H l n false ∧ (n : Int) = dd ∧ dd ≤ 14 ∧ JL H a e0 ∧ ∀ D H',Same H H' → H D = none → H' D = some (.lst []) → Q (.ref D) H'
theorem J9b {X : Cx} {K : PySem.W.Frag} (h : X.K = K) : J1p X (.type "list") (fun xs H Q=>∃ p ys,xs = [.ref p] ∧ (SqL K H p ys ∨ SqT K H p ys) ∧ ∀ l,H l = none → Q (.ref l) (upd H l (.lst ys))):=by
 subst h
 exact J02
section
variable {P : Program} {w : World} {K : PySem.W.Frag} {mg : Str → Option Value} {base : Heap} {Ji Jh J1 Jj J4 J3 J5 Jb J8 Jg Jf : Addr}
local macro_rules | `(tactic| walk_at "lk")=>`(tactic| first | exact J1r _ _ _ _ _ _ _ _ | exact J3G _ _ _ _ _ _ _ _ | exact J7Y _ _ _ | exact J61 _ _ _ | exact J6f _ _ _ | exact J6g _ | exact put1)
theorem J7M (tx : Tx K mg Ji Jh J1 Jj J4 J3 J5 Jb J8 Jg Jf) : MtG P w K mg base Jb "__init__" 1 ["self","rota","total","paper"] (J8m Jb):=by
 refine tx.J7d.g tx.J2W.cl J6z (fun _ _ _ _ _ _ us hl=>match us,hl with | [_,_,_,_],_=>rfl) (fun vs H Q E h=>?_) (fun f cdv A outer s H vs Q E hr h=>?_)
 ·obtain ⟨p,dx,r,pp,xs,z,rfl,_⟩:=h
  rfl
 ·obtain ⟨p,dx,r,pp,xs,z,rfl,hp,h1,q⟩:=h
  refine ⟨_,(J7 (JN (pv 0) (JQ J02 rfl tx.J1Q J0w (J0 (pv 1) J6)) rfl)
   (J7 (JN (pv 0) (pv 2) rfl)
   (Jc (JN (pv 0) (pv 3) rfl)))),?_⟩
  walk_at "st"
  have cE:=tx.J2W.cl
  have n1:=tx.J0E
  have n2:=tx.J0r
  have n3:=tx.J0s
  have z0 : ([] : List (Str × V)).length < 1000:=by decide
  have I1 : SqL K H r xs ∨ SqT K H r xs:=.inl (SqL.of h1)
  walk_at "rd"
  intro a1 f1
  obtain ⟨H1,e1,y1,s1⟩:=newl (xs:=xs) f1
  rw [← e1]
  have hp1:=s1 _ _ hp
  have na1 : a1 ≠ p:=(J9 hp f1).symm
  have z1 : (putF "rota" (.ref a1) []).length < 1000:=by show 1 < 1000; decide
  have z2 : (putF "total" (.int z) (putF "rota" (.ref a1) [])).length < 1000:=by rw [Je8]; decide
  walk_at "rd"
  refine q _ a1 ?_ ?_ ?_ f1
  ·exact (((((But.refl p H).same s1).at).at).at)
  ·rw [Jd,Jeq]
  ·rw [Ja na1,Ja na1,Ja na1]; exact y1
theorem J5i (tx : Tx K mg Ji Jh J1 Jj J4 J3 J5 Jb J8 Jg Jf) : MtG P w K mg base J8 "__init__" 1 ["self","paper"] (J8d J8):=by
 refine tx.J5D.g tx.J28.cl J53 (fun _ _ _ _ _ _ us hl=>match us,hl with | [_,_],_=>rfl) (fun vs H Q E h=>?_) (fun f cdv A outer s H vs Q E hr h=>?_)
 ·obtain ⟨p,dx,pp,rfl,_⟩:=h
  rfl
 ·obtain ⟨p,dx,pp,rfl,hp,q⟩:=h
  refine ⟨_,(Jc (JN (pv 0) (pv 1) rfl)),?_⟩
  walk_at "st"
  have cE:=tx.J28.cl
  have n1:=tx.JX
  have z0 : ([] : List (Str × V)).length < 1000:=by decide
  walk_at "rd"
  exact q
theorem J8i (tx : Tx K mg Ji Jh J1 Jj J4 J3 J5 Jb J8 Jg Jf) : MtG P w K mg base Jg "__init__" 1 ["self","pages"] (JaR Jg):=by
 refine tx.J8g.g tx.J45.cl J7E (fun _ _ _ _ _ _ us hl=>match us,hl with | [_,_],_=>rfl) (fun vs H Q E h=>?_) (fun f cdv A outer s H vs Q E hr h=>?_)
 ·obtain ⟨p,dx,pl,ps,rfl,_⟩:=h
  rfl
 ·obtain ⟨p,dx,pl,ps,rfl,hp,hps,hl,q⟩:=h
  refine ⟨_,(Jc (JN (pv 0) (JS (osc:=J2 J12) (ON:=["self","pages"]) (N:=["page"]) (js:=[none]) ⟨rfl,by decide +kernel,by decide +kernel,by decide +kernel,rfl,by decide +kernel⟩ rfl rfl rfl (Jt (K:=K) rfl (pv 1)) (fun _ _ _ _ _=>Jk (i:=0) (show List.Nodup (["page"] : List Str) from by decide +kernel) rfl (Or.inl rfl)) (fun _ _ _ _ _=>JE) (fun _ _ _ _ _=>(JQ (J9b (K:=K) rfl) rfl tx.J1Q J0w (J0 (pv 0) J6)))) rfl)),?_⟩
  walk_at "st"
  have cE:=tx.J45.cl
  have n1:=tx.J0I
  have z0 : ([] : List (Str × V)).length < 1000:=by decide
  obtain ⟨ts,t1,t2,t3⟩:=hps
  walk_at "rd"
  refine J4C ps (fun σ=>∃ v,σ = [v]) (by omega) ⟨_,rfl⟩ (fun i H' s' hi=>⟨ts.map V.ref,.ref (ts[i]'(by omega)),SqL.of (s' _ _ t1),by rw [List.getElem?_map,List.getElem?_eq_getElem (by omega)]; rfl⟩) (fun H' s'=>⟨ts.map V.ref,SqL.of (s' _ _ t1),by rw [List.length_map]; omega⟩) (fun i a σ x H' H'' ha hσ s' hy Rt hR=>?_) (fun D H2 nD s2 hD=>?_)
  ·obtain ⟨v,rfl⟩:=hσ
   obtain ⟨rfl,hy⟩:=hy
   have hx:=hy _ (SqL.of (s' _ _ t1))
   have hi : i < ts.length:=by
    rcases Nat.lt_or_ge i ts.length with z | z
    ·exact z
    ·rw [List.getElem?_eq_none (by rw [List.length_map]; exact z)] at hx; cases hx
   have hti : ts[i]? = some ts[i]:=List.getElem?_eq_getElem hi
   rw [List.getElem?_map,hti] at hx
   obtain rfl : V.ref ts[i] = x:=Option.some.inj hx
   obtain ⟨us,u1,u2,u3⟩:=(t3 i _ a hti ha).same s'
   have I1 : SqL K H'' ts[i] (us.map V.ref) ∨ SqT K H'' ts[i] (us.map V.ref):=.inl (SqL.of u1)
   walk_at "rd"
   intro t nt
   obtain ⟨H4,e4,y4,s4⟩:=newl (xs:=us.map V.ref) nt
   rw [← e4]
   exact hR _ t H4 ⟨_,rfl⟩ s4 nt ⟨us,y4,u2,fun j t' e g1 g2=>(u3 j t' e g1 g2).same s4⟩
  ·have hp2:=s2 _ _ hp
   walk_at "rd"
   refine q _ D ((But.refl p H).same s2).at ?_ ?_
   ·rw [Jd]; rfl
   ·refine JdY hD (fun c ys e=>?_) (fun c ys e=>?_)
    ·rw [Ja (J2f e hp2 fun z=>by cases z)]; exact e
    ·rw [Ja (J2f e hp2 fun z=>by cases z)]; exact e
theorem J9Y (tx : Tx K mg Ji Jh J1 Jj J4 J3 J5 Jb J8 Jg Jf) : FnG P w K mg base "rota_to" 1 ["house","reached","place"] (Jd8 P w J1):=by
 refine tx.J9X.g J24 (fun _ _ _ _ _ _ us hl=>match us,hl with | [_,_,_],_=>rfl) (fun vs H Q E h=>?_) (fun f cdv A outer s H vs Q E hr h=>?_)
 ·obtain ⟨h,l,a,dd,ks,nds,n,rfl,_⟩:=h
  rfl
 ·obtain ⟨h,l,a,dd,ks,nds,n,rfl,hk,hrc,hn,hd14,hpa,q⟩:=h
  refine ⟨_,(J7 (J3e (k:=3) (osc:=J2 J1B) (ON:=["house","reached","place","rows","day","told"]) (N:=["person"]) (js:=[none]) J24.nd rfl (Or.inl rfl) ⟨rfl,by decide +kernel,by decide +kernel,by decide +kernel,rfl,by decide +kernel⟩ rfl rfl rfl (Jt (K:=K) rfl (Jr (K:=K) rfl (pv 0) rfl)) (fun _ _ _ _ _=>Jk (i:=0) (show List.Nodup (["person"] : List Str) from by decide +kernel) rfl (Or.inl rfl)) (fun _ _ _ _ _=>JE) (fun _ _ _ _ _=>J17))
   (J7 (J03 PassesOwn.never rfl (Jax rfl tx.J0x (J0 (Jr (K:=K) rfl (pv 0) rfl) (J0 Je (J0 (JcR Jba Je) J6)))) (Jk (i:=4) J24.nd rfl (Or.inl rfl)) (J7 (Jq (i:=5) J24.nd rfl (Or.inl rfl) (J5g (P:=P) (w:=w) rfl rfl (J2O hr) (JG (J2e (K:=K) rfl) (pv 1) (pv 4) (fun _ _=>rfl)) (pv 2) (fun _ _=>rfl)))
   (J7 (J3e (k:=3) (osc:=J2 J1B) (ON:=["house","reached","place","rows","day","told"]) (N:=["mark","row"]) (js:=[none,none]) J24.nd rfl (Or.inl rfl) ⟨rfl,by decide +kernel,by decide +kernel,by decide +kernel,rfl,by decide +kernel⟩ rfl rfl rfl (Jbh (K:=K) rfl rfl tx.J4X (J0 (JG (Jw (K:=K) rfl) (pv 5) Je (fun _ _=>rfl)) (J0 (pv 3) J6))) (fun _ _ _ _ _=>J3x (K:=K) (i:=0) (j:=1) rfl rfl (show List.Nodup (["mark","row"] : List Str) from by decide +kernel) rfl rfl (Or.inl rfl) (Or.inl rfl)) (fun _ _ _ _ _=>JE) (fun _ _ _ _ _=>J17))
   (Jc (Jq (i:=2) J24.nd rfl (Or.inl rfl) (JG (Jw (K:=K) rfl) (pv 5) Je (fun _ _=>rfl)))))))
   (Jc (Jo (pv 3))))),?_⟩
  walk_at "st"
  have hk0:=hk
  obtain ⟨a1,a2,a3,a4,a5,a6,xs,⟨dx1,h1⟩,h2,h3,h4,h5,h6⟩:=hk0
  have cH:=tx.JA.cl
  have nH:=tx.Ju
  have nH2:=tx.JZ
  walk_at "rd"
  refine JD (fun H' s'=>⟨[],SqL.of (s' _ _ h4),Nat.le_refl _⟩) fun D H1 nD s1 hD1=>?_
  have h11:=s1 _ _ h1
  have d0 : 0 ≤ dd:=by omega
  have d6 : dd < 1000000:=by omega
  walk_at "rd"
  refine Jbo (lo:=dd) (n:=dd.toNat) (fun i σ H2=>Here (∃ a D v4 v5,σ = [some (.ref h),some (.ref l),some (.ref a),some (.ref D),v4,v5] ∧ JL H2 a e0 ∧ Same H H2 ∧ H D = none ∧ H2 D = some (.lst []))) (Here.mk ⟨a,D,none,none,rfl,hpa.same fun c ys=>s1 c _,s1,nD,hD1⟩) ?_ ?_
  ·rintro i σ H2 hi hv
   obtain ⟨a',D',v4,v5,rfl,pa2,s2,nD',hD2⟩:=hv.out
   clear hv
   obtain ⟨ds,r1,r2,r3,r4⟩:=hrc.same s2
   have r2' : ds.length = n + 1:=r2
   have hlt : n - i < ds.length:=by omega
   have hx : ds[n - i]? = some ds[n - i]:=List.getElem?_eq_getElem hlt
   obtain ⟨x,⟨b,tt,hDA,htt⟩,hx1⟩:=r3 (n - i) _ (by omega) hx
   obtain ⟨y,rfl,py⟩:=hx1 (by omega)
   have ha : atI (ds.map V.ref) (dd - (i : Int)) = some (.ref ds[n - i]):=by
    rw [show dd - (i : Int) = ((n - i : Nat) : Int) by omega]
    exact J2D (by rw [List.getElem?_map,hx]; rfl)
   have hll : (ds.map V.ref).length ≤ 1000:=by rw [List.length_map,r2']; omega
   have kg : KGet P w H2 ds[n - i] (.ref a') (some (.ref tt)):=⟨_,e0,a',hDA,rfl,pa2,(J4u (p:=(e0,b,V.ref tt)) (r:=[]) rfl).symm⟩
   have x1:=at31 (V.int 0) (V.ref y) (T [])
   have x2:=at32 (V.int 0) (V.ref y) (T [])
   walk_at "rd"
   refine JD (fun H' s'=>⟨[],SqL.of (s' _ _ hD2),.inl rfl⟩) fun D3 H3 nD3 s3 hD3=>?_
   have htt3:=s3 _ _ htt
   walk_at "rd"
   exact Here.mk ⟨y,D3,_,_,rfl,py.same fun c ys=>s3 c _,s2.trans s3,s2.free nD3,hD3⟩
  ·rintro σ H2 hv
   obtain ⟨a',D',v4,v5,rfl,pa2,s2,nD',hD2⟩:=hv.out
   walk_at "rd"
   exact q D' H2 s2 nD' hD2
end
noncomputable def pgsN (n : Nat) (sh : Bool) : List (List (PKy × Int)):=List.replicate (n + 1) [(e0,0)] ++ (if sh = true then [[]] else [])
theorem J2S (n : Nat) (sh : Bool) : (pgsN n sh).length = n + 1 + (if sh = true then 1 else 0):=by
 unfold pgsN
 rw [List.length_append,List.length_replicate]
 cases sh <;> rfl
theorem J4E {n i : Nat} {sh : Bool} (h : i ≤ n) : (pgsN n sh)[i]? = some [(e0,0)]:=by
 unfold pgsN
 rw [List.getElem?_append_left (by rw [List.length_replicate]; omega),List.getElem?_replicate,if_pos (by omega)]
theorem J5f {n : Nat} : (pgsN n true)[n + 1]? = some []:=by
 unfold pgsN
 rw [List.getElem?_append_right (by rw [List.length_replicate]; omega),List.length_replicate,Nat.sub_self]
 rfl
noncomputable def Jd1 (CH CB : Addr) : Sp:=fun vs H Q _=>∃ p dx pq h c dd ks nds n sh,vs = [.ref p,.ref h,c] ∧ H p = some (.ins CB dx [("pages",.ref pq)]) ∧ PsAt H pq (pgsN n sh) ∧ OpN ks nds dd n sh ∧ Hn CH H h dd ks nds ∧ ks.length ≤ 4 ∧ 1 ≤ dd ∧ dd ≤ 14 ∧ ∀ H',Same H H' → Q (if sh = true then .non else .int 0) H'
section
variable {P : Program} {w : World} {K : PySem.W.Frag} {mg : Str → Option Value} {base : Heap} {Ji Jh J1 Jj J4 J3 J5 Jb J8 Jg Jf : Addr}
local macro_rules | `(tactic| walk_at "lk")=>`(tactic| first | exact J1r _ _ _ _ _ _ _ _ | exact J3G _ _ _ _ _ _ _ _ | exact J8W _ | exact put1)
theorem J39 (tx : Tx K mg Ji Jh J1 Jj J4 J3 J5 Jb J8 Jg Jf) : MtG P w K mg base Jg "floor" 5 ["self","house","costs"] (Jd1 J1 Jg):=by
 have J5S:=tx.J3w.g (J4T (P:=P) (w:=w) (base:=base) tx)
 have J1n:=J3N (P:=P) (w:=w) (base:=base) tx
 have J3Y:=J95 (P:=P) (w:=w) (base:=base) tx
 have J1P:=J4l (P:=P) (w:=w) (base:=base) tx
 have J5R:=J96 (P:=P) (w:=w) (base:=base) tx
 have J1H:=J4s (P:=P) (w:=w) (base:=base) tx
 refine tx.J7p.g tx.J45.cl J1l (fun _ _ _ _ _ _ us hl=>match us,hl with | [_,_,_],_=>rfl) (fun vs H Q E h=>?_) (fun f cdv A outer s H vs Q E hr h=>?_)
 ·obtain ⟨p,dx,pq,h,c,dd,ks,nds,n,sh,rfl,_⟩:=h
  rfl
 ·obtain ⟨p,dx,pq,h,c,dd,ks,nds,n,sh,rfl,hp,hps,⟨o1,o2,o3,o4⟩,hk,hkl,d1,d14,q⟩:=h
  refine ⟨_,(J7 (Jq (i:=3) J1l.nd rfl (Or.inl rfl) (J2w (r:=rWk J1 Jf) J5S (hr.mono (by decide)) JcJ (J0 (pv 1) (J0 (pv 2) J6))))
   (J7 (J0A (PW.pt (J4v (Jx J2v (Jv (JH (K:=K) rfl) rfl tx.J21 PySem.boot_len (J0 (Jr (K:=K) rfl (pv 0) rfl) J6)) Je (Jy _)) (J48 (J3z (J3i (Jz J1P (hr.mono (by decide)) (J0 (Jz J1n (hr.mono (by decide)) (J0 (pv 3) J6)) (J0 (Jz J3Y (hr.mono (by decide)) (J0 (JG (J2e (K:=K) rfl) (Jr (K:=K) rfl (pv 0) rfl) Je (fun _ _=>rfl)) J6)) J6)))))))) (Jc (Jo Je)) JB)
   (J7 (J03 PassesOwn.never rfl (J3C (K:=K) rfl rfl tx.J0l (J0 (Jr (K:=K) rfl (pv 0) rfl) J6)) (J1Y rfl (Jp (Jk (i:=4) J1l.nd rfl (Or.inl rfl)) (Jp (Jk (i:=5) J1l.nd rfl (Or.inl rfl)) J0Y))) (J7 (J0A (Jx J2v (Jv (JH (K:=K) rfl) rfl tx.J21 PySem.boot_len (J0 (pv 5) J6)) Je (Jy _)) (Jc (Jo J5Y)) JB)
   (J7 (J0A (Jx J2v (pv 4) (Jr (K:=K) rfl (pv 1) rfl) (Jy _)) (Jc (Jo (Jv (Ja6 (K:=K) rfl rfl) rfl tx.J4m J6h (J0 (JS (osc:=J2 J0H) (ON:=["self","house","costs","walk","day","page","following"]) (N:=["entry","costs"]) (js:=[none,some 2]) ⟨rfl,by decide +kernel,by decide +kernel,by decide +kernel,rfl,by decide +kernel⟩ rfl rfl rfl (Jt (K:=K) rfl (pv 5)) (fun _ _ _ _ _=>Jk (i:=0) (show List.Nodup (["entry","costs"] : List Str) from by decide +kernel) rfl (Or.inl rfl)) (fun _ _ _ _ _=>JE) (fun _ _ _ _ _=>(Jz J1H (hr.mono (by decide)) (J0 (pv 1) (J0 (JG (Jw (K:=K) rfl) (pv 0) Je (fun _ _=>rfl)) (J0 (JG (Jw (K:=K) rfl) (pv 0) Je (fun _ _=>rfl)) J6)))))) J6)))) JB)
   (J7 (Jq (i:=6) J1l.nd rfl (Or.inl rfl) (JaW (Jx J5X (JI J1s (pv 4) Je) (Jv (JH (K:=K) rfl) rfl tx.J21 PySem.boot_len (J0 (Jr (K:=K) rfl (pv 0) rfl) J6)) (Jy _)) (JG (J2e (K:=K) rfl) (Jr (K:=K) rfl (pv 0) rfl) (JI J1s (pv 4) Je) (fun _ _=>rfl)) (JP J6)))
   (Jc (J0A (J3z (J3i (Jz J5R (hr.mono (by decide)) (J0 (pv 3) (J0 (pv 4) (J0 (pv 5) (J0 (Jz J3Y (hr.mono (by decide)) (J0 (pv 6) J6)) J6))))))) (Jc (Jo Je)) JB))))))
   (Jc (Jo Je))))),?_⟩
  walk_at "st"
  clear J5S J1n J3Y J1P J5R J1H
  have cH:=tx.JA.cl
  have nH:=tx.JZ
  have cE:=tx.J45.cl
  have n1:=tx.J0I
  obtain ⟨ts,t1,t2,t3⟩:=hps
  rw [J2S] at t2
  have hll : (ts.map V.ref).length ≤ 1000:=by rw [List.length_map,t2]; split <;> omega
  walk_at "rd"
  intro wk H1 s1 hw1
  have hp1:=s1 _ _ hp
  have t11:=s1 _ _ t1
  have hz : ¬ ((ts.map V.ref).length : Int) = 0:=by rw [List.length_map,t2]; omega
  walk_at "rd"
  refine ite2 (fun z=>absurd (V.int.inj (of_decide_eq_true z)) hz) (fun z=>?_)
  walk_at "rd"
  intro te H2 s2 nte hte
  have hx0 : ts[0]? = some (ts[0]'(by omega)):=List.getElem?_eq_getElem (by omega)
  have S2:=s1.trans s2
  have pg0:=(t3 0 _ _ hx0 (J4E (Nat.zero_le _))).same S2
  have ha0 : atI (ts.map V.ref) 0 = some (.ref (ts[0]'(by omega))):=by
   have e0' : (ts.map V.ref)[0]? = some (.ref (ts[0]'(by omega))):=by rw [List.getElem?_map,hx0]; rfl
   exact J2D e0'
  have hp2:=S2 _ _ hp
  have t12:=S2 _ _ t1
  walk_at "rd"
  refine ⟨.inr rfl,fun D b H3 s3 hD3=>?_⟩
  have hte3:=hte.same s3
  walk_at "rd"
  intro H4 s4
  have S4:=(S2.trans s3).trans s4
  have hp4:=S4 _ _ hp
  have t14:=S4 _ _ t1
  walk_at "rd"
  refine Jak (K:=K) (xs:=ts.map V.ref) (fun i σ H5=>Here ((∃ v4 v5 v6,σ = [some (.ref p),some (.ref h),some c,some (.ref wk),v4,v5,v6]) ∧ Same H H5 ∧ WkAt J1 Jf H5 wk h c dd ks nds ∧ i ≤ n + 1 ∧ (i : Int) ≤ dd)) (Here.mk ⟨⟨none,none,none,rfl⟩,S4,hw1.same ((s2.trans s3).trans s4),by omega,by omega⟩) (fun i σ H5 _ hv=>by
   obtain ⟨_,s5,_⟩:=hv.out
   exact SqL.of (s5 _ _ t1)) ?_ ?_
  ·rintro i x pr σ H5 hx npr hv
   obtain ⟨⟨v4,v5,v6,rfl⟩,s5,hw5,hi1,hi2⟩:=hv.out
   clear hv
   obtain ⟨H6,e6,y6,s6⟩:=newt (xs:=[V.int i,x]) npr
   rw [← e6]
   have S6:=s5.trans s6
   have hw6:=hw5.same s6
   have hti : i < ts.length:=by
    rcases Nat.lt_or_ge i ts.length with z | z
    ·exact z
    ·rw [List.getElem?_eq_none (by rw [List.length_map]; exact z)] at hx; cases hx
   have hti' : ts[i]? = some ts[i]:=List.getElem?_eq_getElem hti
   rw [List.getElem?_map,hti'] at hx
   obtain rfl : V.ref ts[i] = x:=Option.some.inj hx
   have hp6:=S6 _ _ hp
   have t16:=S6 _ _ t1
   have hk6:=hk.same S6
   obtain ⟨a1,a2,a3,a4,a5,a6,xs,⟨dx1,h1⟩,hk'⟩:=hk6
   rcases Nat.lt_or_ge n i with y | y
   ·cases sh with
    | false=>exact absurd (o4 rfl) (by omega)
    | true =>
    obtain rfl : i = n + 1:=by omega
    obtain ⟨us,u1,u2,u3⟩:=(t3 _ _ _ hti' J5f).same S6
    obtain rfl : us = []:=List.length_eq_zero_iff.mp u2
    have u1' : H6 ts[n + 1] = some (.lst []):=u1
    walk_at "rd"
    exact q H6 S6
   ·have pg6:=(t3 _ _ _ hti' (J4E y)).same S6
    have pg6':=pg6
    obtain ⟨us,u1,u2,u3⟩:=pg6'
    obtain ⟨u,rfl⟩:=List.length_eq_one_iff.mp u2
    have u1' : H6 ts[i] = some (.lst [V.ref u]):=u1
    walk_at "rd"
    refine ite2 (fun z=>?_) (fun z=>?_)
    ·have z' : (i : Int) = dd:=V.int.inj (of_decide_eq_true z)
     have hsh : sh = false:=by
      cases sh with
      | false=>rfl
      | true=>exact absurd (o3 rfl).1 (by omega)
     subst hsh
     walk_at "rd"
     refine J2s [u] (fun _=>true) (fun _ y _=>y = .int 0) (fun σ=>∃ v,σ = [v,some c]) (J2u (SqL.of u1')) rfl (show 1 ≤ 1000000 by decide) ⟨_,rfl⟩ (fun a y Ha Hb k e=>e) (fun j a v σ H' ha hv hσ s' Rf Rt _ hR=>?_) (fun D2 H7 ys nD2 s7 hys hD2=>?_)
     ·obtain ⟨w1,rfl⟩:=hσ
      obtain rfl : v = .ref u:=by
       rcases j with _ | j
       ·exact (Option.some.inj hv).symm
       ·simp at hv
      obtain ⟨ea,eb,g1,g2,g3⟩:=(u3 0 u _ rfl rfl).same s'
      have g3' : H' eb = some (.tup []):=g3
      have x1:=at31 (V.ref ea) (V.ref eb) (V.int 0)
      have x2:=at32 (V.ref ea) (V.ref eb) (V.int 0)
      walk_at "rd"
      intro H8 s8
      exact hR _ _ _ rfl ⟨_,rfl⟩ s8 rfl
     ·have hys' : All2 (fun (_ : Addr) y _=>y = V.int 0) H7 [u] ys:=hys
      match ys,hys',hD2 with
      | [y],hys',hD2 =>
       obtain ⟨rfl,_⟩:=hys'
       have hD2' : H7 D2 = some (.lst (([0] : List Int).map V.int)):=hD2
       have lp : 0 < ([0] : List Int).length:=Nat.zero_lt_one
       walk_at "rd"
       intro M hM _
       obtain rfl : M = 0:=List.mem_singleton.mp hM
       exact q H7 (S6.trans s7)
      | [],hys',_=>exact hys'.elim
      | _ :: _ :: _,hys',_=>exact hys'.2.elim
    ·have z' : ¬ (i : Int) = dd:=fun e=>z (decide_eq_true (by rw [e]))
     have hlt : i + 1 < ts.length:=by
      cases sh with
      | false =>
       have:=o4 rfl
       simp at t2
       omega
      | true=>simp at t2; omega
     have hx1 : ts[i + 1]? = some ts[i + 1]:=List.getElem?_eq_getElem hlt
     have ha1 : atI (ts.map V.ref) ((i : Int) + 1) = some (.ref ts[i + 1]):=by
      have e1 : (ts.map V.ref)[i + 1]? = some (.ref ts[i + 1]):=by rw [List.getElem?_map,hx1]; rfl
      exact J2D e1
     obtain ⟨es,he,hpg,hop⟩ : ∃ es,(es = [] ∨ es = [(e0,(0 : Int))]) ∧ PgAt H ts[i + 1] es ∧ (J0M ks nds (i : Int) = true → es ≠ []):=by
      rcases Nat.lt_or_ge i n with yy | yy
      ·exact ⟨_,.inr rfl,t3 _ _ _ hx1 (J4E yy),fun _ h=>by cases h⟩
      ·obtain rfl : i = n:=by omega
       cases sh with
       | false=>exact absurd (o4 rfl) z'
       | true=>exact ⟨_,.inl rfl,t3 _ _ _ hx1 J5f,fun h=>by rw [(o3 rfl).2] at h; cases h⟩
     walk_at "rd"
     refine ite2 (fun zz=>?_) (fun zz=>absurd (decide_eq_true (by rw [List.length_map]; omega)) zz)
     have hpg6:=hpg.same S6
     walk_at "rd"
     intro D7 b7 H7 s7 hD7
     have hw7:=hw6.same s7
     have pg7:=pg6.same s7
     walk_at "rd"
     intro H8 s8
     walk_at "rd"
     exact Here.mk ⟨⟨_,_,_,rfl⟩,(S6.trans s7).trans s8,hw7.same s8,by omega,by omega⟩
  ·rintro σ H5 hv
   obtain ⟨⟨v4,v5,v6,rfl⟩,s5,hw5,hi1,hi2⟩:=hv.out
   rw [List.length_map,t2] at hi1 hi2
   cases sh with
   | false=>exact absurd (o4 rfl) (by simp at hi1 hi2; omega)
   | true=>exact absurd hi1 (by simp)
end
noncomputable def BkAt (CB : Addr) (H : Hp) (pp : Addr) (n : Nat) (sh : Bool) : Prop:=∃ dx pq,H pp = some (.ins CB dx [("pages",.ref pq)]) ∧ PsAt H pq (pgsN n sh)
theorem BkAt.same {CB : Addr} {H H' : Hp} {pp : Addr} {n : Nat} {sh : Bool} (h : BkAt CB H pp n sh) (s : Same H H') : BkAt CB H' pp n sh:=let ⟨dx,pq,h1,h2⟩:=h; ⟨dx,pq,s _ _ h1,h2.same s⟩
noncomputable def FdAt (CF : Addr) (H : Hp) (p pp : Addr) : Prop:=∃ dx a,H p = some (.ins CF dx (fF (.ref a) (.int 0) (.ref pp))) ∧ H a = some (.lst [])
theorem FdAt.same {CF : Addr} {H H' : Hp} {p pp : Addr} (h : FdAt CF H p pp) (s : Same H H') : FdAt CF H' p pp:=let ⟨dx,a,h1,h2⟩:=h; ⟨dx,a,s _ _ h1,s _ _ h2⟩
noncomputable def WtAt (CW : Addr) (H : Hp) (p pp : Addr) : Prop:=∃ dx,H p = some (.ins CW dx [("paper",.ref pp)])
theorem WtAt.same {CW : Addr} {H H' : Hp} {p pp : Addr} (h : WtAt CW H p pp) (s : Same H H') : WtAt CW H' p pp:=let ⟨dx,h1⟩:=h; ⟨dx,s _ _ h1⟩
noncomputable def Jd9 (CH CB CF : Addr) : Sp:=fun vs H Q _=>∃ p pp h c dd ks nds n,vs = [.ref p,.ref h,c] ∧ FdAt CF H p pp ∧ BkAt CB H pp n false ∧ OpN ks nds dd n false ∧ Hn CH H h dd ks nds ∧ ks.length ≤ 4 ∧ 1 ≤ dd ∧ dd ≤ 14 ∧ ∀ H',Same H H' → Q (.bl true) H'
noncomputable def Jd5 (CH CB CW : Addr) : Sp:=fun vs H Q _=>∃ p pp h c dd ks nds n,vs = [.ref p,.ref h,c] ∧ WtAt CW H p pp ∧ BkAt CB H pp n true ∧ OpN ks nds dd n true ∧ Hn CH H h dd ks nds ∧ ks.length ≤ 4 ∧ 1 ≤ dd ∧ dd ≤ 14 ∧ ∀ H',Same H H' → Q (.bl true) H'
noncomputable def Jdf (CH CB CF CW : Addr) : Sp:=fun vs H Q _=>∃ h c dd ks nds,vs = [.ref h,c] ∧ Hn CH H h dd ks nds ∧ ks.length ≤ 4 ∧ 1 ≤ dd ∧ dd ≤ 14 ∧ ∀ p pp n H',Same H H' → ((OpN ks nds dd n true → BkAt CB H' pp n true → WtAt CW H' p pp → Q (.ref p) H') ∧ (OpN ks nds dd n false → BkAt CB H' pp n false → FdAt CF H' p pp → Q (.ref p) H'))
theorem JcL {xs : List V} {x : V} {m : Nat} (hl : xs.length = m + 1) (h : xs[m]? = some x) : atI xs (-1) = some x:=by
 unfold atI ixN
 rw [if_neg (by decide),if_pos (by omega),Option.bind_some,show (-1 + (xs.length : Int)).toNat = m by omega]
 exact h
section
variable {P : Program} {w : World} {K : PySem.W.Frag} {mg : Str → Option Value} {base : Heap} {Ji Jh J1 Jj J4 J3 J5 Jb J8 Jg Jf : Addr}
local macro_rules | `(tactic| walk_at "lk")=>`(tactic| first | exact J7Y _ _ _ | exact J61 _ _ _ | exact J6f _ _ _ | exact J6g _ | exact J8p _)
theorem J5A (tx : Tx K mg Ji Jh J1 Jj J4 J3 J5 Jb J8 Jg Jf) : MtG P w K mg base Jb "stands" 9 ["self","house","costs"] (Jd9 J1 Jg Jb):=by
 have J8l:=JaQ (P:=P) (w:=w) (base:=base) tx
 have J14:=J42 (P:=P) (w:=w) (base:=base) tx
 have J9z:=J39 (P:=P) (w:=w) (base:=base) tx
 refine tx.J5N.g tx.J2W.cl J55 (fun _ _ _ _ _ _ us hl=>match us,hl with | [_,_,_],_=>rfl) (fun vs H Q E h=>?_) (fun f cdv A outer s H vs Q E hr h=>?_)
 ·obtain ⟨p,pp,h,c,dd,ks,nds,n,rfl,_⟩:=h
  rfl
 ·obtain ⟨p,pp,h,c,dd,ks,nds,n,rfl,⟨dx,a,hp,ha⟩,hb,hop,hk,hkl,d1,d14,q⟩:=h
  refine ⟨_,(J7 (J0A (PW.pt (J4v (JbD (Jz J8l (hr.mono (by decide)) (J0 (pv 1) (J0 (Jr (K:=K) rfl (pv 0) rfl) J6))) (fun _=>rfl)) (J48 (Jx JcY (Jz J14 (hr.mono (by decide)) (J0 (pv 1) (J0 (pv 2) (J0 (Jr (K:=K) rfl (pv 0) rfl) J6)))) (Jr (K:=K) rfl (pv 0) rfl) (Jy _))))) (Jc (Jo J3A)) JB)
   (Jc (Jo (J2E J2v (J80 (P:=P) (w:=w) (K:=K) (mg:=mg) (base:=base) hr (Jr (K:=K) rfl (pv 0) rfl) (J0 (pv 1) (J0 (pv 2) J6)) rfl rfl rfl rfl rfl) (Jr (K:=K) rfl (pv 0) rfl) (Jy _))))),?_⟩
  walk_at "st"
  clear J8l J14
  have cE:=tx.J2W.cl
  have n1:=tx.J0E
  have n2:=tx.J0r
  have n3:=tx.J0s
  have d0 : 0 ≤ dd:=by omega
  have ho : ∀ d : Int,0 ≤ d → d < dd → J0M ks nds d = true:=fun d h0 h1=>by
   have:=hop.2.1 d.toNat (by have:=hop.2.2.2 rfl; omega)
   rwa [Int.toNat_of_nonneg h0] at this
  walk_at "rd"
  intro D H1 s1 nD hD
  have hp1:=s1 _ _ hp
  have ha1:=s1 _ _ ha
  have qD : SqL K H1 D []:=SqL.of hD
  obtain ⟨dxb,pq,hpp,hps⟩:=hb.same s1
  have hk1:=hk.same s1
  have k8 : 5 ≤ 8:=by decide
  refine ⟨false,.inl ⟨[],qD,rfl⟩,?_⟩
  walk_at "rd"
  intro H2 s2
  have hp2:=s2 _ _ hp1
  rw [if_neg Bool.false_ne_true]
  walk_at "rd"
  exact q H2 (s1.trans s2)
theorem J4J (tx : Tx K mg Ji Jh J1 Jj J4 J3 J5 Jb J8 Jg Jf) : MtG P w K mg base J8 "stands" 9 ["self","house","costs"] (Jd5 J1 Jg J8):=by
 have J9z:=J39 (P:=P) (w:=w) (base:=base) tx
 refine tx.J4I.g tx.J28.cl J4g (fun _ _ _ _ _ _ us hl=>match us,hl with | [_,_,_],_=>rfl) (fun vs H Q E h=>?_) (fun f cdv A outer s H vs Q E hr h=>?_)
 ·obtain ⟨p,pp,h,c,dd,ks,nds,n,rfl,_⟩:=h
  rfl
 ·obtain ⟨p,pp,h,c,dd,ks,nds,n,rfl,⟨dx,hp⟩,hb,hop,hk,hkl,d1,d14,q⟩:=h
  refine ⟨_,(Jc (Jo (J2E Jbu (J80 (P:=P) (w:=w) (K:=K) (mg:=mg) (base:=base) hr (Jr (K:=K) rfl (pv 0) rfl) (J0 (pv 1) (J0 (pv 2) J6)) rfl rfl rfl rfl rfl) J5Y (Jy _)))),?_⟩
  walk_at "st"
  have cE:=tx.J28.cl
  have n1:=tx.JX
  obtain ⟨dxb,pq,hpp,hps⟩:=hb
  have k8 : 5 ≤ 8:=by decide
  walk_at "rd"
  intro H2 s2
  rw [if_pos rfl]
  walk_at "rd"
  exact q H2 s2
theorem J52 (tx : Tx K mg Ji Jh J1 Jj J4 J3 J5 Jb J8 Jg Jf) : FnG P w K mg base "least_by_book" 7 ["house","costs"] (Jdf J1 Jg Jb J8):=by
 have J5S:=tx.J3w.g (J4T (P:=P) (w:=w) (base:=base) tx)
 have JaP:=tx.J45.g (J8i (P:=P) (w:=w) (base:=base) tx)
 have J9x:=tx.J2W.g (J7M (P:=P) (w:=w) (base:=base) tx)
 have J6J:=tx.J28.g (J5i (P:=P) (w:=w) (base:=base) tx)
 have J3m:=J56 (P:=P) (w:=w) (base:=base) tx
 have J6K:=J9Z (P:=P) (w:=w) (base:=base) tx
 have J1H:=J4s (P:=P) (w:=w) (base:=base) tx
 have J6H:=J9Y (P:=P) (w:=w) (base:=base) tx
 have J14:=J42 (P:=P) (w:=w) (base:=base) tx
 refine tx.J54.g J0a (fun _ _ _ _ _ _ us hl=>match us,hl with | [_,_],_=>rfl) (fun vs H Q E h=>?_) (fun f cdv A outer s H vs Q E hr h=>?_)
 ·obtain ⟨h,c,dd,ks,nds,rfl,_⟩:=h
  rfl
 ·obtain ⟨h,c,dd,ks,nds,rfl,hk,hkl,d1,d14,q⟩:=h
  refine ⟨_,(J7 (Jq (i:=2) J0a.nd rfl (Or.inl rfl) (J2w (r:=rWk J1 Jf) J5S (hr.mono (by decide)) JcJ (J0 (pv 0) (J0 (pv 1) J6))))
   (J7 (Jq (i:=3) J0a.nd rfl (Or.inl rfl) (Jz J3m (hr.mono (by decide)) (J0 (pv 2) J6)))
   (J7 (Jq (i:=4) J0a.nd rfl (Or.inl rfl) (J2w (r:=rBk Jg) JaP (hr.mono (by decide)) Je1 (J0 (JS (osc:=J2 JM) (ON:=["house","costs","walk","reached","book","ends","rota"]) (N:=["places"]) (js:=[none]) ⟨rfl,by decide +kernel,by decide +kernel,by decide +kernel,rfl,by decide +kernel⟩ rfl rfl rfl (Jt (K:=K) rfl (pv 3)) (fun _ _ _ _ _=>Jk (i:=0) (show List.Nodup (["places"] : List Str) from by decide +kernel) rfl (Or.inl rfl)) (fun _ _ _ _ _=>JE) (fun _ _ _ _ _=>(Jz J6K (hr.mono (by decide)) (J0 (pv 0) J6)))) J6)))
   (J7 (J3e (k:=5) (osc:=J2 JM) (ON:=["house","costs","walk","reached","book","ends","rota"]) (N:=["place","told","costs"]) (js:=[none,none,some 1]) J0a.nd rfl (Or.inl rfl) ⟨rfl,by decide +kernel,by decide +kernel,by decide +kernel,rfl,by decide +kernel⟩ rfl rfl rfl (J8o (P:=P) (w:=w) rfl rfl (JG (J2e (K:=K) rfl) (pv 3) (JcR Jba Je) (fun _ _=>rfl)) rfl rfl) (fun _ _ _ _ _=>J3x (K:=K) (i:=0) (j:=1) rfl rfl (show List.Nodup (["place","told","costs"] : List Str) from by decide +kernel) rfl rfl (Or.inl rfl) (Or.inl rfl)) (fun _ _ _ _ _=>JE) (fun _ _ _ _ _=>(J05 (J0 (Jz J1H (hr.mono (by decide)) (J0 (pv 2) (J0 (JG (Jw (K:=K) rfl) (pv 0) Je (fun _ _=>rfl)) (J0 (JG (Jw (K:=K) rfl) (pv 1) Je (fun _ _=>rfl)) J6)))) (J0 (pv 0) J6)))))
   (J7 (J0A (Jx J2v (Jv (JH (K:=K) rfl) rfl tx.J21 PySem.boot_len (J0 (pv 5) J6)) Je (Jy _)) (Jc (Jo (J2w (r:=rWth J8) J6J (hr.mono (by decide)) Jdx (J0 (pv 4) J6)))) JB)
   (J7 (Jq (i:=6) J0a.nd rfl (Or.inl rfl) (Jz J6H (hr.mono (by decide)) (J0 (pv 0) (J0 (pv 3) (J0 (JG (Jw (K:=K) rfl) (Jv (Ja9 (K:=K) rfl rfl) rfl tx.J4m J6h (J0 (pv 5) J6)) Je (fun _ _=>rfl)) J6)))))
   (Jc (Jo (J2w (r:=rFnd Jb) J9x (hr.mono (by decide)) JdK (J0 (pv 6) (J0 (Jz J14 (hr.mono (by decide)) (J0 (pv 0) (J0 (pv 1) (J0 (pv 6) J6)))) (J0 (pv 4) J6)))))))))))),?_⟩
  walk_at "st"
  clear J5S JaP J9x J6J J3m J6K J1H J6H J14
  walk_at "rd"
  intro wk H1 s1 hw1
  walk_at "rd"
  intro l n sh H2 s2 hop hrc
  have hrc0:=hrc
  obtain ⟨ds,r1,r2,r3,r4⟩:=hrc0
  walk_at "rd"
  have hll : ds.length ≤ 16:=by rw [r2]; have:=hop.1; split <;> omega
  have hnn : (n : Int) ≤ 14:=by have:=hop.1; omega
  refine J4C (pgsN n sh) (fun σ=>∃ v,σ = [v]) (by rw [J2S,← r2]; omega) ⟨_,rfl⟩ (fun i H' s' hi=>?_) (fun H' s'=>⟨ds.map V.ref,SqL.of (s' _ _ r1),by rw [List.length_map,J2S,r2]; exact Nat.le_refl _⟩) (fun i a σ x H' H'' ha hσ s' hy Rt hR=>?_) (fun D H3 nD s3 hD=>?_)
  ·rw [J2S,← r2] at hi
   exact ⟨ds.map V.ref,.ref ds[i],SqL.of (s' _ _ r1),by rw [List.getElem?_map,List.getElem?_eq_getElem hi]; rfl⟩
  ·obtain ⟨v,rfl⟩:=hσ
   obtain ⟨rfl,hy⟩:=hy
   have hx:=hy _ (SqL.of (s' _ _ r1))
   have hi : i < ds.length:=by
    rcases Nat.lt_or_ge i ds.length with z | z
    ·exact z
    ·rw [List.getElem?_eq_none (by rw [List.length_map]; exact z)] at hx; cases hx
   have hti : ds[i]? = some ds[i]:=List.getElem?_eq_getElem hi
   rw [List.getElem?_map,hti] at hx
   obtain rfl : V.ref ds[i] = x:=Option.some.inj hx
   obtain ⟨o,ho0,ho1,hoa⟩ : ∃ o : Bool,(o = false → DAt P w H'' ds[i] []) ∧ (o = true → ∃ x,PlAt P w H'' ds[i] x) ∧ a = (if o = true then [(e0,0)] else []):=by
    rcases Nat.lt_or_ge n i with y | y
    ·cases sh with
     | false=>exact absurd r2 (by simp; omega)
     | true =>
     obtain rfl : i = n + 1:=by simp at r2; omega
     rw [J5f] at ha
     exact ⟨false,fun _=>(r4 rfl _ hti).same s',fun h=>(by cases h),(Option.some.inj ha).symm⟩
    ·rw [J4E y] at ha
     obtain ⟨x,g1,g2⟩:=r3 i _ y hti
     exact ⟨true,fun h=>(by cases h),fun _=>⟨x,g1.same s'⟩,(Option.some.inj ha).symm⟩
   walk_at "rd"
   intro t H4 s4 nt pg
   rw [← hoa] at pg
   exact hR _ t H4 ⟨_,rfl⟩ s4 nt pg
  ·have hpl : (pgsN n sh).length ≤ 1000:=by rw [J2S,← r2]; omega
   walk_at "rd"
   intro pp dxp pq H4 s4 hpp hps
   have hb4 : BkAt Jg H4 pp n sh:=⟨dxp,pq,hpp,hps⟩
   have S24:=s3.trans s4
   have S4:=(s1.trans s2).trans S24
   have hrc4:=hrc.same S24
   have r14:=S24 _ _ r1
   have hk4:=hk.same S4
   have hmm : (ds.map V.ref).length ≤ 1000:=by rw [List.length_map]; omega
   cases sh with
   | true =>
    have r2t : ds.length = n + 1 + 1:=r2
    have hti : ds[n + 1]? = some ds[n + 1]:=List.getElem?_eq_getElem (by omega)
    have hdA:=(r4 rfl _ hti).same S24
    have ha : atI (ds.map V.ref) (-1) = some (.ref ds[n + 1]):=JcL (m:=n + 1) (by rw [List.length_map]; exact r2t) (by rw [List.getElem?_map,hti]; rfl)
    obtain ⟨⟨ep,hdp⟩,_⟩:=hdA
    walk_at "rd"
    refine JD (fun H' s'=>⟨s' _ _ hdp,Nat.le_refl _⟩) fun D5 H5 nD5 s5 hD5=>?_
    walk_at "rd"
    intro p6 dx6 H6 s6 h6
    exact (q p6 pp n H6 (S4.trans (s5.trans s6))).1 hop (hb4.same (s5.trans s6)) ⟨dx6,h6⟩
   | false =>
    have r2t : ds.length = n + 1:=r2
    have hti : ds[n]? = some ds[n]:=List.getElem?_eq_getElem (by omega)
    obtain ⟨x,hpl0,_⟩:=r3 n _ (Nat.le_refl _) hti
    obtain ⟨b,tt,hdA,htt⟩:=hpl0.same S24
    have ha : atI (ds.map V.ref) (-1) = some (.ref ds[n]):=JcL (m:=n) (by rw [List.length_map]; exact r2t) (by rw [List.getElem?_map,hti]; rfl)
    have hbA:=hdA.2 _ (List.mem_singleton_self _)
    obtain ⟨⟨ep,hdp⟩,_⟩:=hdA
    walk_at "rd"
    refine J76 [()] (fun D _ y H=>∃ pr,pr ≠ D ∧ y = .ref pr ∧ H pr = some (.tup [.int 0,.ref b])) (fun σ=>∃ v1 v2,σ = [v1,v2,some c]) (show 1 ≤ 1000000 by decide) ⟨_,_,rfl⟩ (fun i H' s' hi=>⟨s' _ _ hdp,hi⟩) (fun H' s'=>⟨s' _ _ hdp,Nat.le_refl _⟩) (fun D a y Ha Hb bt ⟨pr,npr,e,h⟩=>⟨pr,npr,e,bt _ _ npr h⟩) (fun D i a σ x' H' H'' nD' hD' ha' hσ s' hy Rt hR=>?_) (fun D5 H5 ys nD5 s5 hA hD5=>?_)
    ·obtain ⟨v1,v2,rfl⟩:=hσ
     obtain ⟨zs,hD'⟩:=hD'
     obtain ⟨pt,e',npt,ee,rfl,rfl⟩:=hy
     obtain rfl : (e0,b,V.ref tt) = e':=by
      rcases i with _ | i
      ·exact Option.some.inj ee
      ·simp at ee
     obtain ⟨H6,e6,y6,s6⟩:=newt (xs:=[V.ref b,V.ref tt]) npt
     have s6':=s'.trans s6
     obtain ⟨xa,xb,g1,g2,g3⟩:=hbA.same fun c ys=>s6' c _
     have g3' : H6 xb = some (.tup []):=g3
     have htt6:=s6' _ _ htt
     have x1:=at1 (V.ref xa) (V.ref xb)
     have x2:=at30 (V.int 0) x (T [])
     show (gTup K 2 (J8Q (J3V 0) (J8Q (J3V 1) gNil))) (V.ref pt) _ (upd H' pt (.tup [V.ref b,V.ref tt])) _
     rw [← e6]
     walk_at "rd"
     intro H7 s7
     walk_at "rd"
     intro pr npr
     generalize e8 : upd H7 pr _ = H8
     obtain ⟨y8,s8⟩:=J06 npr e8
     refine hR _ (.ref pr) H8 ⟨_,_,rfl⟩ ((s6.trans s7).trans s8) ⟨pr,fun z=>?_,rfl,y8⟩
     have:=(s6.trans s7) _ _ hD'
     rw [← z,npr] at this
     cases this
    ·match ys,hA,hD5 with
     | [],hA,_=>exact hA.elim
     | _ :: _ :: _,hA,_=>exact hA.2.elim
     | [y],hA,hD5 =>
     obtain ⟨⟨pr,npr,rfl,hpr⟩,_⟩:=hA
     have hb5 : JL H5 b e0:=hbA.same fun c ys=>s5 c _
     have hrc5:=hrc4.same s5
     have hk5:=hk4.same s5
     have hnd:=hop.2.2.2 rfl
     have x1:=at1 (V.int 0) (V.ref b)
     walk_at "rd"
     intro D6 H6 s6 nD6 hD6
     walk_at "rd"
     intro p7 dx7 a7 H7 s7 h7 ha7 na7
     have S47:=(s5.trans s6).trans s7
     exact (q p7 pp n H7 (S4.trans S47)).2 hop (hb4.same S47) ⟨dx7,a7,h7,ha7⟩
end
theorem Jbz {n i a : Nat} (h : (List.range n)[i]? = some a) : a = i ∧ i < n:=by
 have hi:=(List.getElem?_eq_some_iff.mp h).1
 rw [List.length_range] at hi
 rw [List.getElem?_range hi] at h
 exact ⟨(Option.some.inj h).symm,hi⟩
theorem J4F {α β : Type} (f : α → β) : ∀ {l : List α},l.Nodup → (∀ x ∈ l,∀ y ∈ l,f x = f y → x = y) → (l.map f).Nodup
 | [],_,_=>List.nodup_nil
 | x :: l,hn,h=>by
  obtain ⟨h1,h2⟩:=List.nodup_cons.mp hn
  rw [List.map_cons,List.nodup_cons]
  refine ⟨fun hm=>?_,J4F f h2 fun y hy z hz=>h y (List.mem_cons_of_mem _ hy) z (List.mem_cons_of_mem _ hz)⟩
  obtain ⟨y,hy,e⟩:=List.mem_map.mp hm
  rw [h y (List.mem_cons_of_mem _ hy) x List.mem_cons_self e] at hy
  exact h1 hy
theorem JcB (a b c e : Int) (i : Int) (h0 : 0 ≤ i) (h : i < 4) : ∃ z : Int,atI [V.int a,V.int b,V.int c,V.int e] i = some (.int z) ∧ (z = a ∨ z = b ∨ z = c ∨ z = e):=by
 obtain ⟨v,h1,h2⟩:=J84 [V.int a,V.int b,V.int c,V.int e] i h0 h
 have hm:=List.mem_of_getElem? h2
 simp only [List.mem_cons,List.not_mem_nil,or_false] at hm
 rcases hm with rfl | rfl | rfl | rfl
 all_goals exact ⟨_,h1,by simp⟩
structure NdI (ks : List Nat) (i j : Nat) (nds : List Nd) : Prop where
 b : ∀ n ∈ nds,0 ≤ n.day ∧ (n.day < (i : Int) ∨ (n.day = (i : Int) ∧ ∃ j',j' < j ∧ ks[j']? = some n.kind)) ∧ n.kind ∈ ks ∧ 0 ≤ n.least ∧ 0 ≤ n.most
 u : ∀ n ∈ nds,∀ m ∈ nds,n.day = m.day → n.kind = m.kind → n = m
 l : nds.length ≤ 4 * i + j
theorem NdI.nil (ks : List Nat) : NdI ks 0 0 []:=⟨fun n h=>(by cases h),fun n h=>(by cases h),Nat.le_refl _⟩
theorem NdI.day {ks : List Nat} {i j : Nat} {nds : List Nd} (h : NdI ks i j nds) (hj : j ≤ 4) : NdI ks (i + 1) 0 nds:=by
 refine ⟨fun n hn=>?_,h.u,by have:=h.l; omega⟩
 obtain ⟨a,b,c⟩:=h.b n hn
 exact ⟨a,.inl (by rcases b with b | ⟨b,_⟩ <;> omega),c⟩
theorem NdI.skip {ks : List Nat} {i j : Nat} {nds : List Nd} (h : NdI ks i j nds) : NdI ks i (j + 1) nds:=by
 refine ⟨fun n hn=>?_,h.u,by have:=h.l; omega⟩
 obtain ⟨a,b,c⟩:=h.b n hn
 exact ⟨a,b.imp id fun ⟨b,j',b1,b2⟩=>⟨b,j',by omega,b2⟩,c⟩
theorem Je3 {ks : List Nat} (h : ks.Nodup) {i j : Nat} {k : Nat} (hi : ks[i]? = some k) (hj : ks[j]? = some k) : i = j:=by
 obtain ⟨a,_⟩:=List.getElem?_eq_some_iff.mp hi
 exact (List.getElem?_inj a h).mp (hi.trans hj.symm)
theorem NdI.add {ks : List Nat} {i j : Nat} {nds : List Nd} (h : NdI ks i j nds) (hn : ks.Nodup) {k : Nat} (hk : ks[j]? = some k) {l m : Int} (hl : 0 ≤ l) (hm : 0 ≤ m) : NdI ks i (j + 1) (nds ++ [⟨(i : Int),k,l,m⟩]):=by
 have no : ∀ n ∈ nds,n.day = (i : Int) → n.kind = k → False:=fun n hn' e1 e2=>by
  obtain ⟨_,b,_⟩:=h.b n hn'
  rcases b with b | ⟨_,j',b1,b2⟩
  ·omega
  ·rw [e2] at b2
   have:=Je3 hn b2 hk
   omega
 refine ⟨fun n hn'=>?_,fun n h1 m h2 e1 e2=>?_,by rw [List.length_append,List.length_singleton]; have:=h.l; omega⟩
 ·rcases List.mem_append.mp hn' with z | z
  ·exact h.skip.b n z
  ·rw [List.mem_singleton.mp z]
   exact ⟨Int.natCast_nonneg i,.inr ⟨rfl,j,Nat.lt_succ_self j,hk⟩,List.mem_of_getElem? hk,hl,hm⟩
 ·rcases List.mem_append.mp h1 with z1 | z1 <;> rcases List.mem_append.mp h2 with z2 | z2
  ·exact h.u n z1 m z2 e1 e2
  ·rw [List.mem_singleton.mp z2] at e1 e2
   exact (no n z1 e1 e2).elim
  ·rw [List.mem_singleton.mp z1] at e1 e2
   exact (no m z2 e1.symm e2.symm).elim
  ·rw [List.mem_singleton.mp z1,List.mem_singleton.mp z2]
noncomputable def JbZ : Sp:=fun vs H Q _=>∃ (c m : Int),vs = [.int c,.int m] ∧ 0 ≤ m ∧ m ≤ 4 ∧ ∀ (ks : List Nat) (H' : Hp),Same H H' → (ks.length : Int) = m → ks.Nodup → Q (T ks) H'
noncomputable def Jc1 (K : PySem.W.Frag) : Sp:=fun vs H Q _=>∃ (sc : Addr) (ns : List Int) (dd : Int) (ks : List Nat),vs = [.ref sc,.int dd,T ks] ∧ SqL K H sc (ns.map V.int) ∧ 0 ≤ dd ∧ dd ≤ 14 ∧ ks.length ≤ 4 ∧ ks.Nodup ∧ ∀ (a : Addr) (H' : Hp) (nds : List Nd) (xs : List V),Same H H' → H a = none → H' a = some (.lst xs) → All2 NdAt H' nds xs → NdI ks dd.toNat 0 nds → Q (.ref a) H'
noncomputable def JaG (CH : Addr) : Sp:=fun vs H Q _=>∃ (c : Int) (h : Addr) (dd : Int) (ks : List Nat) (nds : List Nd),vs = [.int c,.ref h] ∧ Hn CH H h dd ks nds ∧ ∀ p H',Same H H' → Q (.ref p) H'
noncomputable def JaN : Sp:=fun vs H Q _=>∃ (n : Nat) (sh : Bool) (dd st : Int),vs = [.int dd,.int st] ∧ n ≤ 14 ∧ st = n ∧ (sh = true → st < dd) ∧ (sh = false → dd = n) ∧ ∀ D H',Same H H' → PsAt H' D (pgsN n sh) → Q (.ref D) H'
theorem JcK {H : Hp} {x : V} {v : Option V} {Rt : St → V → Hp → Prop} (hR : ∀ σ2 t H4,(∃ v,σ2 = [v]) → Same H H4 → H t = none → PgAt H4 t [(e0,(0 : Int))] → Rt σ2 (.ref t) H4) :
  J3V 0 x [v] H fun σ2 H2=>tLst (J6M (tTup (J6M (tTup tNil) (J6M (tTup tNil) (J6M (tC (V.int 0)) tNil)))) tNil) σ2 H2 (fun y H4=>Rt σ2 y H4):=by
 walk_at "rd"
 intro a na
 obtain ⟨H1,e1,y1,s1⟩:=newt (xs:=[]) na
 rw [← e1]
 walk_at "rd"
 intro b nb
 obtain ⟨H2,e2,y2,s2⟩:=newt (xs:=[]) nb
 rw [← e2]
 have l3 : [V.ref a,V.ref b,V.int 0].length ≤ sizeLine:=show 3 ≤ sizeLine by decide
 walk_at "rd"
 intro t nt
 obtain ⟨H3,e3,y3,s3⟩:=newt (xs:=[V.ref a,V.ref b,V.int 0]) nt
 rw [← e3]
 have l1 : [V.ref t].length ≤ sizeLine:=show 1 ≤ sizeLine by decide
 walk_at "rd"
 intro l nl
 obtain ⟨H4,e4,y4,s4⟩:=newl (xs:=[V.ref t]) nl
 rw [← e4]
 have S3:=(s1.trans s2).trans s3
 refine hR _ l H4 ⟨_,rfl⟩ (S3.trans s4) (S3.free nl) ⟨[t],y4,rfl,fun i t' e h1 h2=>?_⟩
 rcases i with _ | i
 ·obtain rfl : t = t':=Option.some.inj h1
  obtain rfl : (e0,0) = e:=Option.some.inj h2
  exact ⟨a,b,s4 _ _ y3,((s2.trans s3).trans s4) _ _ y1,(s3.trans s4) _ _ y2⟩
 ·simp at h1
section
variable {P : Program} {w : World} {K : PySem.W.Frag} {mg : Str → Option Value} {base : Heap} {Ji Jh J1 Jj J4 J3 J5 Jb J8 Jg Jf : Addr}
theorem J3O (tx : Tx K mg Ji Jh J1 Jj J4 J3 J5 Jb J8 Jg Jf) : FnG P w K mg base "_law_cell_at" 1 ["_law_script","_law_k"] (JaF K):=by
 refine tx.J6C.g J5x (fun _ _ _ _ _ _ us hl=>match us,hl with | [_,_],_=>rfl) (fun vs H Q E h=>?_) (fun f cdv A outer s H vs Q E hr h=>?_)
 ·obtain ⟨a,ns,k,rfl,_⟩:=h
  rfl
 ·obtain ⟨a,ns,k,rfl,hS,h0,q⟩:=h
  refine ⟨_,(J7 (J0A (Jx J5X (pv 1) (Jv (JH (K:=K) rfl) rfl tx.J21 PySem.boot_len (J0 (pv 0) J6)) (Jy _)) (Jc (Jo (JG (J2e (K:=K) rfl) (pv 0) (pv 1) (fun _ _=>rfl)))) JB)
   (Jc (Jo Je))),?_⟩
  walk_at "st"
  walk_at "rd"
  refine ite2 (fun c=>?_) (fun c=>?_)
  ·have c' : k < ((ns.map V.int).length : Int):=of_decide_eq_true c
   rw [List.length_map] at c'
   have hv:=Jb5 h0 c'
   walk_at "rd"
   exact q
  ·have c' : ¬ k < ((ns.map V.int).length : Int):=of_decide_eq_false (Bool.eq_false_iff.mpr c)
   rw [List.length_map] at c'
   walk_at "rd"
   rw [Jbr (by omega)] at q
   exact q
theorem J8h (tx : Tx K mg Ji Jh J1 Jj J4 J3 J5 Jb J8 Jg Jf) : FnG P w K mg base "_law_whole" 1 ["_law_found"] JaL:=by
 refine tx.J8b.g J7D (fun _ _ _ _ _ _ us hl=>match us,hl with | [_],_=>rfl) (fun vs H Q E h=>?_) (fun f cdv A outer s H vs Q E hr h=>?_)
 ·obtain ⟨n,rfl,_⟩:=h
  rfl
 ·obtain ⟨n,rfl,q⟩:=h
  refine ⟨_,(Jc (Jo (J83 (Jv J6Q rfl tx.J01 J1o (J0 (pv 0) (J0 (JcT tx.J8e JaB) J6))) (J9n (JdS (Jv J6Q rfl tx.J01 J1o (J0 (pv 0) (J0 (JcT tx.J5q J9w) J6)))))))),?_⟩
  walk_at "st"
  walk_at "rd"
  exact q
theorem J88 (tx : Tx K mg Ji Jh J1 Jj J4 J3 J5 Jb J8 Jg Jf) : FnG P w K mg base "_law_kinds" 1 ["_law_cell","_law_many"] JbZ:=by
 refine tx.J8a.g J4q (fun _ _ _ _ _ _ us hl=>match us,hl with | [_,_],_=>rfl) (fun vs H Q E h=>?_) (fun f cdv A outer s H vs Q E hr h=>?_)
 ·obtain ⟨c,mm,rfl,_⟩:=h
  rfl
 ·obtain ⟨c,mm,rfl,m0,m4,q⟩:=h
  refine ⟨_,(J7 (Jq (i:=2) J4q.nd rfl (Or.inr rfl) (J3f (l:=[65,66,67,68,69,70,71,72,73,74,75,76,77,78,79,80,81,82,83,84,85,86,87,88,89,90]) (by decide +kernel)))
   (Jc (Jo (Jbk (K:=K) rfl (J3f (l:=[]) (by decide +kernel)) (J0 (JS (osc:=J2 J15) (ON:=["_law_cell","_law_many","_law_letters"]) (N:=["_law_k","_law_letters","_law_cell"]) (js:=[none,some 2,some 0]) ⟨rfl,by decide +kernel,by decide +kernel,by decide +kernel,rfl,by decide +kernel⟩ rfl rfl rfl (J0X rfl tx.J0x (J0 (pv 1) J6)) (fun _ _ _ _ _=>Jk (i:=0) (show List.Nodup (["_law_k","_law_letters","_law_cell"] : List Str) from by decide +kernel) rfl (Or.inl rfl)) (fun _ _ _ _ _=>JE) (fun _ _ _ _ _=>(JG J97 (pv 1) (JI J1X (JI J1s (pv 2) (JI Jb6 Je (pv 0))) Je) (fun _ _=>rfl)))) J6))))),?_⟩
  walk_at "st"
  walk_at "rd"
  generalize em : mm.toNat = m
  have hm : m ≤ 4:=by omega
  refine J2s (List.range m) (fun _=>true) (fun (i : Nat) y _=>y = T [cap ((c + 7 * (0 + (i : Int))) % 26)]) (fun σ=>∃ v,σ = [v,some (T ABC),some (.int c)]) (J8v 0 _) (by rw [List.length_map]) (by rw [List.length_range]; omega) ⟨_,rfl⟩ (fun _ _ _ _ _ z=>z) (fun i a v σ H' ha hv hσ s' Rf Rt _ hR=>?_) (fun D H2 ys nD s2 hys hD=>?_)
  ·obtain ⟨w1,rfl⟩:=hσ
   obtain ⟨rfl,hal⟩:=Jbz ha
   rw [List.getElem?_map,List.getElem?_range (by omega)] at hv
   cases hv
   have hl:=JdE ((c + 7 * (0 + (a : Int))) % 26) (Int.emod_nonneg _ (by decide)) (Int.emod_lt_of_pos _ (by decide))
   walk_at "rd"
   exact hR _ _ _ rfl ⟨_,rfl⟩ (Same.refl _) rfl
  rw [List.filter_eq_self.mpr fun _ _=>rfl] at hys
  have ey : ys = (((List.range m).map fun (i : Nat)=>cap ((c + 7 * (0 + (i : Int))) % 26)).map fun c=>[c]).map T:=by
   rw [List.map_map,List.map_map]
   exact hys.eqmap fun a y h=>h
  have hl : ((List.range m).map fun (i : Nat)=>cap ((c + 7 * (0 + (i : Int))) % 26)).length = m:=by rw [List.length_map,List.length_range]
  have hn : ((List.range m).map fun (i : Nat)=>cap ((c + 7 * (0 + (i : Int))) % 26)).Nodup:=J4F _ List.nodup_range fun x hx y hy e=>by
   have h1:=List.mem_range.mp hx
   have h2:=List.mem_range.mp hy
   have a:=Int.emod_nonneg (c + 7 * (0 + (x : Int))) (show (26 : Int) ≠ 0 by decide)
   have b:=Int.emod_nonneg (c + 7 * (0 + (y : Int))) (show (26 : Int) ≠ 0 by decide)
   unfold cap at e
   omega
  generalize ((List.range m).map fun (i : Nat)=>cap ((c + 7 * (0 + (i : Int))) % 26)) = ks at ey hl hn
  rw [ey] at hD
  have hD3 : SqL K H2 D ((ks.map fun c=>[c]).map T):=SqL.of hD
  have hjl : (((ks.map fun c=>[c]).map List.length).sum + (ks.map fun c=>[c]).length * ([] : List Nat).length ≤ 16777216):=by
   rw [J8A,List.length_map,List.length_nil,Nat.mul_zero]
   omega
  walk_at "rd"
  rw [J79,J6N]
  exact q ks H2 s2 (by omega) hn
theorem J87 (tx : Tx K mg Ji Jh J1 Jj J4 J3 J5 Jb J8 Jg Jf) : FnG P w K mg base "_law_needs" 2 ["_law_script","_law_days","_law_kinds_here"] (Jc1 K):=by
 have JR:=J3O (P:=P) (w:=w) (base:=base) tx
 refine tx.J8f.g J0G (fun _ _ _ _ _ _ us hl=>match us,hl with | [_,_,_],_=>rfl) (fun vs H Q E h=>?_) (fun f cdv A outer s H vs Q E hr h=>?_)
 ·obtain ⟨sc,ns,dd,ks,rfl,_⟩:=h
  rfl
 ·obtain ⟨sc,ns,dd,ks,rfl,hS,d0,d14,hk,hkn,q⟩:=h
  refine ⟨_,(J7 (Jq (i:=3) J0G.nd rfl (Or.inl rfl) (JP J6))
   (J7 (J03 PassesOwn.never rfl (J0X rfl tx.J0x (J0 (pv 1) J6)) (Jk (i:=4) J0G.nd rfl (Or.inl rfl)) (J7 (Jq (i:=5) J0G.nd rfl (Or.inl rfl) (Jz JR (hr.mono (by decide)) (J0 (pv 0) (J0 (JI J1s Je (pv 4)) J6))))
   (Jc (J03 PassesOwn.never rfl (J0X rfl tx.J0x (J0 (Jv Jau rfl tx.J21 PySem.boot_len (J0 (pv 2) J6)) J6)) (Jk (i:=6) J0G.nd rfl (Or.inl rfl)) (J7 (Jq (i:=7) J0G.nd rfl (Or.inl rfl) (JI J1X (JI J3d (pv 5) (JG (J2e (K:=K) rfl) (JP (J0 Je (J0 Je (J0 Je (J0 Je J6))))) (pv 6) (fun _ _=>rfl))) Je))
   (Jc (J0A (Jx J6X (JI J1X (pv 7) Je) Je (Jy _)) (J7 (Jq (i:=8) J0G.nd rfl (Or.inl rfl) (JI Jb6 (JI J3d (JI J3d (pv 7) Je) Je) (JI J1s Je (JI J1X (pv 4) Je))))
   (Jc (J5e (J7c PySem.F.plainAttrs_list PySem.F.slot_list_append PySem.F.type_list_append J2i (pv 3) (J0 (J05 (J0 (pv 4) (J0 (JG J97 (pv 2) (pv 6) (fun _ _=>rfl)) (J0 (pv 8) (J0 (Jv (J6Y rfl) rfl tx.J4m J6h (J0 Je (J0 (JI J1s (pv 8) (JI J1X (JI J3d (pv 7) Je) Je)) J6))) J6))))) J6))))) JB)))))))
   (Jc (Jo (pv 3))))),?_⟩
  walk_at "st"
  clear JR
  have hk' : ks.length ≤ 1000:=by omega
  walk_at "rd"
  intro nl fnl
  obtain ⟨H1,e1,ynl,s1⟩:=newl (xs:=[]) fnl
  rw [← e1]
  walk_at "rd"
  refine J2U (lo:=0) (n:=dd.toNat) (fun i σ H2=>Here (∃ (v4 v5 v6 v7 v8 : Option V) (nds : List Nd) (xs : List V),σ = [some (.ref sc),some (.int dd),some (T ks),some (.ref nl),v4,v5,v6,v7,v8] ∧ Same H H2 ∧ H2 nl = some (.lst xs) ∧ All2 NdAt H2 nds xs ∧ NdI ks i 0 nds)) (Here.mk ⟨none,none,none,none,none,[],[],rfl,s1,ynl,trivial,NdI.nil ks⟩) ?_ ?_
  ·rintro i σ H2 hi hv
   obtain ⟨v4,v5,v6,v7,v8,nds,xs,rfl,S2,ynl2,aN,hD⟩:=hv.out
   clear hv
   have hS2:=S2.seq hS
   have k0 : 0 ≤ 5 + (0 + (i : Int)):=by omega
   walk_at "rd"
   refine J2U (lo:=0) (n:=ks.length) (fun j σ H3=>Here (∃ (v6 v7 v8 : Option V) (nds : List Nd) (xs : List V),σ = [some (.ref sc),some (.int dd),some (T ks),some (.ref nl),some (.int (0 + (i : Int))),some (.int (J2d ns (5 + (0 + (i : Int))))),v6,v7,v8] ∧ Same H H3 ∧ H3 nl = some (.lst xs) ∧ All2 NdAt H3 nds xs ∧ NdI ks i j nds)) (Here.mk ⟨_,_,_,nds,xs,rfl,S2,ynl2,aN,hD⟩) ?_ ?_
   ·clear aN hD ynl2 S2 hS2
    rintro j σ H3 hj hv
    obtain ⟨v6,v7,v8,nds,xs,rfl,S3,ynl3,aN,hD⟩:=hv.out
    clear hv
    have hkj : ks[j]? = some ks[j]:=List.getElem?_eq_getElem hj
    have g1 : atI ks (0 + (j : Int)) = some ks[j]:=by rw [Int.zero_add]; exact J2D hkj
    generalize ks[j] = kk at g1 hkj
    generalize J2d ns (5 + (0 + (i : Int))) = cc
    have hxl:=aN.len
    have hdl:=hD.l
    have hxl' : xs.length ≤ 1000:=by omega
    obtain ⟨z1,hz1,hz⟩:=JcB 1 40 1600 64000 (0 + (j : Int)) (by omega) (by omega)
    have hz0 : z1 ≠ 0:=by omega
    walk_at "rd"
    intro l1 f1
    generalize e2 : upd H3 l1 _ = H4
    obtain ⟨y1,s4⟩:=J06 f1 e2
    have o0:=Int.emod_nonneg (cc / z1) (show (40 : Int) ≠ 0 by decide)
    have o1:=Int.emod_lt_of_pos (cc / z1) (show (0 : Int) < 40 by decide)
    have S4:=S3.trans s4
    have ynl4:=s4 _ _ ynl3
    have aN4:=aN.imp fun a y=>NdAt.keeps a y _ _ s4.keeps
    walk_at "rd"
    refine ite2 (fun _=>?_) (fun _=>?_)
    ·generalize eo : cc / z1 % 40 = one at o0 o1
     have l0 : 0 ≤ one / 4 / 9:=by omega
     have l1 : one / 4 / 9 ≤ 1:=by omega
     have m0 : 0 ≤ one / 4 % 9:=by omega
     have m1 : one / 4 % 9 < 9:=by omega
     have q0 : 0 ≤ (0 + (i : Int)) % 8:=by omega
     have q1 : (0 + (i : Int)) % 8 < 8:=by omega
     have ll0 : 0 ≤ one / 4 / 9 * (1 + (0 + (i : Int)) % 8):=Int.mul_nonneg l0 (by omega)
     have rng : ((0 + (j : Int)) : Int) < ks.length:=by omega
     have mm0 : 0 ≤ (if one / 4 / 9 * (1 + (0 + (i : Int)) % 8) + one / 4 % 9 < 8 then one / 4 / 9 * (1 + (0 + (i : Int)) % 8) + one / 4 % 9 else 8):=by split <;> omega
     walk_at "rd"
     intro t nt
     generalize e5 : upd H4 t _ = H5
     obtain ⟨y5,s5⟩:=J06 nt e5
     have ynl5:=s5 _ _ ynl4
     have kp : J3o H5 (upd H5 nl (.lst (xs ++ [.ref t]))):=J75 ynl5
     walk_at "rd"
     refine Here.mk ⟨_,_,_,nds ++ [⟨(i : Int),kk,_,_⟩],_,rfl,(S4.trans s5).upd fnl,Jd,(aN4.imp fun a y=>NdAt.keeps a y _ _ (s5.keeps.trans kp)).snoc ⟨t,rfl,kp _ _ (y5.trans ?_) (fun zs z=>by cases z)⟩,hD.add hkn hkj ll0 mm0⟩
     rw [Int.zero_add]
    ·exact Here.mk ⟨_,_,_,nds,xs,rfl,S4,ynl4,aN4,hD.skip⟩
   ·rintro σ H3 hv
    obtain ⟨v6,v7,v8,nds,xs,rfl,S3,ynl3,aN,hD⟩:=hv.out
    exact Here.mk ⟨_,_,_,_,_,nds,xs,rfl,S3,ynl3,aN,hD.day hk⟩
  ·rintro σ H2 hv
   obtain ⟨v4,v5,v6,v7,v8,nds,xs,rfl,S2,ynl2,aN,hD⟩:=hv.out
   walk_at "rd"
   exact q nl H2 nds xs S2 fnl ynl2 aN hD
theorem J8k (tx : Tx K mg Ji Jh J1 Jj J4 J3 J5 Jb J8 Jg Jf) : FnG P w K mg base "_law_costs" 4 ["_law_cell","_law_house"] (JaG J1):=by
 have J4W:=tx.J3v.g (J4M (P:=P) (w:=w) (base:=base) tx)
 have J3M:=tx.J2G.g (J44 (P:=P) (w:=w) (base:=base) tx)
 have J4o:=tx.J2Y.g (J4h (P:=P) (w:=w) (base:=base) tx)
 refine tx.J8n.g J7h (fun _ _ _ _ _ _ us hl=>match us,hl with | [_,_],_=>rfl) (fun vs H Q E h=>?_) (fun f cdv A outer s H vs Q E hr h=>?_)
 ·obtain ⟨c,h,dd,ks,nds,rfl,_⟩:=h
  rfl
 ·obtain ⟨c,h,dd,ks,nds,rfl,hk,q⟩:=h
  refine ⟨_,(J7 (J0A (Jx J2v (JI J1X (pv 0) Je) Je (Jy _)) (Jc (Jo (J2w (r:=JcP J1) J4W (hr.mono (by decide)) Jcx (J0 (pv 1) J6)))) JB)
   (J7 (J0A (Jx J2v (JI J1X (pv 0) Je) Je (Jy _)) (Jc (Jo (J2w (r:=JcO) J3M (hr.mono (by decide)) Jcp (J0 (pv 1) (J0 (JP J6) J6))))) JB)
   (J7 (J0A (Jx J2v (JI J1X (pv 0) Je) Je (Jy _)) (Jc (Jo (J2w (r:=JcV J1) J4o (hr.mono (by decide)) Jcd (J0 (pv 1) (J0 (JI J1X (JI J3d (pv 0) Je) (JI Jc5 Je Je)) J6))))) JB)
   (Jc (Jo (Jdl (K:=K) rfl tx.J7i.makes tx.J7i.kp tx.J3u tx.J7i.mg)))))),?_⟩
  walk_at "st"
  clear J4W J3M J4o
  walk_at "rd"
  refine ite2 (fun _=>?_) (fun _=>?_)
  ·walk_at "rd"
   exact q
  walk_at "rd"
  refine ite2 (fun _=>?_) (fun _=>?_)
  ·walk_at "rd"
   intro l nl
   obtain ⟨H1,e1,y1,s1⟩:=newl (xs:=[]) nl
   rw [← e1]
   walk_at "rd"
   exact fun p H' s'=>q p H' (s1.trans s')
  walk_at "rd"
  refine ite2 (fun _=>?_) (fun _=>?_)
  ·have p40 : (0 : Int) < 10 ^ Int.toNat 40:=by decide
   walk_at "rd"
   exact q
  intro x dx nx nd _
  exact q x _ fun a v e=>J1Z nx nd e
theorem J89 (tx : Tx K mg Ji Jh J1 Jj J4 J3 J5 Jb J8 Jg Jf) : FnG P w K mg base "_law_pages" 1 ["_law_days","_law_shut"] JaN:=by
 refine tx.J8j.g J7K (fun _ _ _ _ _ _ us hl=>match us,hl with | [_,_],_=>rfl) (fun vs H Q E h=>?_) (fun f cdv A outer s H vs Q E hr h=>?_)
 ·obtain ⟨n,sh,dd,st,rfl,_⟩:=h
  rfl
 ·obtain ⟨n,sh,dd,st,rfl,hn,rfl,hs1,hs0,q⟩:=h
  refine ⟨_,(J7 (J0A (Jx J5X (pv 1) (pv 0) (Jy _)) (Jc (Jo (JI Jdq (JS (osc:=J2 J0B) (ON:=["_law_days","_law_shut"]) (N:=["_law_day"]) (js:=[none]) ⟨rfl,by decide +kernel,by decide +kernel,by decide +kernel,rfl,by decide +kernel⟩ rfl rfl rfl (J0X rfl tx.J0x (J0 (JI J1s (pv 1) Je) J6)) (fun _ _ _ _ _=>Jk (i:=0) (show List.Nodup (["_law_day"] : List Str) from by decide +kernel) rfl (Or.inl rfl)) (fun _ _ _ _ _=>JE) (fun _ _ _ _ _=>(JP (J0 (J05 (J0 (J05 J6) (J0 (J05 J6) (J0 Je J6)))) J6)))) (JP (J0 (JP J6) J6))))) JB)
   (Jc (Jo (JS (osc:=J2 J0B) (ON:=["_law_days","_law_shut"]) (N:=["_law_day"]) (js:=[none]) ⟨rfl,by decide +kernel,by decide +kernel,by decide +kernel,rfl,by decide +kernel⟩ rfl rfl rfl (J0X rfl tx.J0x (J0 (JI J1s (pv 0) Je) J6)) (fun _ _ _ _ _=>Jk (i:=0) (show List.Nodup (["_law_day"] : List Str) from by decide +kernel) rfl (Or.inl rfl)) (fun _ _ _ _ _=>JE) (fun _ _ _ _ _=>(JP (J0 (J05 (J0 (J05 J6) (J0 (J05 J6) (J0 Je J6)))) J6))))))),?_⟩
  walk_at "st"
  walk_at "rd"
  refine ite2 (fun z=>?_) (fun z=>?_)
  ·have z' : (n : Int) < dd:=of_decide_eq_true z
   obtain rfl : sh = true:=by
    cases sh with
    | true=>rfl
    | false=>exact absurd (hs0 rfl) (by omega)
   have em : ((n : Int) + 1).toNat = n + 1:=by omega
   walk_at "rd"
   rw [em]
   refine J4C (List.replicate (n + 1) [(e0,0)]) (fun σ=>∃ v,σ = [v]) (by rw [List.length_replicate]; omega) ⟨_,rfl⟩ (fun i H' s' hi=>by rw [List.length_replicate] at hi; exact hi) (fun H' s'=>by rw [List.length_replicate]; exact Nat.le_refl _) (fun i a σ x H' H'' ha hσ s' hy Rt hR=>?_) (fun D H2 nD s2 hD=>?_)
   ·obtain ⟨v,rfl⟩:=hσ
    obtain ⟨rfl,rfl⟩:=hy
    obtain rfl : [(e0,(0 : Int))] = a:=by
     rw [List.getElem?_replicate] at ha
     split at ha
     ·exact Option.some.inj ha
     ·cases ha
    exact JcK hR
   ·obtain ⟨ts,t1,t2,t3⟩:=hD
    walk_at "rd"
    intro l1 n1
    generalize e3 : upd H2 l1 _ = H3
    obtain ⟨y3,s3⟩:=J06 n1 e3
    walk_at "rd"
    intro l2 n2
    generalize e4 : upd H3 l2 _ = H4
    obtain ⟨y4,s4⟩:=J06 n2 e4
    have t14:=(s3.trans s4) _ _ t1
    have y4' : H4 l2 = some (.lst [V.ref l1]):=y4
    have lc : (ts.map V.ref).length + [V.ref l1].length ≤ sizeLine:=by
     rw [List.length_map,t2,List.length_replicate]
     exact Nat.le_trans (show n + 1 + 1 ≤ 100 by omega) (by decide)
    walk_at "rd"
    intro l3 n3
    generalize e5 : upd H4 l3 _ = H5
    obtain ⟨y5,s5⟩:=J06 n3 e5
    refine q l3 H5 (s2.trans ((s3.trans s4).trans s5)) ⟨ts ++ [l1],by rw [y5,List.map_append]; rfl,?_,fun i t' e h1 h2=>?_⟩
    ·rw [List.length_append,t2,List.length_replicate,J2S]; rfl
    ·rw [List.length_replicate] at t2
     rcases Nat.lt_or_ge i (n + 1) with y | y
     ·rw [J4E (by omega)] at h2
      rw [List.getElem?_append_left (by omega)] at h1
      exact (t3 i t' e h1 (by rw [List.getElem?_replicate,if_pos y]; exact h2)).same ((s3.trans s4).trans s5)
     ·have hi : i = n + 1:=by
       have:=(List.getElem?_eq_some_iff.mp h1).1
       rw [List.length_append,List.length_singleton] at this
       omega
      subst hi
      rw [J5f] at h2
      rw [List.getElem?_append_right (by omega),show n + 1 - ts.length = 0 by omega] at h1
      obtain rfl : l1 = t':=Option.some.inj h1
      obtain rfl : [] = e:=Option.some.inj h2
      exact ⟨[],(s4.trans s5) _ _ y3,rfl,fun i t e h=>by cases h⟩
  ·have z' : ¬ (n : Int) < dd:=fun e=>z (decide_eq_true e)
   obtain rfl : sh = false:=by
    cases sh with
    | false=>rfl
    | true=>exact absurd (hs1 rfl) z'
   obtain rfl:=hs0 rfl
   have em : ((n : Int) + 1).toNat = n + 1:=by omega
   walk_at "rd"
   rw [em]
   refine J4C (List.replicate (n + 1) [(e0,0)]) (fun σ=>∃ v,σ = [v]) (by rw [List.length_replicate]; omega) ⟨_,rfl⟩ (fun i H' s' hi=>by rw [List.length_replicate] at hi; exact hi) (fun H' s'=>by rw [List.length_replicate]; exact Nat.le_refl _) (fun i a σ x H' H'' ha hσ s' hy Rt hR=>?_) (fun D H2 nD s2 hD=>?_)
   ·obtain ⟨v,rfl⟩:=hσ
    obtain ⟨rfl,rfl⟩:=hy
    obtain rfl : [(e0,(0 : Int))] = a:=by
     rw [List.getElem?_replicate] at ha
     split at ha
     ·exact Option.some.inj ha
     ·cases ha
    exact JcK hR
   ·refine q D H2 s2 ?_
    unfold pgsN
    rw [if_neg Bool.false_ne_true,List.append_nil]
    exact hD
end
theorem J60 (d : Int) (k : Nat) : ∀ nds : List Nd,(J0j nds d k = (0,0) ∧ ∀ n ∈ nds,¬ (n.day = d ∧ n.kind = k)) ∨ ∃ n ∈ nds,n.day = d ∧ n.kind = k ∧ J0j nds d k = (n.least,n.most)
 | []=>.inl ⟨rfl,fun n h=>by cases h⟩
 | n :: r=>by
  by_cases h : n.day = d ∧ n.kind = k
  ·exact .inr ⟨n,List.mem_cons_self,h.1,h.2,by rw [J0j,if_pos h]⟩
  ·rcases J60 d k r with ⟨h1,h2⟩ | ⟨m,hm,h1,h2,h3⟩
   ·exact .inl ⟨by rw [J0j,if_neg h,h1],fun m hm=>by
     rcases List.mem_cons.mp hm with z | z
     ·rw [z]; exact h
     ·exact h2 m z⟩
   ·exact .inr ⟨m,List.mem_cons_of_mem _ hm,h1,h2,by rw [J0j,if_neg h,h3]⟩
theorem J4A {ks : List Nat} {i j : Nat} {nds : List Nd} (h : NdI ks i j nds) (d : Int) : J0M ks nds d = true ↔ ∀ n ∈ nds,n.day = d → ¬ 0 < n.least:=by
 constructor
 ·intro ho n hn e hl
  have hk:=List.all_eq_true.mp ho n.kind (h.b n hn).2.2.1
  rcases J60 d n.kind nds with ⟨_,h2⟩ | ⟨m,hm,h1,h2,h3⟩
  ·exact h2 n hn ⟨e,rfl⟩
  ·obtain rfl:=h.u n hn m hm (e.trans h1.symm) h2.symm
   unfold metB at hk
   rw [h3,Bool.and_eq_true] at hk
   have:=of_decide_eq_true hk.1
   omega
 ·intro ho
  refine List.all_eq_true.mpr fun k _=>?_
  unfold metB
  rcases J60 d k nds with ⟨h1,_⟩ | ⟨m,hm,h1,h2,h3⟩
  ·rw [h1]; rfl
  ·rw [h3,Bool.and_eq_true]
   have:=ho m hm h1
   exact ⟨decide_eq_true (by omega),decide_eq_true (h.b m hm).2.2.2.2⟩
noncomputable def JcM (nds : List Nd) (dd st : Int) : Prop:=(∃ n ∈ nds,0 < n.least ∧ n.day = st ∧ ∀ m ∈ nds,0 < m.least → st ≤ m.day) ∨ (st = dd ∧ ∀ m ∈ nds,¬ 0 < m.least)
theorem J9O {ks : List Nat} {nds : List Nd} {dd st : Int} {i j n : Nat} {sh : Bool} (h : NdI ks i j nds) (hb : ∀ m ∈ nds,m.day < dd) (hs : JcM nds dd st) (ho : OpN ks nds dd n sh) : st = n:=by
 obtain ⟨o1,o2,o3,o4⟩:=ho
 rcases hs with ⟨m,hm,h1,h2,h3⟩ | ⟨rfl,h1⟩
 ·have m0:=(h.b m hm).1
  have cl : J0M ks nds st = false:=Bool.eq_false_iff.mpr fun z=>(J4A h st).mp z m hm h2 h1
  have ge : (n : Int) ≤ st:=by
   rcases Int.lt_or_le st n with y | y
   ·have:=o2 st.toNat (by omega)
    rw [Int.toNat_of_nonneg (by omega),cl] at this
    cases this
   ·exact y
  cases sh with
  | false =>
   have:=o4 rfl
   have:=hb m hm
   omega
  | true =>
   obtain ⟨_,c⟩:=o3 rfl
   have : ¬ ∀ m ∈ nds,m.day = (n : Int) → ¬ 0 < m.least:=fun z=>by rw [(J4A h n).mpr z] at c; cases c
   rcases Int.lt_or_le (n : Int) st with y | y
   ·exact absurd (fun m' hm' e hl=>by have:=h3 m' hm' hl; omega) this
   ·omega
 ·cases sh with
  | false=>exact (o4 rfl).symm
  | true =>
   obtain ⟨_,c⟩:=o3 rfl
   rw [(J4A h n).mpr fun m hm _=>h1 m hm] at c
   cases c
section
variable {P : Program} {w : World} {K : PySem.W.Frag} {mg : Str → Option Value} {base : Heap} {Ji Jh J1 Jj J4 J3 J5 Jb J8 Jg Jf : Addr}
local macro_rules | `(tactic| walk_at "lk")=>`(tactic| first | exact J7Y _ _ _ | exact J61 _ _ _ | exact J6f _ _ _ | exact J6g _ | exact J8W _ | exact J8p _ | exact Jar _ _ _ | exact Jal _)
theorem Jdy {f : Addr} {fd : FuncData} (tx : Tx K mg Ji Jh J1 Jj J4 J3 J5 Jb J8 Jg Jf) (F : Fun K "law" "law" J2R f fd) : FnOk P w K mg base CX0 14 f fd ["_law_script"] (sp_law K):=by
 have JR:=J3O (P:=P) (w:=w) (base:=base) tx
 have J4V:=J88 (P:=P) (w:=w) (base:=base) tx
 have J4S:=J87 (P:=P) (w:=w) (base:=base) tx
 have J4R:=J8k (P:=P) (w:=w) (base:=base) tx
 have J4U:=J89 (P:=P) (w:=w) (base:=base) tx
 have J3t:=J8h (P:=P) (w:=w) (base:=base) tx
 have J1A:=J4H (P:=P) (w:=w) (base:=base) tx
 have J3k:=J52 (P:=P) (w:=w) (base:=base) tx
 have J14:=J42 (P:=P) (w:=w) (base:=base) tx
 have J9z:=J39 (P:=P) (w:=w) (base:=base) tx
 have Jet:=J5A (P:=P) (w:=w) (base:=base) tx
 have Jeu:=J4J (P:=P) (w:=w) (base:=base) tx
 have J9A:=tx.J7F.g (J7g (P:=P) (w:=w) (base:=base) tx)
 have J9D:=tx.J7n.g (J7k (P:=P) (w:=w) (base:=base) tx)
 have J9C:=tx.JA.g (J7l (P:=P) (w:=w) (base:=base) tx)
 refine F.ok J1T (fun vs H Q E h=>?_) (fun cdv A outer s H vs Q E hr h=>?_)
 ·obtain ⟨a,ns,rfl,_⟩:=h
  rfl
 ·obtain ⟨sc,ns,rfl,hS,hns,q⟩:=h
  refine ⟨_,(J7 (Jq (i:=1) J1T.nd rfl (Or.inl rfl) (Jz JR (hr.mono (by decide)) (J0 (pv 0) (J0 Je J6))))
   (J7 (Jq (i:=2) J1T.nd rfl (Or.inl rfl) (JI J1s Je (JI J1X (pv 1) Je)))
   (J7 (Jq (i:=3) J1T.nd rfl (Or.inl rfl) (Jz J4V (hr.mono (by decide)) (J0 (Jz JR (hr.mono (by decide)) (J0 (pv 0) (J0 Je J6))) (J0 (JI J1s Je (JI J1X (JI J3d (pv 1) Je) Je)) J6))))
   (J7 (Jq (i:=4) J1T.nd rfl (Or.inl rfl) (Jz J4S (hr.mono (by decide)) (J0 (pv 0) (J0 (pv 2) (J0 (pv 3) J6)))))
   (J7 (Jq (i:=5) J1T.nd rfl (Or.inl rfl) (JP (J0 (J05 (J0 (J3f (l:=[97,108,108]) (by decide +kernel)) (J0 (J2w (r:=JbT Ji) J9A (hr.mono (by decide)) Jb0 (J0 (JI Ja7 (JG J97 (pv 3) Je (fun _ _=>rfl)) (JI J1s Je (JI J1X (JI J3d (pv 1) Je) Je))) J6)) J6))) (J0 (J05 (J0 (J3f (l:=[97,108,108]) (by decide +kernel)) (J0 (J2w (r:=JaU Jh) J9D (hr.mono (by decide)) JbW (J0 Je (J0 (J3f (l:=[45]) (by decide +kernel)) (J0 (JI J1s Je (JI J1X (Jz JR (hr.mono (by decide)) (J0 (pv 0) (J0 Je J6))) Je)) J6)))) J6))) J6))))
   (J7 (Jq (i:=6) J1T.nd rfl (Or.inl rfl) (J2w (r:=rHou J1) J9C (hr.mono (by decide)) JdN (J0 (pv 2) (J0 (pv 3) (J0 (pv 4) (J0 (JP J6) (J0 (JP J6) (J0 (JP J6) (J0 (Jb2 (JbR (K:=K) rfl) (pv 5) (Jco (JI J1X (Jz JR (hr.mono (by decide)) (J0 (pv 0) (J0 Je J6))) Je)) Jcs) (J0 (JP J6) J6))))))))))
   (J7 (Jq (i:=7) J1T.nd rfl (Or.inl rfl) (Jz J4R (hr.mono (by decide)) (J0 (Jz JR (hr.mono (by decide)) (J0 (pv 0) (J0 Je J6))) (J0 (pv 6) J6))))
   (J7 (JdH (Jq (i:=8) J1T.nd rfl (Or.inl rfl) (Jav (Jaj (K:=K) rfl rfl) rfl tx.J4m J6h (J0 (JS (osc:=J2 J2R) (ON:=["_law_script","_law_cell","_law_days","_law_kinds_here","_law_needs_here","_law_rules","_law_house","_law_costs_here","_law_shut","_law_day","_law_due","_law_answer","_law_floor"]) (N:=["_law_day","_law_kind","_law_lower","_law_upper"]) (js:=[none,none,none,none]) ⟨rfl,by decide +kernel,by decide +kernel,by decide +kernel,rfl,by decide +kernel⟩ rfl rfl rfl (Jt (K:=K) rfl (pv 4)) (fun _ _ _ _ _=>Jct (K:=K) (n:=4) rfl rfl (Jp (Jk (i:=0) (show List.Nodup (["_law_day","_law_kind","_law_lower","_law_upper"] : List Str) from by decide +kernel) rfl (Or.inl rfl)) (Jp (Jk (i:=1) (show List.Nodup (["_law_day","_law_kind","_law_lower","_law_upper"] : List Str) from by decide +kernel) rfl (Or.inl rfl)) (Jp (Jk (i:=2) (show List.Nodup (["_law_day","_law_kind","_law_lower","_law_upper"] : List Str) from by decide +kernel) rfl (Or.inl rfl)) (Jp (Jk (i:=3) (show List.Nodup (["_law_day","_law_kind","_law_lower","_law_upper"] : List Str) from by decide +kernel) rfl (Or.inl rfl)) J0Y))))) (fun _ _ _ _ _=>J2r (Jx J6X (pv 2) Je (Jy _))) (fun _ _ _ _ _=>(pv 0))) J6) (JcH (pv 2) JdI))))
   (J7 (J03 PassesOwn.never rfl (J0X rfl tx.J0x (J0 (pv 2) J6)) (Jk (i:=9) J1T.nd rfl (Or.inr rfl)) (J7 (Jq (i:=10) J1T.nd rfl (Or.inl rfl) (JP (J0 (J3f (l:=[]) (by decide +kernel)) J6)))
   (J7 (J0A (Jx (JbV (K:=K) rfl hr.units0) (JS (osc:=J2 J2R) (ON:=["_law_script","_law_cell","_law_days","_law_kinds_here","_law_needs_here","_law_rules","_law_house","_law_costs_here","_law_shut","_law_day","_law_due","_law_answer","_law_floor"]) (N:=["_law_need","_law_day"]) (js:=[none,some 9]) ⟨rfl,by decide +kernel,by decide +kernel,by decide +kernel,rfl,by decide +kernel⟩ rfl rfl rfl (Jt (K:=K) rfl (pv 4)) (fun _ _ _ _ _=>Jk (i:=0) (show List.Nodup (["_law_need","_law_day"] : List Str) from by decide +kernel) rfl (Or.inl rfl)) (fun _ _ _ _ _=>J2r (PW.pt (J9q (Jx J2v (JG (Jw (K:=K) rfl) (pv 0) Je (fun _ _=>rfl)) (pv 1) (Jy _)) (J82 (Jx J6X (JG (Jw (K:=K) rfl) (pv 0) Je (fun _ _=>rfl)) Je (Jy _)))))) (fun _ _ _ _ _=>(pv 0))) (JP J6) (Jy _)) (Jc (Jq (i:=10) J1T.nd rfl (Or.inl rfl) (JP J6))) JB)
   (Jc (J0A (Jx (Jb4 (K:=K) rfl hr.units0) (Jz J1A (hr.mono (by decide)) (J0 (pv 6) (J0 (pv 9) J6))) (pv 10) (Jy _)) (Jc (Jo J3A)) JB)))))
   (J7 (Jq (i:=11) J1T.nd rfl (Or.inl rfl) (Jz J3k (hr.mono (by decide)) (J0 (pv 6) (J0 (pv 7) J6))))
   (J7 (J0A (PW.pt (J4v (J3z (J3i (Jv (J49 (K:=K) rfl) rfl tx.J01 J1o (J0 (Jr (K:=K) rfl (pv 11) rfl) (J0 (J5h (v:=.ref Jg) rfl tx.J45.mg rfl) J6))))) (J48 (Jx (Jck (K:=K) rfl (JdJ hr)) (Jr (K:=K) rfl (Jr (K:=K) rfl (pv 11) rfl) rfl) (Jz J4U (hr.mono (by decide)) (J0 (pv 2) (J0 (pv 8) J6))) (Jy _))))) (Jc (Jo J3A)) JB)
   (J7 (J0A (PW.pt (J4v (Jx Jcz (J80 (P:=P) (w:=w) (K:=K) (mg:=mg) (base:=base) hr (pv 11) (J0 (pv 6) (J0 (pv 7) J6)) rfl rfl rfl rfl rfl) J3A (Jy _)) (J48 (Jx JcY (Jv (J49 (K:=K) rfl) rfl tx.J01 J1o (J0 (pv 11) (J0 (J5h (v:=.ref J8) rfl tx.J28.mg rfl) J6))) (J2E J5X (pv 8) (pv 2) (Jy _)) (Jy _))))) (Jc (Jo J3A)) JB)
   (J7 (Jq (i:=12) J1T.nd rfl (Or.inl rfl) (J80 (P:=P) (w:=w) (K:=K) (mg:=mg) (base:=base) hr (Jr (K:=K) rfl (pv 11) rfl) (J0 (pv 6) (J0 (pv 7) J6)) rfl rfl rfl rfl rfl))
   (J7 (J0A (Jx J5X (pv 8) (pv 2) (Jy _)) (Jc (Jo (J2E Jbu (pv 12) J5Y (Jy _)))) JB)
   (J7 (J0A (PW.pt (J4v (J3z (J3i (Jv (J49 (K:=K) rfl) rfl tx.J01 J1o (J0 (pv 11) (J0 (J5h (v:=.ref Jb) rfl tx.J2W.mg rfl) J6))))) (J4v (Jx (JbV (K:=K) rfl hr.units0) (Jr (K:=K) rfl (pv 11) rfl) (JP J6) (Jy _)) (J4v (J3z (J3i (Jz J3t (hr.mono (by decide)) (J0 (Jr (K:=K) rfl (pv 11) rfl) J6)))) (J48 (J3z (J3i (Jz J3t (hr.mono (by decide)) (J0 (pv 12) J6))))))))) (Jc (Jo J3A)) JB)
   (Jc (Jo (J83 (J2E J2v (Jr (K:=K) rfl (pv 11) rfl) Je (Jy _)) (J83 (J2E J2v (pv 12) Je (Jy _)) (J9n (J2E J2v (Jz J14 (hr.mono (by decide)) (J0 (pv 6) (J0 (pv 7) (J0 (JP J6) J6)))) Je (Jy _)))))))))))))))))))))),?_⟩
  walk_at "st"
  clear JR J4V J4S J4R J4U J3t J1A J3k J14 J9A J9D J9C
  have m0:=Int.emod_nonneg (J2d ns 0 / 14) (show (4 : Int) ≠ 0 by decide)
  have m4:=Int.emod_lt_of_pos (J2d ns 0 / 14) (show (0 : Int) < 4 by decide)
  have a0 : 0 ≤ 1 + J2d ns 0 / 14 % 4:=by omega
  have a4 : 1 + J2d ns 0 / 14 % 4 ≤ 4:=by omega
  have e0':=Int.emod_nonneg (J2d ns 0) (show (14 : Int) ≠ 0 by decide)
  have e14:=Int.emod_lt_of_pos (J2d ns 0) (show (0 : Int) < 14 by decide)
  have hd1 : 1 ≤ 1 + J2d ns 0 % 14:=by omega
  have hd0 : 0 ≤ 1 + J2d ns 0 % 14:=by omega
  have hd14 : 1 + J2d ns 0 % 14 ≤ 14:=by omega
  walk_at "rd"
  generalize J2d ns 0 = c0 at m0 m4 a0 a4 e0' e14 hd1 hd0 hd14 ⊢
  generalize 1 + c0 % 14 = dd at hd1 hd0 hd14 ⊢
  intro ks H1 s1 hkl hkd
  have hS1:=s1.seq hS
  have hk4 : ks.length ≤ 4:=by omega
  walk_at "rd"
  intro na H2 nds xs s2 fna hna aN hNd
  have hS2:=s2.seq hS1
  have hk0 : 0 < ks.length:=by omega
  have g0 : atI ks 0 = some ks[0]:=J2D (j:=0) (List.getElem?_eq_getElem hk0)
  have w0:=Int.emod_nonneg (c0 / 56) (show (7 : Int) ≠ 0 by decide)
  have w7:=Int.emod_lt_of_pos (c0 / 56) (show (0 : Int) < 7 by decide)
  walk_at "rd"
  intro pN H3 s3
  have hS3:=s3.seq hS2
  walk_at "rd"
  intro tN ntN
  generalize e4 : upd H3 tN _ = H4
  obtain ⟨y4,s4⟩:=J06 ntN e4
  have hS4:=s4.seq hS3
  walk_at "rd"
  intro pL H5 s5
  have hS5:=s5.seq hS4
  walk_at "rd"
  intro tL ntL
  generalize e6 : upd H5 tL _ = H6
  obtain ⟨y6,s6⟩:=J06 ntL e6
  have hS6:=s6.seq hS5
  walk_at "rd"
  intro lr nlr
  generalize e7 : upd H6 lr _ = H7
  obtain ⟨y7,s7⟩:=J06 nlr e7
  have hS7:=s7.seq hS6
  walk_at "rd"
  intro l1 n1
  generalize e8 : upd H7 l1 _ = H8
  obtain ⟨y8,s8⟩:=J06 n1 e8
  have hS8:=s8.seq hS7
  walk_at "rd"
  intro l2 n2
  generalize e9 : upd H8 l2 _ = H9
  obtain ⟨y9,s9⟩:=J06 n2 e9
  have hS9:=s9.seq hS8
  walk_at "rd"
  intro l3 n3
  generalize e10 : upd H9 l3 _ = H10
  obtain ⟨y10,s10⟩:=J06 n3 e10
  have hS10:=s10.seq hS9
  have y710:=((s8.trans s9).trans s10) _ _ y7
  walk_at "rd"
  intro l4 n4
  generalize e11 : upd H10 l4 _ = H11
  obtain ⟨y11,s11⟩:=J06 n4 e11
  have hS11:=s11.seq hS10
  walk_at "rd"
  intro l5 n5
  generalize e12 : upd H11 l5 _ = H12
  obtain ⟨y12,s12⟩:=J06 n5 e12
  have hS12:=s12.seq hS11
  have S2c:=((((((((s3.trans s4).trans s5).trans s6).trans s7).trans s8).trans s9).trans s10).trans s11).trans s12
  have na12:=S2c _ _ hna
  have l112:=(((s9.trans s10).trans s11).trans s12) _ _ y8
  have l212:=((s10.trans s11).trans s12) _ _ y9
  have l312:=(s11.trans s12) _ _ y10
  have l412:=s12 _ _ y11
  clear y4 y6 y7 y8 y9 y10 y11 y710 e4 e6 e7 e8 e9 e10 e11 e12 s3 s4 s5 s6 s7 s8 s9 s10 s11 s12 hS3 hS4 hS5 hS6 hS7 hS8 hS9 hS10 hS11
  walk_at "rd"
  intro ho H13 a1 a2 a3 a4' a5 a6 s13 hH g1 g2 g3 g4 g5 g6 f1 f2 f3 f4 f5 f6
  have hk : Hn J1 H13 ho dd ks nds:=⟨a1,a2,a3,a4',a5,a6,xs,hH,g1,aN.imp fun a y=>NdAt.keeps a y _ _ (S2c.trans s13).keeps,g2,g4,g6⟩
  clear g1 g2 g3 g4 g5 g6 hH l112 l212 l312 l412 y12
  have S13:=S2c.trans s13
  have hS13:=s13.seq hS12
  walk_at "rd"
  intro pc H14 s14
  have hk14:=hk.same s14
  have S14:=S13.trans s14
  have na14:=S14 _ _ hna
  have aN14:=aN.imp fun a y=>NdAt.keeps a y _ _ S14.keeps
  clear hk hS13 hS12 na12 S2c s13 S13 s14
  have hnl : nds.length ≤ 1000000:=by have:=hNd.l; omega
  refine tCut.mk (fun σ' H'=>Here (∃ st : Int,JcM nds dd st ∧ σ' = [some (.ref sc),some (.int c0),some (.int dd),some (T ks),some (.ref na),some (.ref lr),some (.ref ho),some (.ref pc),some (.int st),none,none,none,none] ∧ Same H14 H')) ?_ ?_
  ·walk_at "rd"
   refine J2s nds (fun n=>decide (0 < n.least)) (fun n y _=>y = .int n.day) (fun σ=>∃ v1 v2 v3 v4,σ = [v1,v2,v3,v4]) (J2u (SqL.of na14)) aN14.len hnl ⟨_,_,_,_,rfl⟩ (fun _ _ _ _ _ z=>z) (fun i a v σ H' ha hv hσ s' Rf Rt hF hR=>?_) (fun D H2 ys nD s2 hys hD=>?_)
   ·obtain ⟨v1,v2,v3,v4,rfl⟩:=hσ
    obtain ⟨n,hn,t,rfl,ht⟩:=aN14.back hv
    obtain rfl : n = a:=Option.some.inj (hn.symm.trans ha)
    have ht':=s' _ _ ht
    walk_at "rd"
    refine ite2 (fun z=>?_) (fun z=>?_)
    ·walk_at "rd"
     exact hR _ _ _ z ⟨_,_,_,_,rfl⟩ (Same.refl _) rfl
    ·exact hF _ _ (Bool.eq_false_iff.mpr z) ⟨_,_,_,_,rfl⟩ (Same.refl _)
   ·have ey : ys = ((nds.filter fun n=>decide (0 < n.least)).map (·.day)).map V.int:=by
     rw [List.map_map]
     exact hys.eqmap fun a y h=>h
    rw [ey] at hD
    have mem : ∀ {x : Int},x ∈ (nds.filter fun n=>decide (0 < n.least)).map (·.day) ↔ ∃ n ∈ nds,0 < n.least ∧ n.day = x:=by
     intro x
     rw [List.mem_map]
     constructor
     ·rintro ⟨n,hn,e⟩
      obtain ⟨h1,h2⟩:=List.mem_filter.mp hn
      exact ⟨n,h1,of_decide_eq_true h2,e⟩
     ·rintro ⟨n,h1,h2,e⟩
      exact ⟨n,List.mem_filter.mpr ⟨h1,decide_eq_true h2⟩,e⟩
    generalize (nds.filter fun n=>decide (0 < n.least)).map (·.day) = zs at hD mem
    walk_at "rd"
    refine ⟨fun e=>?_,fun M hM hmin=>?_⟩
    ·refine Here.mk ⟨dd,.inr ⟨rfl,fun m hm hl=>?_⟩,rfl,s2⟩
     have:=mem.mpr ⟨m,hm,hl,rfl⟩
     rw [e] at this
     cases this
    ·obtain ⟨n,h1,h2,h3⟩:=mem.mp hM
     exact Here.mk ⟨M,.inl ⟨n,h1,h2,h3,fun m hm hl=>hmin _ (mem.mpr ⟨m,hm,hl,rfl⟩)⟩,rfl,s2⟩
  intro σ' H15 hv
  obtain ⟨st,hst,rfl,s15⟩:=hv.out
  clear hv hS2 hS1 hS
  have hk15:=hk14.same s15
  have na15:=s15 _ _ na14
  have aN15:=aN14.imp fun a y=>NdAt.keeps a y _ _ s15.keeps
  clear hk14 na14 aN14 s15
  walk_at "rd"
  refine J2U (lo:=0) (n:=dd.toNat) (fun i σ H2=>Here (∃ v9 v10,σ = [some (.ref sc),some (.int c0),some (.int dd),some (T ks),some (.ref na),some (.ref lr),some (.ref ho),some (.ref pc),some (.int st),v9,v10,none,none] ∧ Same H15 H2)) (Here.mk ⟨none,none,rfl,Same.refl _⟩) ?_ ?_
  ·rintro i σ H2 hi hv
   obtain ⟨v9,v10,rfl,s2⟩:=hv.out
   clear hv
   have hk2:=hk15.same s2
   have na2:=s2 _ _ na15
   have aN2:=aN15.imp fun a y=>NdAt.keeps a y _ _ s2.keeps
   walk_at "rd"
   intro l1 n1
   generalize e3 : upd H2 l1 _ = H3
   obtain ⟨y3,s3⟩:=J06 n1 e3
   have na3:=s3 _ _ na2
   have aN3:=aN2.imp fun a y=>NdAt.keeps a y _ _ s3.keeps
   walk_at "rd"
   refine J2s nds (fun n=>decide (n.day = 0 + (i : Int)) && decide (0 < n.least)) NdAt (fun σ=>∃ v1,σ = [v1,some (.int (0 + (i : Int)))]) (J2u (SqL.of na3)) aN3.len hnl ⟨_,rfl⟩ NdAt.keeps (fun j a v σ H' ha hv hσ s' Rf Rt hF hR=>?_) (fun D H4 ys nD s4 hys hD=>?_)
   ·obtain ⟨v1,rfl⟩:=hσ
    obtain ⟨n,hn,t,rfl,ht⟩:=aN3.back hv
    obtain rfl : n = a:=Option.some.inj (hn.symm.trans ha)
    have ht':=s' _ _ ht
    walk_at "rd"
    refine ite2 (fun z1=>?_) (fun z1=>?_)
    ·have z1' : decide (n.day = 0 + (i : Int)) = true:=decide_eq_true (V.int.inj (of_decide_eq_true z1))
     walk_at "rd"
     refine ite2 (fun z2=>?_) (fun z2=>?_)
     ·walk_at "rd"
      exact hR _ _ _ (by rw [z1',z2]; rfl) ⟨_,rfl⟩ (Same.refl _) ⟨t,rfl,ht'⟩
     ·exact hF _ _ (by rw [z1',Bool.eq_false_iff.mpr z2]; rfl) ⟨_,rfl⟩ (Same.refl _)
    ·have z1' : decide (n.day = 0 + (i : Int)) = false:=decide_eq_false fun e=>z1 (decide_eq_true (by rw [e]))
     exact hF _ _ (by rw [z1']; rfl) ⟨_,rfl⟩ (Same.refl _)
   ·have hne : ys = [] ↔ J0M ks nds (0 + (i : Int)) = true:=by
     rw [J4A hNd]
     have hl:=hys.len
     constructor
     ·rintro rfl n hn e hl'
      have : n ∈ nds.filter fun n=>decide (n.day = 0 + (i : Int)) && decide (0 < n.least):=List.mem_filter.mpr ⟨hn,by rw [decide_eq_true e,decide_eq_true hl']; rfl⟩
      rw [List.eq_nil_of_length_eq_zero (hl.symm.trans rfl)] at this
      cases this
     ·intro h
      rcases Decidable.em (ys = []) with e | e
      ·exact e
      ·have : nds.filter (fun n=>decide (n.day = 0 + (i : Int)) && decide (0 < n.least)) ≠ []:=fun z=>e (List.eq_nil_of_length_eq_zero (by rw [hl,z]; rfl))
       obtain ⟨n,hn⟩:=List.exists_mem_of_ne_nil _ this
       obtain ⟨h1,h2⟩:=List.mem_filter.mp hn
       rw [Bool.and_eq_true] at h2
       exact absurd (of_decide_eq_true h2.2) (h n h1 (of_decide_eq_true h2.1))
    clear hys
    walk_at "rd"
    intro l2 n2
    generalize e5 : upd H4 l2 _ = H5
    obtain ⟨y5,s5⟩:=J06 n2 e5
    have y5' : H5 l2 = some (.lst []):=y5
    have hD5:=s5 _ _ hD
    have S5:=(s3.trans s4).trans s5
    have y35 : H5 l1 = some (.lst [T []]):=(s4.trans s5) _ _ y3
    walk_at "rd"
    refine ite2 (fun z=>?_) (fun z=>?_)
    ·have ho : J0M ks nds (0 + (i : Int)) = false:=Bool.eq_false_iff.mpr fun e=>by
      rw [hne.mpr e] at z
      cases z
     walk_at "rd"
     intro l3 n3
     generalize e6 : upd H5 l3 _ = H6
     obtain ⟨y6,s6⟩:=J06 n3 e6
     have y6' : H6 l3 = some (.lst []):=y6
     have hk6:=hk2.same (S5.trans s6)
     walk_at "rd"
     intro Dc H7 s7 nDc hDc
     rw [if_neg (by rw [ho]; decide)] at hDc
     have y7:=s7 _ _ y6'
     have fl : ([] : List V).all J1D = true:=rfl
     walk_at "rd"
     exact Here.mk ⟨_,_,rfl,s2.trans ((S5.trans s6).trans s7)⟩
    ·have ho : J0M ks nds (0 + (i : Int)) = true:=hne.mp (by
      cases ys with
      | nil=>rfl
      | cons y r=>exact absurd rfl z)
     have hk6:=hk2.same S5
     walk_at "rd"
     intro Dc H7 s7 nDc hDc
     rw [if_pos ho] at hDc
     have y7:=s7 _ _ y35
     have fl : ([T []] : List V).all J1D = true:=rfl
     walk_at "rd"
     exact Here.mk ⟨_,_,rfl,s2.trans (S5.trans s7)⟩
  ·rintro σ H2 hv
   obtain ⟨v9,v10,rfl,s2⟩:=hv.out
   clear hv
   have hk2:=hk15.same s2
   have hb : ∀ m ∈ nds,m.day < dd:=fun m hm=>by
    rcases (hNd.b m hm).2.1 with z | ⟨_,j',z,_⟩
    ·omega
    ·exact absurd z (Nat.not_lt_zero _)
   have cW:=tx.J28.cl
   have cF':=tx.J2W.cl
   have cB:=tx.J45.cl
   have nW:=tx.JX
   have nF1:=tx.J0s
   have nF2:=tx.J0E
   have nF3:=tx.J0r
   have nB:=tx.J0I
   have yB:=tx.Jdb
   have yF:=tx.JbY
   have yW:=tx.J9W
   have iBB:=tx.J2c
   have iWW:=tx.J0m
   have iFW:=tx.J0K
   have iFF:=tx.J1m
   have k9 : 9 ≤ 13:=by decide
   have k5 : 5 ≤ 13:=by decide
   walk_at "rd"
   refine fun p pp n H3 s3=>⟨fun hop hbk hwt=>?_,fun hop hbk hfd=>?_⟩
   ·have en:=J9O hNd hb hst hop
    subst en
    have hk3:=hk2.same s3
    have hn14 : n ≤ 14:=by have:=hop.1; omega
    have hlt:=(hop.2.2.1 rfl).1
    have hbk0:=hbk
    have hwt0:=hwt
    obtain ⟨dxb,pq,hpp,hps⟩:=hbk0
    obtain ⟨dxw,hp⟩:=hwt0
    have hs1 : true = true → (n : Int) < dd:=fun _=>hlt
    have hs0 : true = false → dd = (n : Int):=fun e=>by cases e
    walk_at "rd"
    intro D H4 s4 hD
    have hps4:=hps.same s4
    have hp4:=s4 _ _ hp
    have hpp4:=s4 _ _ hpp
    have hbk4:=hbk.same s4
    have hwt4:=hwt.same s4
    have hk4:=hk3.same s4
    walk_at "rd"
    intro H5 s5
    have hps5:=hps4.same s5
    have hp5:=s5 _ _ hp4
    have hpp5:=s5 _ _ hpp4
    have hk5:=hk4.same s5
    walk_at "rd"
    refine ite2 (fun z=>?_) (fun z=>?_)
    ·exact absurd z (by simp [hlt])
    walk_at "rd"
    intro H6 s6
    rw [if_pos rfl]
    walk_at "rd"
    refine ite2 (fun z=>?_) (fun z=>absurd (decide_eq_true hlt) z)
    walk_at "rd"
    exact q H6
   ·have en:=J9O hNd hb hst hop
    subst en
    have hk3:=hk2.same s3
    have hn14 : n ≤ 14:=by have:=hop.1; omega
    have hdn:=hop.2.2.2 rfl
    have hbk0:=hbk
    have hfd0:=hfd
    obtain ⟨dxb,pq,hpp,hps⟩:=hbk0
    obtain ⟨dxw,aa,hp,haa⟩:=hfd0
    have hs1 : false = true → (n : Int) < dd:=fun e=>by cases e
    have hs0 : false = false → dd = (n : Int):=fun _=>hdn.symm
    walk_at "rd"
    intro D H4 s4 hD
    have hps4:=hps.same s4
    have hp4:=s4 _ _ hp
    have hpp4:=s4 _ _ hpp
    have hbk4:=hbk.same s4
    have hfd4:=hfd.same s4
    have hk4:=hk3.same s4
    walk_at "rd"
    intro H5 s5
    have hps5:=hps4.same s5
    have hp5:=s5 _ _ hp4
    have hpp5:=s5 _ _ hpp4
    have hk5:=hk4.same s5
    have hfd5:=hfd4.same s5
    have hnl : ¬ (n : Int) < dd:=by omega
    walk_at "rd"
    refine ite2 (fun z=>?_) (fun z=>?_)
    ·exact absurd z (by simp [hnl])
    walk_at "rd"
    intro H6 s6
    rw [if_neg Bool.false_ne_true]
    have hp6:=s6 _ _ hp5
    have haa6:=s6 _ _ (s5 _ _ (s4 _ _ haa))
    walk_at "rd"
    refine ite2 (fun z=>absurd (of_decide_eq_true z) hnl) (fun z=>?_)
    walk_at "rd"
    intro l1 n1
    generalize e7 : upd H6 l1 _ = H7
    obtain ⟨y7,s7⟩:=J06 n1 e7
    have y7' : H7 l1 = some (.lst []):=y7
    have hp7:=s7 _ _ hp6
    have haa7:=s7 _ _ haa6
    walk_at "rd"
    intro l2 n2
    generalize e8 : upd H7 l2 _ = H8
    obtain ⟨y8,s8⟩:=J06 n2 e8
    have y8' : H8 l2 = some (.lst []):=y8
    walk_at "rd"
    exact q H8
end
open PySem.W in
theorem all_mk {l : OpenLaw} {w : World} {K : Frag} {h : Heap} {mg : Str → Option Value} {fa Ji Jh J1 Jj J4 J3 J5 Jb J8 Jg Jf q1 q2 q3 q4 q5 q6 q7 q8 q9 q10 q11 q12 q13 q14 q15 q16 q17 q18 q19 q20 q21 q22 q23 q24 q25 q26 q27 q28 q29 q30 q31 q32 q33 q34 q35 q36 q37 q38 q39 q40 q41 q42 q43 q44 q45 q46 : Addr} (X : K.In h) (G : h.Ns mainGlobals mg) (hfa : mg "law" = some (.ref fa))
  {od1 an1 od2 an2 od3 an3 od4 an4 od5 an5 od6 an6 od7 an7 od8 an8 od9 an9 od10 an10 od11 an11 od12 an12 od13 an13 od14 an14 od15 an15 od16 an16 od17 an17 od18 an18 od19 an19 od20 an20 od21 an21 od22 an22 od23 an23 od24 an24 od25 an25 od26 an26 od27 an27 od28 an28 od29 an29 od30 an30 od31 an31 od32 an32 od33 an33 od34 an34 od35 an35 od36 an36 od37 an37 od38 an38 od39 an39 od40 an40 od41 an41 od42 an42 od43 an43 od44 an44 od45 an45 od46 an46 : Option Addr} {sl1 sl2 sl3 sl4 sl5 sl6 sl7 sl8 sl9 sl10 sl11 sl12 sl13 sl14 sl15 sl16 sl17 sl18 sl19 sl20 sl21 sl22 sl23 sl24 sl25 sl26 sl27 sl28 sl29 sl30 sl31 sl32 sl33 sl34 sl35 sl36 sl37 sl38 sl39 sl40 sl41 sl42 sl43 sl44 sl45 sl46 : Array (Option Value)} {oc1 kV1 dc1 pm1 cd1 ct1 oc2 kV2 dc2 pm2 cd2 ct2 oc3 kV3 dc3 pm3 cd3 ct3 oc4 kV4 dc4 pm4 cd4 ct4 oc5 kV5 dc5 pm5 cd5 ct5 oc6 kV6 dc6 pm6 cd6 ct6 oc7 kV7 dc7 pm7 cd7 ct7 oc8 kV8 dc8 pm8 cd8 ct8 oc9 kV9 dc9 pm9 cd9 ct9 oc10 kV10 dc10 pm10 cd10 ct10 oc11 kV11 dc11 pm11 cd11 ct11 oc12 kV12 dc12 pm12 cd12 ct12 oc13 kV13 dc13 pm13 cd13 ct13 oc14 kV14 dc14 pm14 cd14 ct14 oc15 kV15 dc15 pm15 cd15 ct15 oc16 kV16 dc16 pm16 cd16 ct16 oc17 kV17 dc17 pm17 cd17 ct17 oc18 kV18 dc18 pm18 cd18 ct18 oc19 kV19 dc19 pm19 cd19 ct19 oc20 kV20 dc20 pm20 cd20 ct20 oc21 kV21 dc21 pm21 cd21 ct21 oc22 kV22 dc22 pm22 cd22 ct22 oc23 kV23 dc23 pm23 cd23 ct23 oc24 kV24 dc24 pm24 cd24 ct24 oc25 kV25 dc25 pm25 cd25 ct25 oc26 kV26 dc26 pm26 cd26 ct26 oc27 kV27 dc27 pm27 cd27 ct27 oc28 kV28 dc28 pm28 cd28 ct28 oc29 kV29 dc29 pm29 cd29 ct29 oc30 kV30 dc30 pm30 cd30 ct30 oc31 kV31 dc31 pm31 cd31 ct31 oc32 kV32 dc32 pm32 cd32 ct32 oc33 kV33 dc33 pm33 cd33 ct33 oc34 kV34 dc34 pm34 cd34 ct34 oc35 kV35 dc35 pm35 cd35 ct35 oc36 kV36 dc36 pm36 cd36 ct36 oc37 kV37 dc37 pm37 cd37 ct37 oc38 kV38 dc38 pm38 cd38 ct38 oc39 kV39 dc39 pm39 cd39 ct39 oc40 kV40 dc40 pm40 cd40 ct40 oc41 kV41 dc41 pm41 cd41 ct41 oc42 kV42 dc42 pm42 cd42 ct42 oc43 kV43 dc43 pm43 cd43 ct43 oc44 kV44 dc44 pm44 cd44 ct44 oc45 kV45 dc45 pm45 cd45 ct45 oc46 kV46 dc46 pm46 cd46 ct46 : Value}
  {tk_MOST_COLUMNS tk_MOST_ENTRIES : Tok}
  (J7v : nsIn K mainGlobals "Never" = some (some (.ref Ji)))
  (J7o : nsIn K mainGlobals "Least" = some (some (.ref Jh)))
  (J7s : nsIn K mainGlobals "House" = some (some (.ref J1)))
  (J7e : nsIn K mainGlobals "Costs" = some (some (.ref Jj)))
  (J3r : nsIn K mainGlobals "EvenCosts" = some (some (.ref J4)))
  (J2I : nsIn K mainGlobals "ChangeCosts" = some (some (.ref J3)))
  (J34 : nsIn K mainGlobals "LevelCosts" = some (some (.ref J5)))
  (J7A : nsIn K mainGlobals "Found" = some (some (.ref Jb)))
  (J4G : nsIn K mainGlobals "Without" = some (some (.ref J8)))
  (J94 : nsIn K mainGlobals "Book" = some (some (.ref Jg)))
  (J93 : nsIn K mainGlobals "Walk" = some (some (.ref Jf)))
  (a1 : findIn K (.ref Ji) "__init__" = some (some (.ref q1)))
  (i1 : isFn K (.ref q1) = true)
  (l1 : K.lookup q1 = some ⟨oc1,od1,.func (fnOf "__init__" "Never.__init__" (Jm J1d) (Jl J1d) (J2 J1d) .none kV1 dc1 pm1 an1 cd1 ct1),sl1⟩)
  (c1 : codeIn K cd1 "Never.__init__" = true)
  (k1 : keepIn K (.ref q1) = true)
  (a2 : findIn K (.ref Jh) "__init__" = some (some (.ref q2)))
  (i2 : isFn K (.ref q2) = true)
  (l2 : K.lookup q2 = some ⟨oc2,od2,.func (fnOf "__init__" "Least.__init__" (Jm J1a) (Jl J1a) (J2 J1a) .none kV2 dc2 pm2 an2 cd2 ct2),sl2⟩)
  (c2 : codeIn K cd2 "Least.__init__" = true)
  (k2 : keepIn K (.ref q2) = true)
  (a3 : findIn K (.ref J1) "__init__" = some (some (.ref q3)))
  (i3 : isFn K (.ref q3) = true)
  (l3 : K.lookup q3 = some ⟨oc3,od3,.func (fnOf "__init__" "House.__init__" (Jm J1e) (Jl J1e) (J2 J1e) .none kV3 dc3 pm3 an3 cd3 ct3),sl3⟩)
  (c3 : codeIn K cd3 "House.__init__" = true)
  (k3 : keepIn K (.ref q3) = true)
  (a4 : findIn K (.ref J1) "need" = some (some (.ref q4)))
  (i4 : isFn K (.ref q4) = true)
  (l4 : K.lookup q4 = some ⟨oc4,od4,.func (fnOf "need" "House.need" (Jm J19) (Jl J19) (J2 J19) .none kV4 dc4 pm4 an4 cd4 ct4),sl4⟩)
  (c4 : codeIn K cd4 "House.need" = true)
  (k4 : keepIn K (.ref q4) = true)
  (a5 : nsIn K mainGlobals "on_duty" = some (some (.ref q5)))
  (l5 : K.lookup q5 = some ⟨oc5,od5,.func (fnOf "on_duty" "on_duty" (Jm J23) (Jl J23) (J2 J23) .none kV5 dc5 pm5 an5 cd5 ct5),sl5⟩)
  (c5 : codeIn K cd5 "on_duty" = true)
  (k5 : keepIn K (.ref q5) = true)
  (a6 : nsIn K mainGlobals "skill_faults" = some (some (.ref q6)))
  (l6 : K.lookup q6 = some ⟨oc6,od6,.func (fnOf "skill_faults" "skill_faults" (Jm J0e) (Jl J0e) (J2 J0e) .none kV6 dc6 pm6 an6 cd6 ct6),sl6⟩)
  (c6 : codeIn K cd6 "skill_faults" = true)
  (k6 : keepIn K (.ref q6) = true)
  (a7 : nsIn K mainGlobals "leave_faults" = some (some (.ref q7)))
  (l7 : K.lookup q7 = some ⟨oc7,od7,.func (fnOf "leave_faults" "leave_faults" (Jm J0c) (Jl J0c) (J2 J0c) .none kV7 dc7 pm7 an7 cd7 ct7),sl7⟩)
  (c7 : codeIn K cd7 "leave_faults" = true)
  (k7 : keepIn K (.ref q7) = true)
  (a8 : nsIn K mainGlobals "need_faults" = some (some (.ref q8)))
  (l8 : K.lookup q8 = some ⟨oc8,od8,.func (fnOf "need_faults" "need_faults" (Jm J0u) (Jl J0u) (J2 J0u) .none kV8 dc8 pm8 an8 cd8 ct8),sl8⟩)
  (c8 : codeIn K cd8 "need_faults" = true)
  (k8 : keepIn K (.ref q8) = true)
  (a9 : nsIn K mainGlobals "most_faults" = some (some (.ref q9)))
  (l9 : K.lookup q9 = some ⟨oc9,od9,.func (fnOf "most_faults" "most_faults" (Jm J0Q) (Jl J0Q) (J2 J0Q) .none kV9 dc9 pm9 an9 cd9 ct9),sl9⟩)
  (c9 : codeIn K cd9 "most_faults" = true)
  (k9 : keepIn K (.ref q9) = true)
  (a10 : nsIn K mainGlobals "rule_faults" = some (some (.ref q10)))
  (l10 : K.lookup q10 = some ⟨oc10,od10,.func (fnOf "rule_faults" "rule_faults" (Jm J0O) (Jl J0O) (J2 J0O) .none kV10 dc10 pm10 an10 cd10 ct10),sl10⟩)
  (c10 : codeIn K cd10 "rule_faults" = true)
  (k10 : keepIn K (.ref q10) = true)
  (a11 : nsIn K mainGlobals "pair_faults" = some (some (.ref q11)))
  (l11 : K.lookup q11 = some ⟨oc11,od11,.func (fnOf "pair_faults" "pair_faults" (Jm J0S) (Jl J0S) (J2 J0S) .none kV11 dc11 pm11 an11 cd11 ct11),sl11⟩)
  (c11 : codeIn K cd11 "pair_faults" = true)
  (k11 : keepIn K (.ref q11) = true)
  (a12 : nsIn K mainGlobals "faults" = some (some (.ref q12)))
  (l12 : K.lookup q12 = some ⟨oc12,od12,.func (fnOf "faults" "faults" (Jm J2P) (Jl J2P) (J2 J2P) .none kV12 dc12 pm12 an12 cd12 ct12),sl12⟩)
  (c12 : codeIn K cd12 "faults" = true)
  (k12 : keepIn K (.ref q12) = true)
  (a13 : nsIn K mainGlobals "meets_needs" = some (some (.ref q13)))
  (l13 : K.lookup q13 = some ⟨oc13,od13,.func (fnOf "meets_needs" "meets_needs" (Jm J0P) (Jl J0P) (J2 J0P) .none kV13 dc13 pm13 an13 cd13 ct13),sl13⟩)
  (c13 : codeIn K cd13 "meets_needs" = true)
  (k13 : keepIn K (.ref q13) = true)
  (a14 : nsIn K mainGlobals "keeps_pairs" = some (some (.ref q14)))
  (l14 : K.lookup q14 = some ⟨oc14,od14,.func (fnOf "keeps_pairs" "keeps_pairs" (Jm J0R) (Jl J0R) (J2 J0R) .none kV14 dc14 pm14 an14 cd14 ct14),sl14⟩)
  (c14 : codeIn K cd14 "keeps_pairs" = true)
  (k14 : keepIn K (.ref q14) = true)
  (a15 : nsIn K mainGlobals "columns" = some (some (.ref q15)))
  (l15 : K.lookup q15 = some ⟨oc15,od15,.func (fnOf "columns" "columns" (Jm J1x) (Jl J1x) (J2 J1x) .none kV15 dc15 pm15 an15 cd15 ct15),sl15⟩)
  (c15 : codeIn K cd15 "columns" = true)
  (k15 : keepIn K (.ref q15) = true)
  (a16 : nsIn K mainGlobals "burdens_of" = some (some (.ref q16)))
  (l16 : K.lookup q16 = some ⟨oc16,od16,.func (fnOf "burdens_of" "burdens_of" (Jm J0F) (Jl J0F) (J2 J0F) .none kV16 dc16 pm16 an16 cd16 ct16),sl16⟩)
  (c16 : codeIn K cd16 "burdens_of" = true)
  (k16 : keepIn K (.ref q16) = true)
  (a17 : nsIn K mainGlobals "wishes_by_place" = some (some (.ref q17)))
  (l17 : K.lookup q17 = some ⟨oc17,od17,.func (fnOf "wishes_by_place" "wishes_by_place" (Jm JW) (Jl JW) (J2 JW) .none kV17 dc17 pm17 an17 cd17 ct17),sl17⟩)
  (c17 : codeIn K cd17 "wishes_by_place" = true)
  (k17 : keepIn K (.ref q17) = true)
  (a18 : findIn K (.ref J4) "__init__" = some (some (.ref q18)))
  (i18 : isFn K (.ref q18) = true)
  (l18 : K.lookup q18 = some ⟨oc18,od18,.func (fnOf "__init__" "EvenCosts.__init__" (Jm J09) (Jl J09) (J2 J09) .none kV18 dc18 pm18 an18 cd18 ct18),sl18⟩)
  (c18 : codeIn K cd18 "EvenCosts.__init__" = true)
  (k18 : keepIn K (.ref q18) = true)
  (a19 : findIn K (.ref J3) "__init__" = some (some (.ref q19)))
  (i19 : isFn K (.ref q19) = true)
  (l19 : K.lookup q19 = some ⟨oc19,od19,.func (fnOf "__init__" "ChangeCosts.__init__" (Jm JO) (Jl JO) (J2 JO) .none kV19 dc19 pm19 an19 cd19 ct19),sl19⟩)
  (c19 : codeIn K cd19 "ChangeCosts.__init__" = true)
  (k19 : keepIn K (.ref q19) = true)
  (a20 : findIn K (.ref J5) "__init__" = some (some (.ref q20)))
  (i20 : isFn K (.ref q20) = true)
  (l20 : K.lookup q20 = some ⟨oc20,od20,.func (fnOf "__init__" "LevelCosts.__init__" (Jm JV) (Jl JV) (J2 JV) .none kV20 dc20 pm20 an20 cd20 ct20),sl20⟩)
  (c20 : codeIn K cd20 "LevelCosts.__init__" = true)
  (k20 : keepIn K (.ref q20) = true)
  (a21 : nsIn K mainGlobals "total_of" = some (some (.ref q21)))
  (l21 : K.lookup q21 = some ⟨oc21,od21,.func (fnOf "total_of" "total_of" (Jm J29) (Jl J29) (J2 J29) .none kV21 dc21 pm21 an21 cd21 ct21),sl21⟩)
  (c21 : codeIn K cd21 "total_of" = true)
  (k21 : keepIn K (.ref q21) = true)
  (a22 : findIn K (.ref Jb) "__init__" = some (some (.ref q22)))
  (i22 : isFn K (.ref q22) = true)
  (l22 : K.lookup q22 = some ⟨oc22,od22,.func (fnOf "__init__" "Found.__init__" (Jm J1b) (Jl J1b) (J2 J1b) .none kV22 dc22 pm22 an22 cd22 ct22),sl22⟩)
  (c22 : codeIn K cd22 "Found.__init__" = true)
  (k22 : keepIn K (.ref q22) = true)
  (a23 : findIn K (.ref Jb) "stands" = some (some (.ref q23)))
  (i23 : isFn K (.ref q23) = true)
  (l23 : K.lookup q23 = some ⟨oc23,od23,.func (fnOf "stands" "Found.stands" (Jm J0y) (Jl J0y) (J2 J0y) .none kV23 dc23 pm23 an23 cd23 ct23),sl23⟩)
  (c23 : codeIn K cd23 "Found.stands" = true)
  (k23 : keepIn K (.ref q23) = true)
  (a24 : findIn K (.ref J8) "__init__" = some (some (.ref q24)))
  (i24 : isFn K (.ref q24) = true)
  (l24 : K.lookup q24 = some ⟨oc24,od24,.func (fnOf "__init__" "Without.__init__" (Jm J0z) (Jl J0z) (J2 J0z) .none kV24 dc24 pm24 an24 cd24 ct24),sl24⟩)
  (c24 : codeIn K cd24 "Without.__init__" = true)
  (k24 : keepIn K (.ref q24) = true)
  (a25 : findIn K (.ref J8) "stands" = some (some (.ref q25)))
  (i25 : isFn K (.ref q25) = true)
  (l25 : K.lookup q25 = some ⟨oc25,od25,.func (fnOf "stands" "Without.stands" (Jm J08) (Jl J08) (J2 J08) .none kV25 dc25 pm25 an25 cd25 ct25),sl25⟩)
  (c25 : codeIn K cd25 "Without.stands" = true)
  (k25 : keepIn K (.ref q25) = true)
  (a26 : findIn K (.ref Jf) "__init__" = some (some (.ref q26)))
  (i26 : isFn K (.ref q26) = true)
  (l26 : K.lookup q26 = some ⟨oc26,od26,.func (fnOf "__init__" "Walk.__init__" (Jm J0C) (Jl J0C) (J2 J0C) .none kV26 dc26 pm26 an26 cd26 ct26),sl26⟩)
  (c26 : codeIn K cd26 "Walk.__init__" = true)
  (k26 : keepIn K (.ref q26) = true)
  (a27 : nsIn K mainGlobals "first_entry" = some (some (.ref q27)))
  (l27 : K.lookup q27 = some ⟨oc27,od27,.func (fnOf "first_entry" "first_entry" (Jm J0q) (Jl J0q) (J2 J0q) .none kV27 dc27 pm27 an27 cd27 ct27),sl27⟩)
  (c27 : codeIn K cd27 "first_entry" = true)
  (k27 : keepIn K (.ref q27) = true)
  (a28 : nsIn K mainGlobals "whole_cost" = some (some (.ref q28)))
  (l28 : K.lookup q28 = some ⟨oc28,od28,.func (fnOf "whole_cost" "whole_cost" (Jm J0D) (Jl J0D) (J2 J0D) .none kV28 dc28 pm28 an28 cd28 ct28),sl28⟩)
  (c28 : codeIn K cd28 "whole_cost" = true)
  (k28 : keepIn K (.ref q28) = true)
  (a29 : nsIn K mainGlobals "cheapest" = some (some (.ref q29)))
  (l29 : K.lookup q29 = some ⟨oc29,od29,.func (fnOf "cheapest" "cheapest" (Jm J27) (Jl J27) (J2 J27) .none kV29 dc29 pm29 an29 cd29 ct29),sl29⟩)
  (c29 : codeIn K cd29 "cheapest" = true)
  (k29 : keepIn K (.ref q29) = true)
  (a30 : nsIn K mainGlobals "is_covered" = some (some (.ref q30)))
  (l30 : K.lookup q30 = some ⟨oc30,od30,.func (fnOf "is_covered" "is_covered" (Jm J1f) (Jl J1f) (J2 J1f) .none kV30 dc30 pm30 an30 cd30 ct30),sl30⟩)
  (c30 : codeIn K cd30 "is_covered" = true)
  (k30 : keepIn K (.ref q30) = true)
  (a31 : nsIn K mainGlobals "steps_from" = some (some (.ref q31)))
  (l31 : K.lookup q31 = some ⟨oc31,od31,.func (fnOf "steps_from" "steps_from" (Jm JK) (Jl JK) (J2 JK) .none kV31 dc31 pm31 an31 cd31 ct31),sl31⟩)
  (c31 : codeIn K cd31 "steps_from" = true)
  (k31 : keepIn K (.ref q31) = true)
  (a32 : nsIn K mainGlobals "leads_on" = some (some (.ref q32)))
  (l32 : K.lookup q32 = some ⟨oc32,od32,.func (fnOf "leads_on" "leads_on" (Jm J25) (Jl J25) (J2 J25) .none kV32 dc32 pm32 an32 cd32 ct32),sl32⟩)
  (c32 : codeIn K cd32 "leads_on" = true)
  (k32 : keepIn K (.ref q32) = true)
  (a33 : findIn K (.ref Jg) "__init__" = some (some (.ref q33)))
  (i33 : isFn K (.ref q33) = true)
  (l33 : K.lookup q33 = some ⟨oc33,od33,.func (fnOf "__init__" "Book.__init__" (Jm J12) (Jl J12) (J2 J12) .none kV33 dc33 pm33 an33 cd33 ct33),sl33⟩)
  (c33 : codeIn K cd33 "Book.__init__" = true)
  (k33 : keepIn K (.ref q33) = true)
  (a34 : findIn K (.ref Jg) "floor" = some (some (.ref q34)))
  (i34 : isFn K (.ref q34) = true)
  (l34 : K.lookup q34 = some ⟨oc34,od34,.func (fnOf "floor" "Book.floor" (Jm J0H) (Jl J0H) (J2 J0H) .none kV34 dc34 pm34 an34 cd34 ct34),sl34⟩)
  (c34 : codeIn K cd34 "Book.floor" = true)
  (k34 : keepIn K (.ref q34) = true)
  (a35 : nsIn K mainGlobals "next_places" = some (some (.ref q35)))
  (l35 : K.lookup q35 = some ⟨oc35,od35,.func (fnOf "next_places" "next_places" (Jm J0U) (Jl J0U) (J2 J0U) .none kV35 dc35 pm35 an35 cd35 ct35),sl35⟩)
  (c35 : codeIn K cd35 "next_places" = true)
  (k35 : keepIn K (.ref q35) = true)
  (a36 : nsIn K mainGlobals "places_by_day" = some (some (.ref q36)))
  (l36 : K.lookup q36 = some ⟨oc36,od36,.func (fnOf "places_by_day" "places_by_day" (Jm J0k) (Jl J0k) (J2 J0k) .none kV36 dc36 pm36 an36 cd36 ct36),sl36⟩)
  (c36 : codeIn K cd36 "places_by_day" = true)
  (k36 : keepIn K (.ref q36) = true)
  (a37 : nsIn K mainGlobals "page_of" = some (some (.ref q37)))
  (l37 : K.lookup q37 = some ⟨oc37,od37,.func (fnOf "page_of" "page_of" (Jm J26) (Jl J26) (J2 J26) .none kV37 dc37 pm37 an37 cd37 ct37),sl37⟩)
  (c37 : codeIn K cd37 "page_of" = true)
  (k37 : keepIn K (.ref q37) = true)
  (a38 : nsIn K mainGlobals "rota_to" = some (some (.ref q38)))
  (l38 : K.lookup q38 = some ⟨oc38,od38,.func (fnOf "rota_to" "rota_to" (Jm J1B) (Jl J1B) (J2 J1B) .none kV38 dc38 pm38 an38 cd38 ct38),sl38⟩)
  (c38 : codeIn K cd38 "rota_to" = true)
  (k38 : keepIn K (.ref q38) = true)
  (a39 : nsIn K mainGlobals "least_by_book" = some (some (.ref q39)))
  (l39 : K.lookup q39 = some ⟨oc39,od39,.func (fnOf "least_by_book" "least_by_book" (Jm JM) (Jl JM) (J2 JM) .none kV39 dc39 pm39 an39 cd39 ct39),sl39⟩)
  (c39 : codeIn K cd39 "least_by_book" = true)
  (k39 : keepIn K (.ref q39) = true)
  (a40 : nsIn K mainGlobals "_law_cell_at" = some (some (.ref q40)))
  (l40 : K.lookup q40 = some ⟨oc40,od40,.func (fnOf "_law_cell_at" "_law_cell_at" (Jm J0V) (Jl J0V) (J2 J0V) .none kV40 dc40 pm40 an40 cd40 ct40),sl40⟩)
  (c40 : codeIn K cd40 "_law_cell_at" = true)
  (k40 : keepIn K (.ref q40) = true)
  (a41 : nsIn K mainGlobals "_law_kinds" = some (some (.ref q41)))
  (l41 : K.lookup q41 = some ⟨oc41,od41,.func (fnOf "_law_kinds" "_law_kinds" (Jm J15) (Jl J15) (J2 J15) .none kV41 dc41 pm41 an41 cd41 ct41),sl41⟩)
  (c41 : codeIn K cd41 "_law_kinds" = true)
  (k41 : keepIn K (.ref q41) = true)
  (a42 : nsIn K mainGlobals "_law_needs" = some (some (.ref q42)))
  (l42 : K.lookup q42 = some ⟨oc42,od42,.func (fnOf "_law_needs" "_law_needs" (Jm J1z) (Jl J1z) (J2 J1z) .none kV42 dc42 pm42 an42 cd42 ct42),sl42⟩)
  (c42 : codeIn K cd42 "_law_needs" = true)
  (k42 : keepIn K (.ref q42) = true)
  (a43 : nsIn K mainGlobals "_law_costs" = some (some (.ref q43)))
  (l43 : K.lookup q43 = some ⟨oc43,od43,.func (fnOf "_law_costs" "_law_costs" (Jm J1y) (Jl J1y) (J2 J1y) .none kV43 dc43 pm43 an43 cd43 ct43),sl43⟩)
  (c43 : codeIn K cd43 "_law_costs" = true)
  (k43 : keepIn K (.ref q43) = true)
  (a44 : nsIn K mainGlobals "_law_pages" = some (some (.ref q44)))
  (l44 : K.lookup q44 = some ⟨oc44,od44,.func (fnOf "_law_pages" "_law_pages" (Jm J0B) (Jl J0B) (J2 J0B) .none kV44 dc44 pm44 an44 cd44 ct44),sl44⟩)
  (c44 : codeIn K cd44 "_law_pages" = true)
  (k44 : keepIn K (.ref q44) = true)
  (a45 : nsIn K mainGlobals "_law_whole" = some (some (.ref q45)))
  (l45 : K.lookup q45 = some ⟨oc45,od45,.func (fnOf "_law_whole" "_law_whole" (Jm J1w) (Jl J1w) (J2 J1w) .none kV45 dc45 pm45 an45 cd45 ct45),sl45⟩)
  (c45 : codeIn K cd45 "_law_whole" = true)
  (k45 : keepIn K (.ref q45) = true)
  (a46 : nsIn K mainGlobals "law" = some (some (.ref q46)))
  (l46 : K.lookup q46 = some ⟨oc46,od46,.func (fnOf "law" "law" (Jm J2R) (Jl J2R) (J2 J2R) .none kV46 dc46 pm46 an46 cd46 ct46),sl46⟩)
  (c46 : codeIn K cd46 "law" = true)
  (k46 : keepIn K (.ref q46) = true)
  (J5E : plainGet K Ji Str.empty = true)
  (J5V : hasDictIn K Ji = true)
  (J5o : plainOver K Ji = true)
  (J5K : findIn K (.ref Ji) "__setattr__" = some (some (.builtin "object.__setattr__")))
  (J5y : makesIn K Ji = true)
  (J5z : keepIn K (.ref Ji) = true)
  (J5j : plainGet K Jh Str.empty = true)
  (J5Q : hasDictIn K Jh = true)
  (J5t : plainOver K Jh = true)
  (J5H : findIn K (.ref Jh) "__setattr__" = some (some (.builtin "object.__setattr__")))
  (J5r : makesIn K Jh = true)
  (J5O : keepIn K (.ref Jh) = true)
  (J5l : plainGet K J1 Str.empty = true)
  (J5C : hasDictIn K J1 = true)
  (J5n : plainOver K J1 = true)
  (J5W : findIn K (.ref J1) "__setattr__" = some (some (.builtin "object.__setattr__")))
  (J5u : makesIn K J1 = true)
  (J5w : keepIn K (.ref J1) = true)
  (J5B : plainGet K Jj Str.empty = true)
  (J5s : hasDictIn K Jj = true)
  (J5v : plainOver K Jj = true)
  (J5k : findIn K (.ref Jj) "__setattr__" = some (some (.builtin "object.__setattr__")))
  (J5U : makesIn K Jj = true)
  (J5P : keepIn K (.ref Jj) = true)
  (J32 : plainGet K J4 Str.empty = true)
  (J2Z : hasDictIn K J4 = true)
  (J38 : plainOver K J4 = true)
  (J33 : findIn K (.ref J4) "__setattr__" = some (some (.builtin "object.__setattr__")))
  (J35 : makesIn K J4 = true)
  (J30 : keepIn K (.ref J4) = true)
  (J2k : plainGet K J3 Str.empty = true)
  (J2p : hasDictIn K J3 = true)
  (J2n : plainOver K J3 = true)
  (J2l : findIn K (.ref J3) "__setattr__" = some (some (.builtin "object.__setattr__")))
  (J2o : makesIn K J3 = true)
  (J2m : keepIn K (.ref J3) = true)
  (J2K : plainGet K J5 Str.empty = true)
  (J2N : hasDictIn K J5 = true)
  (J2M : plainOver K J5 = true)
  (J2H : findIn K (.ref J5) "__setattr__" = some (some (.builtin "object.__setattr__")))
  (J2L : makesIn K J5 = true)
  (J2J : keepIn K (.ref J5) = true)
  (J4n : plainGet K Jb Str.empty = true)
  (J4e : hasDictIn K Jb = true)
  (J4b : plainOver K Jb = true)
  (J4r : findIn K (.ref Jb) "__setattr__" = some (some (.builtin "object.__setattr__")))
  (J5J : makesIn K Jb = true)
  (J5I : keepIn K (.ref Jb) = true)
  (J31 : plainGet K J8 Str.empty = true)
  (J2X : hasDictIn K J8 = true)
  (J36 : plainOver K J8 = true)
  (J37 : findIn K (.ref J8) "__setattr__" = some (some (.builtin "object.__setattr__")))
  (J43 : makesIn K J8 = true)
  (J3Z : keepIn K (.ref J8) = true)
  (J5b : plainGet K Jg Str.empty = true)
  (J58 : hasDictIn K Jg = true)
  (J59 : plainOver K Jg = true)
  (J5a : findIn K (.ref Jg) "__setattr__" = some (some (.builtin "object.__setattr__")))
  (J7f : makesIn K Jg = true)
  (J7z : keepIn K (.ref Jg) = true)
  (J7G : plainGet K Jf Str.empty = true)
  (J7C : hasDictIn K Jf = true)
  (J7r : plainOver K Jf = true)
  (J7x : findIn K (.ref Jf) "__setattr__" = some (some (.builtin "object.__setattr__")))
  (J7y : makesIn K Jf = true)
  (J7L : keepIn K (.ref Jf) = true)
  (yn : specialIn K (.builtin "object.__class__") "__get__" = some (some (.builtin "getset_descriptor.__get__")))
  (yt : takesIn K (.builtin "object.__class__") = some true)
  (J5p : findIn K (.ref Jb) "__class__" = some (some (.builtin "object.__class__")))
  (J5L : mroIn K Jb (.type "object") = some true)
  (J1m : kitOne K (.ref Jb) (.ref Jb) = some true)
  (J0K : kitOne K (.ref Jb) (.ref J8) = some false)
  (J2h : kitOne K (.ref Jb) (.ref Jg) = some false)
  (J3X : findIn K (.ref J8) "__class__" = some (some (.builtin "object.__class__")))
  (J40 : mroIn K J8 (.type "object") = some true)
  (J1q : kitOne K (.ref J8) (.ref Jb) = some false)
  (J0m : kitOne K (.ref J8) (.ref J8) = some true)
  (J1E : kitOne K (.ref J8) (.ref Jg) = some false)
  (J7u : findIn K (.ref Jg) "__class__" = some (some (.builtin "object.__class__")))
  (J7H : mroIn K Jg (.type "object") = some true)
  (J2g : kitOne K (.ref Jg) (.ref Jb) = some false)
  (J1I : kitOne K (.ref Jg) (.ref J8) = some false)
  (J2c : kitOne K (.ref Jg) (.ref Jg) = some true)
  (J1F : findIn K (.ref Ji) "word" = some none)
  (J1U : findIn K (.ref Jh) "many" = some none)
  (J1i : findIn K (.ref Jh) "marks" = some none)
  (J1O : findIn K (.ref Jh) "days" = some none)
  (JZ : findIn K (.ref J1) "days" = some none)
  (J0p : findIn K (.ref J1) "kinds" = some none)
  (J0T : findIn K (.ref J1) "needs" = some none)
  (Ju : findIn K (.ref J1) "persons" = some none)
  (J1j : findIn K (.ref J1) "leave" = some none)
  (J0d : findIn K (.ref J1) "wishes" = some none)
  (J1k : findIn K (.ref J1) "rules" = some none)
  (J0t : findIn K (.ref J1) "pairs" = some none)
  (J0g : findIn K (.ref J4) "weight" = some none)
  (JY : findIn K (.ref J4) "burdens" = some none)
  (J0f : findIn K (.ref J4) "wished" = some none)
  (J0b : findIn K (.ref J3) "rows" = some none)
  (JT : findIn K (.ref J5) "burdens" = some none)
  (J0h : findIn K (.ref J5) "level" = some none)
  (J0E : findIn K (.ref Jb) "rota" = some none)
  (J0r : findIn K (.ref Jb) "total" = some none)
  (J0s : findIn K (.ref Jb) "paper" = some none)
  (JX : findIn K (.ref J8) "paper" = some none)
  (J0I : findIn K (.ref Jg) "pages" = some none)
  (J00 : findIn K (.ref Jf) "house" = some none)
  (J1G : findIn K (.ref Jf) "costs" = some none)
  (J1J : findIn K (.ref Jf) "bound" = some none)
  (J1C : findIn K (.ref Jf) "kept" = some none)
  (J1M : findIn K (.ref Jf) "known" = some none)
  (J5q : nsIn K mainGlobals "bool" = some none)
  (J0l : nsIn K mainGlobals "enumerate" = some none)
  (J8e : nsIn K mainGlobals "int" = some none)
  (J01 : nsIn K mainGlobals "isinstance" = some none)
  (J21 : nsIn K mainGlobals "len" = some none)
  (J1Q : nsIn K mainGlobals "list" = some none)
  (J4m : nsIn K mainGlobals "min" = some none)
  (J0x : nsIn K mainGlobals "range" = some none)
  (J2Q : nsIn K mainGlobals "sorted" = some none)
  (J6I : nsIn K mainGlobals "sum" = some none)
  (J2z : nsIn K mainGlobals "tuple" = some none)
  (J4X : nsIn K mainGlobals "zip" = some none)
  (J13 : nsIn K mainGlobals "MOST_COLUMNS" = some (some (.int 256 tk_MOST_COLUMNS)))
  (J11 : nsIn K mainGlobals "MOST_ENTRIES" = some (some (.int 300 tk_MOST_ENTRIES)))
  (J3u : findIn K (.ref Jj) "__init__" = some (some (.builtin "object.__init__")))
  : ∃ fd : FuncData,(∀ (s : Shared) (v : Value),BindsTo s fd ⟨[v],[]⟩ [("_law_script",v)]) ∧ ∀ base : Heap,K.In base → base.Ns mainGlobals mg → FnOk l.prog w K mg base CX0 14 fa fd ["_law_script"] (sp_law K):=by
 have e:=hfa.symm.trans (mg_of X G a46)
 cases e
 have T : Tx K mg Ji Jh J1 Jj J4 J3 J5 Jb J8 Jg Jf:=⟨⟨_,_,Js (st:=J1d) l1 c1 k1,⟨a1,i1,k1⟩⟩,
  ⟨_,_,Js (st:=J1a) l2 c2 k2,⟨a2,i2,k2⟩⟩,
  ⟨_,_,Js (st:=J1e) l3 c3 k3,⟨a3,i3,k3⟩⟩,
  ⟨_,_,Js (st:=J19) l4 c4 k4,⟨a4,i4,k4⟩⟩,
  ⟨_,_,Js (st:=J23) l5 c5 k5,mg_of X G a5⟩,
  ⟨_,_,Js (st:=J0e) l6 c6 k6,mg_of X G a6⟩,
  ⟨_,_,Js (st:=J0c) l7 c7 k7,mg_of X G a7⟩,
  ⟨_,_,Js (st:=J0u) l8 c8 k8,mg_of X G a8⟩,
  ⟨_,_,Js (st:=J0Q) l9 c9 k9,mg_of X G a9⟩,
  ⟨_,_,Js (st:=J0O) l10 c10 k10,mg_of X G a10⟩,
  ⟨_,_,Js (st:=J0S) l11 c11 k11,mg_of X G a11⟩,
  ⟨_,_,Js (st:=J2P) l12 c12 k12,mg_of X G a12⟩,
  ⟨_,_,Js (st:=J0P) l13 c13 k13,mg_of X G a13⟩,
  ⟨_,_,Js (st:=J0R) l14 c14 k14,mg_of X G a14⟩,
  ⟨_,_,Js (st:=J1x) l15 c15 k15,mg_of X G a15⟩,
  ⟨_,_,Js (st:=J0F) l16 c16 k16,mg_of X G a16⟩,
  ⟨_,_,Js (st:=JW) l17 c17 k17,mg_of X G a17⟩,
  ⟨_,_,Js (st:=J09) l18 c18 k18,⟨a18,i18,k18⟩⟩,
  ⟨_,_,Js (st:=JO) l19 c19 k19,⟨a19,i19,k19⟩⟩,
  ⟨_,_,Js (st:=JV) l20 c20 k20,⟨a20,i20,k20⟩⟩,
  ⟨_,_,Js (st:=J29) l21 c21 k21,mg_of X G a21⟩,
  ⟨_,_,Js (st:=J1b) l22 c22 k22,⟨a22,i22,k22⟩⟩,
  ⟨_,_,Js (st:=J0y) l23 c23 k23,⟨a23,i23,k23⟩⟩,
  ⟨_,_,Js (st:=J0z) l24 c24 k24,⟨a24,i24,k24⟩⟩,
  ⟨_,_,Js (st:=J08) l25 c25 k25,⟨a25,i25,k25⟩⟩,
  ⟨_,_,Js (st:=J0C) l26 c26 k26,⟨a26,i26,k26⟩⟩,
  ⟨_,_,Js (st:=J0q) l27 c27 k27,mg_of X G a27⟩,
  ⟨_,_,Js (st:=J0D) l28 c28 k28,mg_of X G a28⟩,
  ⟨_,_,Js (st:=J27) l29 c29 k29,mg_of X G a29⟩,
  ⟨_,_,Js (st:=J1f) l30 c30 k30,mg_of X G a30⟩,
  ⟨_,_,Js (st:=JK) l31 c31 k31,mg_of X G a31⟩,
  ⟨_,_,Js (st:=J25) l32 c32 k32,mg_of X G a32⟩,
  ⟨_,_,Js (st:=J12) l33 c33 k33,⟨a33,i33,k33⟩⟩,
  ⟨_,_,Js (st:=J0H) l34 c34 k34,⟨a34,i34,k34⟩⟩,
  ⟨_,_,Js (st:=J0U) l35 c35 k35,mg_of X G a35⟩,
  ⟨_,_,Js (st:=J0k) l36 c36 k36,mg_of X G a36⟩,
  ⟨_,_,Js (st:=J26) l37 c37 k37,mg_of X G a37⟩,
  ⟨_,_,Js (st:=J1B) l38 c38 k38,mg_of X G a38⟩,
  ⟨_,_,Js (st:=JM) l39 c39 k39,mg_of X G a39⟩,
  ⟨_,_,Js (st:=J0V) l40 c40 k40,mg_of X G a40⟩,
  ⟨_,_,Js (st:=J15) l41 c41 k41,mg_of X G a41⟩,
  ⟨_,_,Js (st:=J1z) l42 c42 k42,mg_of X G a42⟩,
  ⟨_,_,Js (st:=J1y) l43 c43 k43,mg_of X G a43⟩,
  ⟨_,_,Js (st:=J0B) l44 c44 k44,mg_of X G a44⟩,
  ⟨_,_,Js (st:=J1w) l45 c45 k45,mg_of X G a45⟩,
  ⟨_,_,Js (st:=J2R) l46 c46 k46,mg_of X G a46⟩,
  ⟨⟨J5E,J5V,J5o,J5K⟩,mg_of X G J7v,J5y,J5z⟩,
  ⟨⟨J5j,J5Q,J5t,J5H⟩,mg_of X G J7o,J5r,J5O⟩,
  ⟨⟨J5l,J5C,J5n,J5W⟩,mg_of X G J7s,J5u,J5w⟩,
  ⟨⟨J5B,J5s,J5v,J5k⟩,mg_of X G J7e,J5U,J5P⟩,
  ⟨⟨J32,J2Z,J38,J33⟩,mg_of X G J3r,J35,J30⟩,
  ⟨⟨J2k,J2p,J2n,J2l⟩,mg_of X G J2I,J2o,J2m⟩,
  ⟨⟨J2K,J2N,J2M,J2H⟩,mg_of X G J34,J2L,J2J⟩,
  ⟨⟨J4n,J4e,J4b,J4r⟩,mg_of X G J7A,J5J,J5I⟩,
  ⟨⟨J31,J2X,J36,J37⟩,mg_of X G J4G,J43,J3Z⟩,
  ⟨⟨J5b,J58,J59,J5a⟩,mg_of X G J94,J7f,J7z⟩,
  ⟨⟨J7G,J7C,J7r,J7x⟩,mg_of X G J93,J7y,J7L⟩,
  ⟨⟨J4n,J4e,J4b,J4r⟩,J5p,yn,yt,J5L⟩,
  J1m,
  J0K,
  J2h,
  ⟨⟨J31,J2X,J36,J37⟩,J3X,yn,yt,J40⟩,
  J1q,
  J0m,
  J1E,
  ⟨⟨J5b,J58,J59,J5a⟩,J7u,yn,yt,J7H⟩,
  J2g,
  J1I,
  J2c,
  J1F,
  J1U,
  J1i,
  J1O,
  JZ,
  J0p,
  J0T,
  Ju,
  J1j,
  J0d,
  J1k,
  J0t,
  J0g,
  JY,
  J0f,
  J0b,
  JT,
  J0h,
  J0E,
  J0r,
  J0s,
  JX,
  J0I,
  J00,
  J1G,
  J1J,
  J1C,
  J1M,
  mg_none_of X G J5q,
  mg_none_of X G J0l,
  mg_none_of X G J8e,
  mg_none_of X G J01,
  mg_none_of X G J21,
  mg_none_of X G J1Q,
  mg_none_of X G J4m,
  mg_none_of X G J0x,
  mg_none_of X G J2Q,
  mg_none_of X G J6I,
  mg_none_of X G J2z,
  mg_none_of X G J4X,
  ⟨_,mg_of X G J13⟩,
  ⟨_,mg_of X G J11⟩,
  J3u⟩
 refine ⟨fnOf "law" "law" (Jm J2R) (Jl J2R) (J2 J2R) .none kV46 dc46 pm46 an46 cd46 ct46,fun s v=>.of_eq rfl,fun base _ _=>?_⟩
 exact Jdy T (Js (st:=J2R) l46 c46 k46)
theorem walk {l : PySem.W.OpenLaw} {q : Program} {loose : List Str} {XP : (Str → Option Value) → Heap → Prop} {YP : World → Heap → Prop} {d : DefRec} {K : Params → PySem.W.Frag} (hn : l.most = some 63) (hdf : d.params.defaults = [])
  (hY : ∀ (w : World) (h : Heap),YP w h → (K w.params).In h)
  (F : ∀ (w : World) (mg : Str → Option Value) (fa : Addr) (h : Heap),(K w.params).In h → h.Ns mainGlobals mg → mg d.name = some (.ref fa) →
   ∃ fd : FuncData,(∀ (s : Shared) (u : Value),BindsTo s fd ⟨[u],[]⟩ [("_law_script",u)]) ∧ ∀ base : Heap,(K w.params).In base → base.Ns mainGlobals mg → FnOk l.prog w (K w.params) mg base CX0 14 fa fd ["_law_script"] (sp_law (K w.params))) :
  PySem.W.WalkO q loose XP YP l.row.toRowW d [] (fun f vs=>PySem.call f vs) :=
 L2.walk_of (n:=63) (k:=14) (x:="_law_script") (CX:=fun _=>CX0) (sp:=fun w=>sp_law (K w.params)) hn (by decide) hdf ⟨rfl,by decide,by decide⟩ hY F (fun _ _ a ns hl _ hS=>⟨a,ns,rfl,hS,hl,fun _=>rfl⟩) fun _ _ _ _ _ z=>z
theorem walkX {q : Program} {loose : List Str} {XP : (Str → Option Value) → Heap → Prop} {K : Params → PySem.W.Frag} {as : List Addr} {n t : Nat} {r : PySem.W.RowW} {d : DefRec} {kwd : List (Str × Expr)} {run : Value → List Value → Sem Value} (e : ∀ P,as = (K P).map (·.1))
  (h : PySem.W.WalkO q loose XP (fun w hp=>(K w.params).In hp) r d kwd run) : PySem.W.WalkX q loose XP (PySem.W.X.obsZ as) (PySem.W.X.valZ K n t) r d kwd run:=by
 intro w s₀ s₁ mg mb G Y a o pm cd doc dV kV h1 h2 h3 h4 h5 h6 args vals as' L p1 p2 p3 p4 p5
 exact h w s₀ s₁ mg mb G (PySem.W.InK.keeps w _ _ (PySem.W.X.z_facts e Y).2.1 L.keeps) a o pm cd doc dV kV h1 h2 h3 h4 h5 h6 args vals as' p1 p2 p3 p4 p5
end K69
namespace PySem.W.Fast
def tw7187260923598893503:=()
def tw17963370794769471915:=()
def tw13398647571683676978:=()
def tw17296655800931300876:=()
def tw14745975354645714306:=()
def tw11438365040517275494:=()
def tw10324736418913993223:=()
def tw15801461386807232866:=()
def tw18374032525453335131:=()
def tw14123378934962076669:=()
def tw14700495151796266741:=()
def tw17512615025142228070:=()
def tw11284371741411014879:=()
def tw14676873046450472872:=()
def tw5404963951351625753:=()
def tw2130485755992955148:=()
def tw9309524875277721640:=()
def tw16276166870315140559:=()
def tw17200983570919242961:=()
def tw13373206236637820996:=()
def tw2424087750485016815:=()
def tw1594863633845916072:=()
def tw9506922577138367110:=()
def tw8636581892797819470:=()
def tw14167740592778774441:=()
def tw17725503684745883139:=()
def tw12508109680730271427:=()
def tw1033535225718920874:=()
def tw10891980924694037769:=()
def tw5931404435834364880:=()
def tw3981272662111445283:=()
def tw9083494733957927792:=()
def tw7876644095341879861:=()
def tw6468962388127674860:=()
def tw5251719674448183390:=()
def tw7679923364293831172:=()
def tw8861434292375148830:=()
def tw6414121001240716117:=()
def tw10917684616467847869:=()
def tw2714493569312983387:=()
def tw2993861470157595842:=()
def tw7845400742518207384:=()
def tw15313371056227566965:=()
def tw4743034319810432183:=()
def tw10589775862475993738:=()
def tw10761179557685092922:=()
def tw17170781638056545323:=()
def tw13613609924590681352:=()
def tw8031589880166414341:=()
def tw9850388296796548861:=()
def tw2938224038558085175:=()
def tw7184798558784010946:=()
def tw17146585771471676360:=()
def tw2810537632832147084:=()
def tw10206784270441179576:=()
def tw3868253822157635281:=()
def tw8439365653854868976:=()
def tw12787906807360370712:=()
def tw4921839108339006247:=()
def tw9067722422558359747:=()
def tw12589234839843167611:=()
def tw9293872622446188027:=()
def tw16706002933378859389:=()
def tw10248541915874224006:=()
def tw5836257779403513149:=()
def tw15215798857527757820:=()
def tw8954227729591644703:=()
def tw15355226438577567954:=()
def tw11727746274399245157:=()
def tw6070613412516949462:=()
def tw16896355652402467807:=()
def tw14749043592928910257:=()
def tw8363825106528116322:=()
def tw5166450438063496214:=()
def tw9172755563486019630:=()
def tw2075849128322604061:=()
def tw9331348511898413883:=()
def tw9280727385045615660:=()
def tw17205989364544536874:=()
def tw5724602346193620801:=()
def tw8905718004062377455:=()
def tw15807689195210826302:=()
def tw2503954355249659127:=()
def tw11359011889327339175:=()
def tw10760781293910166181:=()
def tw1266074425093643184:=()
def tw7881843085233693668:=()
def tw6507105651869262129:=()
def tw3248991515952988514:=()
def tw8912192711505030260:=()
def tw14306873810362876483:=()
def tw15078611823403256692:=()
def tw12481279563809126703:=()
def tw4875608391497526299:=()
def tw18238798390289449724:=()
def tw950051915014810932:=()
def tw17802670451606898898:=()
def tw15963090967874702141:=()
def tw11418077226978524457:=()
def tw9687517286098024009:=()
def tw2654076216961112091:=()
def tw3440538390014558017:=()
def tw6056856966778333913:=()
def tw6098748099948600576:=()
def tw11441899036897614739:=()
def tw7591797108963263533:=()
def tw6454397613452447207:=()
def tw4573120781562316556:=()
def tw5823316582618711661:=()
def tw3328211921065674127:=()
def tw1553702039963461118:=()
def tw724746346977240610:=()
def tw8227103624121065966:=()
def tw13800499591536648238:=()
def tw4463616759451230890:=()
def tw15968277655112254464:=()
def tw11816926614375489811:=()
def tw17349769009994241195:=()
def tw16836651648906493173:=()
def tw11097143508905002613:=()
def tw18127686886972153787:=()
def tw15521109966757875715:=()
def tw914817680781578656:=()
def tw6642359888192613851:=()
def tw5511719849834056846:=()
def tw15603221661196314849:=()
def tw15080092434138760437:=()
def tw13922043833581267782:=()
def tw13690922688269995679:=()
def tw10664968234178123002:=()
def tw12351096284101864902:=()
def tw5772375937900991206:=()
def tw3358277447738896844:=()
def tw4302413933799692756:=()
def tw17131340552646726363:=()
def tw16579508478861594014:=()
def tw14919482358085162662:=()
def tw10441403269784600123:=()
def tw6773120385132570017:=()
def tw16175677554225104946:=()
def tw3942866376187120189:=()
def tw13046536056252275878:=()
def tw1581733810965785184:=()
def tw1418584897664895045:=()
def tw4221485980435324995:=()
def tw16926250660257273539:=()
def tw7917571224746493921:=()
def tw14391598391142416221:=()
def tw3793139965009884935:=()
def tw12271094971116967786:=()
def tw3748191921357340435:=()
def tw6227391747126583916:=()
def tw17227804459749946819:=()
def tw13877136019908038979:=()
def tw13438695871389500902:=()
def tw15653979351443165623:=()
def tw16716944737952551840:=()
def tw11119448562724286422:=()
def tw11290806792042656321:=()
def tw1071715314249260471:=()
def tw7591025437803358052:=()
def tw8804373131691218068:=()
def tw16092209737403243379:=()
def tw8982647452990210965:=()
def tw878517649950197775:=()
def tw8472591322814681430:=()
def tw3930689203238573732:=()
def tw7744381683067422771:=()
def tw15988901100321908848:=()
def tw13321728295696413416:=()
def tw6938223149429592840:=()
def tw1483985998640639774:=()
def tw12642302693807156508:=()
def tw2363465552160313447:=()
def tw16752838629950109937:=()
def tw14080944559299365317:=()
def tw3543429948281803913:=()
def tw15958287399793997012:=()
def tw18248561065752234309:=()
def tw4032857717526411908:=()
def tw13549281268848313768:=()
def tw2117656786867673635:=()
def tw6193713664548520755:=()
def tw8704092611387520495:=()
def tw6389847722618292180:=()
def tw15913193325960553036:=()
def tw1822538691362653211:=()
def tw17578665561391173749:=()
def tw18316498093166085130:=()
def tw16228659297500188055:=()
def tw704051960454905582:=()
def tw7535856523173879057:=()
def tw9330430150852125681:=()
def tw8677520250117459740:=()
def tw3639146642601834739:=()
def tw9244893002178592331:=()
def tw4800876140178868588:=()
def tw4320632040118262058:=()
def tw8143260795443411657:=()
def tw7634083757694231341:=()
def tw12826885411349560821:=()
def tw122485942617235048:=()
def tw17241342116919365113:=()
def tw13580912155112566886:=()
def tw16149091377537330161:=()
def tw13278568269313335536:=()
def tw2363977524118737585:=()
def tw30350546950604840:=()
def tw9766603771974089924:=()
def tw13681666533811784924:=()
def tw3147871681716625765:=()
def tw4826500557353846576:=()
def tw14082192043028443131:=()
def tw15396339976633761376:=()
def tw4833990954928320307:=()
def tw13186912119295029145:=()
def tw2797696641770059718:=()
def tw13464379399574392136:=()
def tw11958051579050943086:=()
def tw5614088770228773403:=()
def tw17288145022966382780:=()
def tw4581166503969188883:=()
def tw8605193889278405630:=()
def tw15659634898127463770:=()
def tw7772917722059300618:=()
def tw15002975692586794504:=()
def tw5305048841763140114:=()
def tw14454146215611999337:=()
def tw8041872170197503463:=()
def tw16020054352979448115:=()
def tw12976235500124419037:=()
def tw12541372133602730562:=()
def tw6060348282660201769:=()
def tw13545436176524760327:=()
def tw2337886654337504387:=()
def tw4603621578574101663:=()
def tw2710133828068944137:=()
def tw563160599060768200:=()
def tw8055728386708780030:=()
def tw5078247371023611640:=()
def tw15939282931281145266:=()
def tw12528563027765533622:=()
def tw6696624916555156382:=()
def tw6560919843782340389:=()
def tw5872623176746655829:=()
def tw1974082034760413182:=()
def tw1783834046428747469:=()
def tw3221936201763268130:=()
def tw1889477998796659573:=()
def tw10824983821436793364:=()
def tw3154300598540774896:=()
def tw6659349310915136030:=()
def tw4211540364803319999:=()
def tw3079046838811530341:=()
def tw5988576110544559325:=()
def tw2364568727533554898:=()
def tw13604485719002125705:=()
def tw14416340170592761475:=()
def tw1507927616018726484:=()
def tw15842088745210140197:=()
def tw11905495455106879399:=()
def tw12803017809209151416:=()
def tw6380754272672321719:=()
def tw6970669210345810570:=()
def tw2439569714532560565:=()
def tw16879194542781067653:=()
def tw7790614941546945327:=()
def tw9803382758599462042:=()
def tw8853272714569839039:=()
def tw7370805873130230345:=()
def tw10844197563414464279:=()
def tw10789263662455583749:=()
def tw5201567223671523273:=()
def tw15431204216706014171:=()
def tw384537791997168855:=()
def tw3183766723945334367:=()
def tw17197214992500456639:=()
def tw1610471552275000422:=()
def tw2456147957440662211:=()
def tw2496484513384394354:=()
def tw11668019667502421039:=()
def tw15421042693732559102:=()
def tw14064650767109228244:=()
def tw11215588859846469037:=()
def tw12226730544120452709:=()
def tw11240296977841141292:=()
def tw14544495558270835264:=()
def tw11811873709777017977:=()
def tw14182513468998462650:=()
def tw12874922194702077192:=()
def tw43770289575657703:=()
def tw10855491975643146507:=()
def tw5607104606355699217:=()
def tw15697726110527973527:=()
def tw5034979315493468863:=()
def tw3891297582952949804:=()
def tw4203597911440356946:=()
def tw614842335133318605:=()
def tw422207063763950346:=()
def tw16143084499459194330:=()
def tw9186229812687474121:=()
def tw1625082567719181433:=()
def tw17798317196210887685:=()
def tw17164318512810505599:=()
def tw13232051559133612445:=()
def tw12717884014534780282:=()
def tw7733749257684469825:=()
def tw7235413700714763343:=()
def tw17688991598762880939:=()
def tw6092633645201666950:=()
def tw4282643143786741473:=()
def tw17462175362557817416:=()
def tw12381433331799116380:=()
def tw5523476385944952679:=()
def tw8647123436088834304:=()
def tw10154310090030048113:=()
def tw13018743900041684953:=()
def tw7930469622690612431:=()
def tw14998791443346002133:=()
def tw10471029292981837913:=()
def tw1404970299214032304:=()
def tw6966490506467560111:=()
def tw12481400216965570198:=()
def tw3233147364644377430:=()
def tw18211959585442676971:=()
def tw13239605635465651348:=()
def tw13795449724991446620:=()
def tw8325066112046339115:=()
def tw10308971413522683053:=()
def tw6305815606311503116:=()
def tw4124177459165168903:=()
def tw18000670067667172889:=()
def tw12907848550368618325:=()
def tw14818204326028290744:=()
def tw776194914153506667:=()
def tw18211823336549109442:=()
def tw15949204305392712920:=()
def tw2999444217319400465:=()
def tw14369570549881655870:=()
def tw14958551578439206528:=()
def tw15272661764881756528:=()
def tw6310555026502840497:=()
def tw16463692887320204584:=()
def tw10814973371328660413:=()
def tw6427088143052746113:=()
def tw14957025483129723767:=()
def tw1255176067701908871:=()
def tw8209033771375074800:=()
def tw2197272580492963481:=()
def tw1152425795315441888:=()
def tw3697158808616449617:=()
def tw12561525260778182099:=()
def tw9468947992790603673:=()
def tw5421494625097388898:=()
def tw16383183318959020229:=()
def tw18314520337983216215:=()
def tw11370593988500830246:=()
def tw17509444735975547189:=()
def tw12594871261409476420:=()
def tw4764022630390732535:=()
def tw9904381656273097773:=()
def tw5938223850737367525:=()
def tw3461646907701051809:=()
def tw17948163404993114687:=()
def tw6714062577463484696:=()
def tw8205961320833529867:=()
def tw7585439300284001281:=()
def tw2299544494816474737:=()
def tw7567871891412627920:=()
def tw13919586740506187799:=()
def tw13105633564412806878:=()
def tw4258770744815748117:=()
def tw11540448104474125459:=()
def tw14345607230218287651:=()
def tw7367476999384319084:=()
def tw2680966282386151527:=()
def tw9108596048627401075:=()
def tw4476229976505255787:=()
def tw4227410766797015003:=()
def tw12037883986994129886:=()
def tw6604358517231955134:=()
def tw4758508740672565799:=()
def tw8868238692731156761:=()
def tw12150247431790121458:=()
def tw8571745240958264209:=()
def tw600244528318131519:=()
def tw8018163569655920845:=()
def tw8683158586178358500:=()
def tw11722698058002300916:=()
def tw10895539652836214013:=()
def tw4770819454747429476:=()
def tw10231557128921126549:=()
def tw3436839500167789232:=()
def tw17077590104451695754:=()
def tw15519835524437780653:=()
def tw16673086587480825885:=()
def tw8523167774603077549:=()
def tw9183978431883581456:=()
def tw11531966382677221183:=()
def tw5475917889069835685:=()
def tw16941624906490492209:=()
def tw7580521940540270386:=()
def tw10064609087344374973:=()
def tw10662590640092779854:=()
def tw14306740564054832031:=()
def tw16395774908362726066:=()
def tw4631467272126090266:=()
def tw11912158864612446232:=()
def tw2754911411609659845:=()
def tw2666278863711101262:=()
def tw7773574476129054058:=()
def tw17540915579591261503:=()
def tw8656571165402881601:=()
def tw15754292136469653653:=()
def tw2139663121128274747:=()
def tw11669225331728500789:=()
def tw7108982451910263131:=()
def tw15127963920321210223:=()
def tw2572093716848518663:=()
def tw1949988097533097734:=()
def tw10209157903975009937:=()
def tw15578232409983585114:=()
def tw7737545179999898726:=()
def tw9228229321442982028:=()
def tw15503272333588017840:=()
def tw2738713118965819676:=()
def tw9985171923310166468:=()
def tw3937258956239743961:=()
def tw1752335508234937549:=()
def tw13562728715884968711:=()
def tw11321237003687645473:=()
def tw1473936607337314662:=()
def tw12356394461856708433:=()
def tw10219428986546572157:=()
def tw5721613108132263781:=()
def tw1226833378415178856:=()
def tw7285533953074002431:=()
def tw6153164781158073850:=()
def tw4479972702463644683:=()
def tw8707777142862591105:=()
def tw10080100940132580947:=()
def tw5601658897864540416:=()
def tw14060672777696103778:=()
def tw11506035382683849558:=()
def tw18394226104094522885:=()
def tw10490716451153550452:=()
def tw10477648218399574878:=()
def tw166943366288749421:=()
def tw15631045749506766558:=()
def tw4048025208036306953:=()
def tw10826804666611010590:=()
def tw14632045255030672450:=()
def tw4015413447305387745:=()
def tw109801531151433720:=()
def tw17045172412261825355:=()
def tw11686663015964660928:=()
def tw8249725797255898566:=()
def tw2074165866356718878:=()
def tw10846127152767903403:=()
def tw10399200849837292841:=()
def tw12131156247714696608:=()
def tw18446601161306919154:=()
def tw11580734528066751915:=()
def tw9309056157902811326:=()
def tw11244997485676847469:=()
def tw8828751735083104841:=()
def tw15565169850815863915:=()
def tw16992225255191189701:=()
def tw2684370173414260406:=()
def tw17028601847820618853:=()
def tw12426147000676051062:=()
def tw10540014178882207789:=()
def tw65833111550363878:=()
def tw16214478074515650329:=()
def tw10037501904845646079:=()
def tw8969798750483943530:=()
def tw1786005206841612363:=()
def tw505625365916205104:=()
def tw11520638159293426397:=()
def tw5024120602395985474:=()
def tw4259315503457355050:=()
def tw10834023805825709189:=()
def tw8381463807010594866:=()
def tw680054049547674481:=()
def tw7431768177167840890:=()
def tw18254157734805158561:=()
def tw10449145608722923859:=()
def tw14545347469238029631:=()
def tw17716570459092313840:=()
def tw3298308576180043708:=()
def tw449501535249203292:=()
def tw2215390841214204164:=()
def tw8223851748497966923:=()
def tw3205544417073024349:=()
def tw8394215386975950296:=()
def tw12071800975031455460:=()
def tw17777045524242900598:=()
def tw10076520141892946390:=()
def tw15077870472765348632:=()
def tw6376467813343227706:=()
def tw8611937299501129105:=()
def tw15291442506567586612:=()
def tw2891686071614465356:=()
def tw8238298800467038026:=()
def tw2397663350009153121:=()
def tw13752905185657737722:=()
def tw276472306063699068:=()
def tw8094188977449944513:=()
def tw15938791936599551672:=()
def tw14625927556775692901:=()
def tw18227087776920937103:=()
def tw11153442146924966351:=()
def tw13048667296760205515:=()
def tw1864126469874410947:=()
def tw7780768745965927928:=()
def tw1892653398086597981:=()
def tw829550684036197639:=()
def tw392108885257128985:=()
def tw17724156469773303464:=()
def tw17774887554151188187:=()
def tw12534225461719123557:=()
def tw2239046624820670772:=()
def tw2473288310098765710:=()
def tw7434078721646699698:=()
def tw10998467138501512660:=()
def tw4547005987862014951:=()
def tw12654791564261862458:=()
def tw4260503105572201976:=()
def tw3208415276393284737:=()
def tw4937514211473584650:=()
def tw8638024496778352805:=()
def tw8698614811051087819:=()
def tw10699845022181916427:=()
def tw9491538235392288384:=()
def tw15291674432686330295:=()
def tw12190994593063033718:=()
def tw8377577973730086757:=()
def tw3180161652231566135:=()
def tw7411955130255958197:=()
def tw2232627864595875275:=()
def tw13457257982288134079:=()
def tw14227566503930843979:=()
def tw15717282145958585424:=()
def tw17544946843876397077:=()
def tw7638308970472208048:=()
def tw9947179934806409875:=()
def tw7163724773173798667:=()
def tw6153960344655372254:=()
def tw16450335497671042097:=()
def tw15330672993157726583:=()
def tw17987466379660688006:=()
def tw14431209160646833466:=()
def tw1299593310585641009:=()
def tw10711941478582515560:=()
def tw8055640371208683697:=()
def tw17999477034776919730:=()
def tw10532570678329814018:=()
def tw5970051258686170458:=()
def tw8918480501710124811:=()
def tw536320483361066941:=()
def tw11668544022139034350:=()
def tw5289627735350471189:=()
def tw7327037247699076561:=()
def tw16128895267976371604:=()
def tw13072142779400711808:=()
def tw7517385882956198617:=()
def tw2409227821413580037:=()
def tw11811075099099578115:=()
def tw2461746270843993737:=()
def tw4965014308846542663:=()
def tw9180182559094876247:=()
def tw17762904617252139356:=()
def tw5811704454258968911:=()
def tw8170474210940812878:=()
def tw18158360597871003188:=()
def tw8112636043957583789:=()
def tw18297366174018293221:=()
def tw15313928435434967981:=()
def tw5352055127746439442:=()
def tw14517488713742753960:=()
def tw1300144201824102314:=()
def tw12365158023751631676:=()
def tw13124411812750528286:=()
def tw15963542166631687405:=()
def tw13829448046474890682:=()
def tw12683322942152897115:=()
def tw17543556659306732922:=()
def tw7623325942062577528:=()
def tw4459242109741579521:=()
def tw7661419214248150603:=()
def tw11681945072320832657:=()
def tw17188354661095651530:=()
def tw13637017577543001269:=()
def tw13165014745091478087:=()
def tw8247369691153483817:=()
def tw7889558776027595413:=()
def tw6441883752518917295:=()
def tw1061561617640800308:=()
def tw5629537450660224035:=()
def tw1993372767773597086:=()
def tw15803483023642790780:=()
def tw7205014409292032651:=()
def tw7828555514173121580:=()
def tw9870170670704693873:=()
def tw10686453655700709018:=()
def tw14990521204860280246:=()
def tw11608321499762054112:=()
def tw1948838908851431324:=()
def tw2931811939222162319:=()
def tw14990696506285572706:=()
def tw12009981909398748229:=()
def tw10252794395364645889:=()
def tw4104832375126771875:=()
def tw7315400796741654933:=()
def tw9511294407981706203:=()
def tw8707512265809879175:=()
def tw3798162538312599225:=()
def tw14764445454928440572:=()
def tw1278231370971866570:=()
def tw9192057017185504217:=()
def tw2101750462252258338:=()
def tw8661267524865461578:=()
def tw17050451042801345591:=()
def tw16050124414838080359:=()
def tw12053213484505743731:=()
def tw11713422487477441041:=()
def tw11023115554042047507:=()
def tw15737861923882880389:=()
def tw4192189873206571587:=()
def tw2406779046024663932:=()
def tw5012024184702886080:=()
def tw7222499346188441795:=()
def tw7026394134097373459:=()
def tw6694684922478351206:=()
def tw3110314382379124087:=()
def tw8000192985870721692:=()
def tw13649494891968935159:=()
def tw9692788317907307698:=()
def tw9208878900890855392:=()
def tw15799201531496266161:=()
def tw13727409542227042802:=()
def tw4817588646914131908:=()
def tw13986710388828955285:=()
def tw9144246005333275120:=()
def tw13498663924642249566:=()
def tw6861244276706529650:=()
def tw13069284207018811055:=()
def tw422385365602822167:=()
def tw298285295913173439:=()
def tw15663566236277443107:=()
def tw8169741403743267313:=()
def tw15829746204658519002:=()
def tw8154131389732434969:=()
def tw4750700100167779563:=()
def tw39627778534890552:=()
def tw13318107558247660123:=()
def tw14158450483552428027:=()
def tw811481333045049016:=()
def tw10613912610500254614:=()
def tw11700386973878543700:=()
def tw17541115273210833385:=()
def tw4557656553734092375:=()
def tw3074682725097625584:=()
def tw7428251426172822710:=()
def tw12543350292528170195:=()
def tw8483590428026275843:=()
def tw1917234235033373140:=()
def tw2330654981522943517:=()
def tw4223564149738127238:=()
def tw17703254350966722380:=()
def tw14897696909048388591:=()
def tw225297580555019215:=()
def tw2298109390628235181:=()
def tw3450123332010066704:=()
def tw13477868297316517614:=()
def tw3161722665127496358:=()
def tw11524900964217725473:=()
def tw16813317860026131881:=()
def tw4439000374783928799:=()
def tw5320250791920857000:=()
def tw14269671236766039755:=()
def tw16517620533784743089:=()
def tw12582880289326931480:=()
def tw13634009142179682924:=()
def tw3884101934175859325:=()
def tw7623995861421997415:=()
def tw150089769369070659:=()
def tw2060477695735138513:=()
end PySem.W.Fast
open PySem PySem.W PyProof.Rows
set_option maxRecDepth 100000 in
set_option maxHeartbeats 0 in
theorem PySem.Challenge.cw_rotafair_k69_nobody_holds : PySem.Challenge.rw_rotafair_k69_nobody.Holds := by
 w_on; o_law; z_head; (case hw=>w_witness2)
 k_fill
 refine K69.walkX (fun _=>rfl) ?_
 refine K69.walk (l:=PySem.Challenge.rw_rotafair_k69_nobody) rfl rfl (fun w h Y=>Y) ?F
 case F =>
  intro w mg fa h KX G hmg
  refine' K69.all_mk KX G hmg ?J7v ?J7o ?J7s ?J7e ?J3r ?J2I ?J34 ?J7A ?J4G ?J94 ?J93 ?a1 ?i1 ?l1 ?c1 ?k1 ?a2 ?i2 ?l2 ?c2 ?k2 ?a3 ?i3 ?l3 ?c3 ?k3 ?a4 ?i4 ?l4 ?c4 ?k4 ?a5 ?l5 ?c5 ?k5 ?a6 ?l6 ?c6 ?k6 ?a7 ?l7 ?c7 ?k7 ?a8 ?l8 ?c8 ?k8 ?a9 ?l9 ?c9 ?k9 ?a10 ?l10 ?c10 ?k10 ?a11 ?l11 ?c11 ?k11 ?a12 ?l12 ?c12 ?k12 ?a13 ?l13 ?c13 ?k13 ?a14 ?l14 ?c14 ?k14 ?a15 ?l15 ?c15 ?k15 ?a16 ?l16 ?c16 ?k16 ?a17 ?l17 ?c17 ?k17 ?a18 ?i18 ?l18 ?c18 ?k18 ?a19 ?i19 ?l19 ?c19 ?k19 ?a20 ?i20 ?l20 ?c20 ?k20 ?a21 ?l21 ?c21 ?k21 ?a22 ?i22 ?l22 ?c22 ?k22 ?a23 ?i23 ?l23 ?c23 ?k23 ?a24 ?i24 ?l24 ?c24 ?k24 ?a25 ?i25 ?l25 ?c25 ?k25 ?a26 ?i26 ?l26 ?c26 ?k26 ?a27 ?l27 ?c27 ?k27 ?a28 ?l28 ?c28 ?k28 ?a29 ?l29 ?c29 ?k29 ?a30 ?l30 ?c30 ?k30 ?a31 ?l31 ?c31 ?k31 ?a32 ?l32 ?c32 ?k32 ?a33 ?i33 ?l33 ?c33 ?k33 ?a34 ?i34 ?l34 ?c34 ?k34 ?a35 ?l35 ?c35 ?k35 ?a36 ?l36 ?c36 ?k36 ?a37 ?l37 ?c37 ?k37 ?a38 ?l38 ?c38 ?k38 ?a39 ?l39 ?c39 ?k39 ?a40 ?l40 ?c40 ?k40 ?a41 ?l41 ?c41 ?k41 ?a42 ?l42 ?c42 ?k42 ?a43 ?l43 ?c43 ?k43 ?a44 ?l44 ?c44 ?k44 ?a45 ?l45 ?c45 ?k45 ?a46 ?l46 ?c46 ?k46 ?J5E ?J5V ?J5o ?J5K ?J5y ?J5z ?J5j ?J5Q ?J5t ?J5H ?J5r ?J5O ?J5l ?J5C ?J5n ?J5W ?J5u ?J5w ?J5B ?J5s ?J5v ?J5k ?J5U ?J5P ?J32 ?J2Z ?J38 ?J33 ?J35 ?J30 ?J2k ?J2p ?J2n ?J2l ?J2o ?J2m ?J2K ?J2N ?J2M ?J2H ?J2L ?J2J ?J4n ?J4e ?J4b ?J4r ?J5J ?J5I ?J31 ?J2X ?J36 ?J37 ?J43 ?J3Z ?J5b ?J58 ?J59 ?J5a ?J7f ?J7z ?J7G ?J7C ?J7r ?J7x ?J7y ?J7L ?yn ?yt ?J5p ?J5L ?J1m ?J0K ?J2h ?J3X ?J40 ?J1q ?J0m ?J1E ?J7u ?J7H ?J2g ?J1I ?J2c ?J1F ?J1U ?J1i ?J1O ?JZ ?J0p ?J0T ?Ju ?J1j ?J0d ?J1k ?J0t ?J0g ?JY ?J0f ?J0b ?JT ?J0h ?J0E ?J0r ?J0s ?JX ?J0I ?J00 ?J1G ?J1J ?J1C ?J1M ?J5q ?J0l ?J8e ?J01 ?J21 ?J1Q ?J4m ?J0x ?J2Q ?J6I ?J2z ?J4X ?J13 ?J11 ?J3u
  (case J7v=>k_is)
  (case J7o=>k_is)
  (case J7s=>k_is)
  (case J7e=>k_is)
  (case J3r=>k_is)
  (case J2I=>k_is)
  (case J34=>k_is)
  (case J7A=>k_is)
  (case J4G=>k_is)
  (case J94=>k_is)
  (case J93=>k_is)
  (case a1=>k_is)
  (case i1=>k_is)
  (case l1=>k_is)
  (case c1=>k_is)
  (case k1=>k_is)
  (case a2=>k_is)
  (case i2=>k_is)
  (case l2=>k_is)
  (case c2=>k_is)
  (case k2=>k_is)
  (case a3=>k_is)
  (case i3=>k_is)
  (case l3=>k_is)
  (case c3=>k_is)
  (case k3=>k_is)
  (case a4=>k_is)
  (case i4=>k_is)
  (case l4=>k_is)
  (case c4=>k_is)
  (case k4=>k_is)
  (case a5=>k_is)
  (case l5=>k_is)
  (case c5=>k_is)
  (case k5=>k_is)
  (case a6=>k_is)
  (case l6=>k_is)
  (case c6=>k_is)
  (case k6=>k_is)
  (case a7=>k_is)
  (case l7=>k_is)
  (case c7=>k_is)
  (case k7=>k_is)
  (case a8=>k_is)
  (case l8=>k_is)
  (case c8=>k_is)
  (case k8=>k_is)
  (case a9=>k_is)
  (case l9=>k_is)
  (case c9=>k_is)
  (case k9=>k_is)
  (case a10=>k_is)
  (case l10=>k_is)
  (case c10=>k_is)
  (case k10=>k_is)
  (case a11=>k_is)
  (case l11=>k_is)
  (case c11=>k_is)
  (case k11=>k_is)
  (case a12=>k_is)
  (case l12=>k_is)
  (case c12=>k_is)
  (case k12=>k_is)
  (case a13=>k_is)
  (case l13=>k_is)
  (case c13=>k_is)
  (case k13=>k_is)
  (case a14=>k_is)
  (case l14=>k_is)
  (case c14=>k_is)
  (case k14=>k_is)
  (case a15=>k_is)
  (case l15=>k_is)
  (case c15=>k_is)
  (case k15=>k_is)
  (case a16=>k_is)
  (case l16=>k_is)
  (case c16=>k_is)
  (case k16=>k_is)
  (case a17=>k_is)
  (case l17=>k_is)
  (case c17=>k_is)
  (case k17=>k_is)
  (case a18=>k_is)
  (case i18=>k_is)
  (case l18=>k_is)
  (case c18=>k_is)
  (case k18=>k_is)
  (case a19=>k_is)
  (case i19=>k_is)
  (case l19=>k_is)
  (case c19=>k_is)
  (case k19=>k_is)
  (case a20=>k_is)
  (case i20=>k_is)
  (case l20=>k_is)
  (case c20=>k_is)
  (case k20=>k_is)
  (case a21=>k_is)
  (case l21=>k_is)
  (case c21=>k_is)
  (case k21=>k_is)
  (case a22=>k_is)
  (case i22=>k_is)
  (case l22=>k_is)
  (case c22=>k_is)
  (case k22=>k_is)
  (case a23=>k_is)
  (case i23=>k_is)
  (case l23=>k_is)
  (case c23=>k_is)
  (case k23=>k_is)
  (case a24=>k_is)
  (case i24=>k_is)
  (case l24=>k_is)
  (case c24=>k_is)
  (case k24=>k_is)
  (case a25=>k_is)
  (case i25=>k_is)
  (case l25=>k_is)
  (case c25=>k_is)
  (case k25=>k_is)
  (case a26=>k_is)
  (case i26=>k_is)
  (case l26=>k_is)
  (case c26=>k_is)
  (case k26=>k_is)
  (case a27=>k_is)
  (case l27=>k_is)
  (case c27=>k_is)
  (case k27=>k_is)
  (case a28=>k_is)
  (case l28=>k_is)
  (case c28=>k_is)
  (case k28=>k_is)
  (case a29=>k_is)
  (case l29=>k_is)
  (case c29=>k_is)
  (case k29=>k_is)
  (case a30=>k_is)
  (case l30=>k_is)
  (case c30=>k_is)
  (case k30=>k_is)
  (case a31=>k_is)
  (case l31=>k_is)
  (case c31=>k_is)
  (case k31=>k_is)
  (case a32=>k_is)
  (case l32=>k_is)
  (case c32=>k_is)
  (case k32=>k_is)
  (case a33=>k_is)
  (case i33=>k_is)
  (case l33=>k_is)
  (case c33=>k_is)
  (case k33=>k_is)
  (case a34=>k_is)
  (case i34=>k_is)
  (case l34=>k_is)
  (case c34=>k_is)
  (case k34=>k_is)
  (case a35=>k_is)
  (case l35=>k_is)
  (case c35=>k_is)
  (case k35=>k_is)
  (case a36=>k_is)
  (case l36=>k_is)
  (case c36=>k_is)
  (case k36=>k_is)
  (case a37=>k_is)
  (case l37=>k_is)
  (case c37=>k_is)
  (case k37=>k_is)
  (case a38=>k_is)
  (case l38=>k_is)
  (case c38=>k_is)
  (case k38=>k_is)
  (case a39=>k_is)
  (case l39=>k_is)
  (case c39=>k_is)
  (case k39=>k_is)
  (case a40=>k_is)
  (case l40=>k_is)
  (case c40=>k_is)
  (case k40=>k_is)
  (case a41=>k_is)
  (case l41=>k_is)
  (case c41=>k_is)
  (case k41=>k_is)
  (case a42=>k_is)
  (case l42=>k_is)
  (case c42=>k_is)
  (case k42=>k_is)
  (case a43=>k_is)
  (case l43=>k_is)
  (case c43=>k_is)
  (case k43=>k_is)
  (case a44=>k_is)
  (case l44=>k_is)
  (case c44=>k_is)
  (case k44=>k_is)
  (case a45=>k_is)
  (case l45=>k_is)
  (case c45=>k_is)
  (case k45=>k_is)
  (case a46=>k_is)
  (case l46=>k_is)
  (case c46=>k_is)
  (case k46=>k_is)
  (case J5E=>k_is)
  (case J5V=>k_is)
  (case J5o=>k_is)
  (case J5K=>k_is)
  (case J5y=>k_is)
  (case J5z=>k_is)
  (case J5j=>k_is)
  (case J5Q=>k_is)
  (case J5t=>k_is)
  (case J5H=>k_is)
  (case J5r=>k_is)
  (case J5O=>k_is)
  (case J5l=>k_is)
  (case J5C=>k_is)
  (case J5n=>k_is)
  (case J5W=>k_is)
  (case J5u=>k_is)
  (case J5w=>k_is)
  (case J5B=>k_is)
  (case J5s=>k_is)
  (case J5v=>k_is)
  (case J5k=>k_is)
  (case J5U=>k_is)
  (case J5P=>k_is)
  (case J32=>k_is)
  (case J2Z=>k_is)
  (case J38=>k_is)
  (case J33=>k_is)
  (case J35=>k_is)
  (case J30=>k_is)
  (case J2k=>k_is)
  (case J2p=>k_is)
  (case J2n=>k_is)
  (case J2l=>k_is)
  (case J2o=>k_is)
  (case J2m=>k_is)
  (case J2K=>k_is)
  (case J2N=>k_is)
  (case J2M=>k_is)
  (case J2H=>k_is)
  (case J2L=>k_is)
  (case J2J=>k_is)
  (case J4n=>k_is)
  (case J4e=>k_is)
  (case J4b=>k_is)
  (case J4r=>k_is)
  (case J5J=>k_is)
  (case J5I=>k_is)
  (case J31=>k_is)
  (case J2X=>k_is)
  (case J36=>k_is)
  (case J37=>k_is)
  (case J43=>k_is)
  (case J3Z=>k_is)
  (case J5b=>k_is)
  (case J58=>k_is)
  (case J59=>k_is)
  (case J5a=>k_is)
  (case J7f=>k_is)
  (case J7z=>k_is)
  (case J7G=>k_is)
  (case J7C=>k_is)
  (case J7r=>k_is)
  (case J7x=>k_is)
  (case J7y=>k_is)
  (case J7L=>k_is)
  (case yn=>k_is)
  (case yt=>k_is)
  (case J5p=>k_is)
  (case J5L=>k_is)
  (case J1m=>kit_is)
  (case J0K=>kit_is)
  (case J2h=>kit_is)
  (case J3X=>k_is)
  (case J40=>k_is)
  (case J1q=>kit_is)
  (case J0m=>kit_is)
  (case J1E=>kit_is)
  (case J7u=>k_is)
  (case J7H=>k_is)
  (case J2g=>kit_is)
  (case J1I=>kit_is)
  (case J2c=>kit_is)
  (case J1F=>k_is)
  (case J1U=>k_is)
  (case J1i=>k_is)
  (case J1O=>k_is)
  (case JZ=>k_is)
  (case J0p=>k_is)
  (case J0T=>k_is)
  (case Ju=>k_is)
  (case J1j=>k_is)
  (case J0d=>k_is)
  (case J1k=>k_is)
  (case J0t=>k_is)
  (case J0g=>k_is)
  (case JY=>k_is)
  (case J0f=>k_is)
  (case J0b=>k_is)
  (case JT=>k_is)
  (case J0h=>k_is)
  (case J0E=>k_is)
  (case J0r=>k_is)
  (case J0s=>k_is)
  (case JX=>k_is)
  (case J0I=>k_is)
  (case J00=>k_is)
  (case J1G=>k_is)
  (case J1J=>k_is)
  (case J1C=>k_is)
  (case J1M=>k_is)
  (case J5q=>k_is)
  (case J0l=>k_is)
  (case J8e=>k_is)
  (case J01=>k_is)
  (case J21=>k_is)
  (case J1Q=>k_is)
  (case J4m=>k_is)
  (case J0x=>k_is)
  (case J2Q=>k_is)
  (case J6I=>k_is)
  (case J2z=>k_is)
  (case J4X=>k_is)
  (case J13=>k_is)
  (case J11=>k_is)
  (case J3u=>k_is)
#print axioms PySem.Challenge.cw_rotafair_k69_nobody_holds
