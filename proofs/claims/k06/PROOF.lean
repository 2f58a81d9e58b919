import PyProof.Rows.All
import Wide.All
import OpenK.AllK
import Wide.FinOn
import Lean
import PyProof.EqAt
import PyProof.EqKinds
import PyProof.TupleCall
import KE.KIntText
import PyProof.ListRange
import PyProof.Rows.StrMul
import PyProof.Rows.StrCountLaw
import PyProof.Rows.StrLen
import PySem.Challenge.RW_rotafair_k06_what_is_no_rule
set_option Elab.async false
set_option linter.all false
set_option maxRecDepth 100000
namespace L2
open PySem PySem.Spec PyProof.Rows
noncomputable abbrev Key:=Sum Int Str
noncomputable def JbR : Key → Value → Bool
 | .inl k,v=>Value.isInt k v
 | .inr x,v=>Value.isStrOf x v
noncomputable def keyH (w : World) : Key → Int
 | .inl k=>hashInt k
 | .inr x=>hashStr w x
theorem J0d : ∀ {k : Key} {v : Value},JbR k v = true → (∃ i t,k = Sum.inl i ∧ v = Value.int i t) ∨ (∃ x t,k = Sum.inr x ∧ v = Value.str x t)
 | .inl i,v,h=>by
  obtain ⟨t,e⟩:=Value.isInt_shape (k:=i) (v:=v) h
  exact .inl ⟨i,t,rfl,e⟩
 | .inr x,v,h=>by
  obtain ⟨t,e⟩:=Value.isStrOf_shape (x:=x) (v:=v) h
  exact .inr ⟨x,t,rfl,e⟩
theorem Jcb (a b : Int) : decide ((Sum.inl a : Key) = Sum.inl b) = (a == b):=by
 by_cases e : a = b
 ·subst e; simp
 ·have h : ¬ (Sum.inl a : Key) = Sum.inl b:=fun q=>e (Sum.inl.inj q)
  rw [decide_eq_false h]
  exact (beq_eq_false_iff_ne.mpr e).symm
theorem Jcl (a b : Str) : decide ((Sum.inr a : Key) = Sum.inr b) = decide (a = b):=by
 by_cases e : a = b
 ·subst e; simp
 ·have h : ¬ (Sum.inr a : Key) = Sum.inr b:=fun q=>e (Sum.inr.inj q)
  rw [decide_eq_false h,decide_eq_false e]
theorem Jcv (a : Int) (b : Str) : decide ((Sum.inl a : Key) = Sum.inr b) = false:=decide_eq_false (fun q=>nomatch q)
theorem JcE (a : Str) (b : Int) : decide ((Sum.inr a : Key) = Sum.inl b) = false:=decide_eq_false (fun q=>nomatch q)
noncomputable def J98 (prog : Program) (w : World) : PySem.KeyKind prog w Key where
 is:=JbR
 hash:=keyH w
 inj:=fun v a b ha hb=>by
  rcases J0d ha with ⟨i,t,rfl,rfl⟩ | ⟨x,t,rfl,rfl⟩
  ·rcases J0d hb with ⟨j,u,rfl,e⟩ | ⟨y,u,rfl,e⟩
   ·injection e with e1 _; rw [e1]
   ·exact nomatch e
  ·rcases J0d hb with ⟨j,u,rfl,e⟩ | ⟨y,u,rfl,e⟩
   ·exact nomatch e
   ·injection e with e1 _; rw [e1]
 byValue:=fun k v h=>by
  rcases J0d h with ⟨i,t,rfl,rfl⟩ | ⟨x,t,rfl,rfl⟩ <;> rfl
 pyHash:=fun hv h=>by
  rcases J0d hv with ⟨i,t,rfl,rfl⟩ | ⟨x,t,rfl,rfl⟩
  ·exact wpAny_pyHash_int h
  ·exact wpAny_pyHash_str h
 eqBool:=fun hu hv h=>by
  rcases J0d hu with ⟨i,t,rfl,rfl⟩ | ⟨x,t,rfl,rfl⟩
  ·rcases J0d hv with ⟨j,u,rfl,rfl⟩ | ⟨y,u,rfl,rfl⟩
   ·rw [Jcb] at h; exact wpAny_eqBool_int h
   ·rw [Jcv] at h; exact SeqAt.EqAt.int_str i t y u _ _ _ _ h
  ·rcases J0d hv with ⟨j,u,rfl,rfl⟩ | ⟨y,u,rfl,rfl⟩
   ·rw [JcE] at h; exact SeqAt.EqAt.str_int x t j u _ _ _ _ h
   ·rw [Jcl] at h; exact wpAny_eqBool_str h
 «strs»:=fun k x t v h=>by
  rcases J0d h with ⟨i,u,rfl,e⟩ | ⟨y,u,rfl,e⟩
  ·exact nomatch e
  ·injection e with e1 _
   subst e1
   cases v <;> rfl
end L2
namespace L2
open PySem PySem.Spec PyProof.Rows
inductive V where
 | non | bl (b : Bool) | int (i : Int) | str (x : Str) | byt (b : Array UInt8) | flt (b : UInt64) | ref (a : Addr) | ty (n : String)
 deriving DecidableEq
noncomputable def RelV : V → Value → Prop
 | .non,u=>u = Value.none
 | .bl b,u=>u = Value.bool b
 | .int i,u=>∃ t,u = Value.int i t
 | .str x,u=>∃ t,u = Value.str x t
 | .byt b,u=>∃ t,u = Value.bytes b t
 | .flt b,u=>∃ t,u = Value.float b t
 | .ref a,u=>u = Value.ref a
 | .ty n,u=>u = Value.type n
noncomputable abbrev Vals : List V → List Value → Prop:=Paired RelV
theorem Vals.length {xs : List V} {us : List Value} (r : Vals xs us) : xs.length = us.length:=Paired.length r
theorem Vals.get : ∀ {xs : List V} {us : List Value} {i : Nat} {x : V},Vals xs us → xs[i]? = some x → ∃ u,us[i]? = some u ∧ RelV x u
 | _,_,_,_,.nil,e=>by simp at e
 | _,_,0,_,.cons r _,e=>by simp at e; subst e; exact ⟨_,rfl,r⟩
 | _,_,i + 1,x,.cons _ t,e=>by
  obtain ⟨u,h1,h2⟩:=Vals.get (i:=i) (x:=x) t (by simpa using e)
  exact ⟨u,by simpa using h1,h2⟩
theorem Vals.set {x : V} {u : Value} (r : RelV x u) : ∀ {xs : List V} {us : List Value} (i : Nat),Vals xs us → Vals (xs.set i x) (us.set i u)
 | _,_,_,.nil=>.nil
 | _,_,0,.cons _ t=>.cons r t
 | _,_,i + 1,.cons q t=>.cons q (Vals.set r i t)
theorem Vals.append : ∀ {xs ys : List V} {us ws : List Value},Vals xs us → Vals ys ws → Vals (xs ++ ys) (us ++ ws)
 | _,_,_,_,.nil,s=>s
 | _,_,_,_,.cons r t,s=>.cons r (Vals.append t s)
theorem Vals.take : ∀ {xs : List V} {us : List Value} (n : Nat),Vals xs us → Vals (xs.take n) (us.take n)
 | _,_,0,_=>.nil
 | _,_,_ + 1,.nil=>.nil
 | _,_,n + 1,.cons r t=>.cons r (Vals.take n t)
theorem Vals.drop : ∀ {xs : List V} {us : List Value} (n : Nat),Vals xs us → Vals (xs.drop n) (us.drop n)
 | _,_,0,r=>r
 | _,_,_ + 1,.nil=>.nil
 | _,_,n + 1,.cons _ t=>Vals.drop n t
noncomputable def RelO : Option V → Option Value → Prop
 | some v,some u=>RelV v u
 | none,none=>True
 | _,_=>False
noncomputable def KV {κ : Type} : List (κ × V) → List (κ × Value) → Prop:=Paired fun (p : κ × V) (q : κ × Value)=>p.1 = q.1 ∧ RelV p.2 q.2
noncomputable def kV : Key → V
 | .inl i=>.int i
 | .inr x=>.str x
inductive HO where
 | lst (xs : List V)
 | tup (xs : List V)
 | dK (kvs : List (Key × V)) | dT (kvs : List (List Key × V))
 | set (S : Int → Bool) (n : Nat)
 | ins (C dx : Addr) (fs : List (Str × V))
 | own (x : Addr)
 | xd (fs : List (Str × V))
 | met (f x : Addr)
 | rng (lo hi : Int)
 | frz (o : Obj) (u : HO)
 | tbl (ps : Array Value)
 | ext (φ : Heap → Prop)
noncomputable abbrev Hp:=Addr → Option HO
noncomputable def upd (H : Hp) (a : Addr) (o : HO) : Hp:=fun b=>if b = a then some o else H b
theorem Jr {H : Hp} {a : Addr} {o : HO} : upd H a o a = some o:=by unfold upd; rw [if_pos rfl]
theorem JX {H : Hp} {a b : Addr} {o : HO} (h : b ≠ a) : upd H a o b = H b:=by unfold upd; rw [if_neg h]
theorem J03 {H : Hp} {a b : Addr} {o : HO} (h : H a = some o) (h' : H b = none) : a ≠ b:=by
 intro e; subst e; rw [h] at h'; cases h'
section
variable (P : Program) (w : World)
noncomputable def J0X (H : Hp) (h : Heap) (a : Addr) : HO → Prop
 | .lst xs=>xs.length ≤ sizeLine ∧ ∃ (its : List Value) (n : Nat),Vals xs its ∧ h.get? a = some { cls:=.type "list",data:=.seq its.toArray n }
 | .tup xs=>xs.length ≤ sizeLine ∧ ∃ its : List Value,Vals xs its ∧ IsTup h a its.toArray
 | .dK kvs=>kvs.length ≤ sizeLine ∧ (a == sysModules) = false ∧ ∃ vs,KV kvs vs ∧ h.DictOf (J98 P w) a vs
 | .dT kvs=>kvs.length ≤ sizeLine ∧ (a == sysModules) = false ∧ ∃ xs : List (List Key × Addr × Value),
   Paired (fun (p : List Key × V) (q : List Key × Addr × Value)=>p.1 = q.1 ∧ H q.2.1 = some (.tup (p.1.map kV)) ∧ RelV p.2 q.2.2) kvs xs ∧
   ∃ o es ep,h.get? a = some o ∧ o.ExactDict ∧ o.data = .dict es ep ∧ es.toList = xs.map (entryOfKey (tupleKind (J98 P w))) ∧ (xs.map (·.1)).Nodup
 | .set S n=>h.SetOf (intKind P w) a S n
 | .ins C dx fs=>H dx = some (.own a) ∧ fs.length ≤ 1000 ∧ dx ≠ a ∧ h.get? a = some (PySem.W.instObj C dx) ∧
   ∃ mA,h.Ns1 dx mA ∧ (∀ f,RelO (fs.lookup f) (mA f)) ∧ PySem.Within mA (fs.map (·.1))
 | .own _=>∃ o,h.get? a = some o
 | .xd fs=>∃ mA,h.Ns1 a mA ∧ ∀ f,RelO (fs.lookup f) (mA f)
 | .rng lo hi=>∃ t u v,h.get? a = some { cls:=.type "range",data:=.fields #[.int lo t,.int hi u,.int 1 v] }
 | .frz o u=>h.get? a = some o ∧ J0X H h a u
 | .tbl ps=>h.get? a = some { cls:=.none,data:=.fields ps }
 | .met f x=>h.get? a = some (PySem.W.methodObj (.ref f) (.ref x))
 | .ext φ=>φ h ∧ (∃ o,h.get? a = some o) ∧ ∀ h1 h2 : Heap,φ h1 → (∀ o,h1.get? a = some o → h2.get? a = some o) → φ h2
noncomputable def HOk (H : Hp) (h : Heap) : Prop:=∀ a o,H a = some o → J0X P w H h a o
end
section
variable {P : Program} {w : World} {H H' : Hp} {h h' : Heap} {a : Addr} {o : HO}
theorem J0X.lt (x : J0X P w H h a o) : a < h.objs.size:=by
 cases o with
 | lst xs=>obtain ⟨_,_,_,_,e⟩:=x; exact Heap.lt_size e
 | tup xs=>obtain ⟨_,_,_,p⟩:=x; exact p.lt
 | dK kvs=>obtain ⟨_,_,_,_,o,_,_,e,_⟩:=x; exact Heap.lt_size e
 | dT kvs=>obtain ⟨_,_,_,_,o,_,_,e,_⟩:=x; exact Heap.lt_size e
 | set S n=>obtain ⟨o,_,_,_,e,_⟩:=x; exact Heap.lt_size e
 | ins C dx fs=>obtain ⟨_,_,_,e,_⟩:=x; exact Heap.lt_size e
 | own y=>obtain ⟨_,e⟩:=x; exact Heap.lt_size e
 | xd fs=>obtain ⟨_,⟨_,_,_,e,_⟩,_⟩:=x; exact Heap.lt_size e
 | rng lo hi=>obtain ⟨_,_,_,e⟩:=x; exact Heap.lt_size e
 | frz ob u=>obtain ⟨e,_⟩:=x; exact Heap.lt_size e
 | tbl ps=>exact Heap.lt_size (show h.get? a = some _ from x)
 | met f y=>exact Heap.lt_size (show h.get? a = some _ from x)
 | ext φ=>obtain ⟨_,⟨_,e⟩,_⟩:=x; exact Heap.lt_size e
theorem Paired.mapP {α β : Type} {F G : α → β → Prop} : ∀ {l₁ : List α} {l₂ : List β},Paired F l₁ l₂ → (∀ a b,F a b → G a b) → Paired G l₁ l₂
 | _,_,.nil,_=>.nil
 | _,_,.cons r t,f=>.cons (f _ _ r) (Paired.mapP t f)
theorem J0X.stay (x : J0X P w H h a o) (k : ∀ b u,(b = a ∨ H b = some (.own a)) → h.get? b = some u → h'.get? b = some u)
  (ho : ∀ b,H b = some (.own a) → H' b = some (.own a)) (ht : ∀ b xs,H b = some (.tup xs) → H' b = some (.tup xs)) : J0X P w H' h' a o:=by
 induction o with
 | lst xs=>obtain ⟨z,its,n,r,e⟩:=x; exact ⟨z,its,n,r,k _ _ (.inl rfl) e⟩
 | tup xs=>obtain ⟨z,its,r,ob,e,c⟩:=x; exact ⟨z,its,r,ob,k _ _ (.inl rfl) e,c⟩
 | dK kvs=>obtain ⟨z,y,vs,r,ob,es,ep,e,c⟩:=x; exact ⟨z,y,vs,r,ob,es,ep,k _ _ (.inl rfl) e,c⟩
 | dT kvs =>
  obtain ⟨z,y,xs,r,ob,es,ep,e,c⟩:=x
  exact ⟨z,y,xs,Paired.mapP r fun p q z=>⟨z.1,ht _ _ z.2.1,z.2.2⟩,ob,es,ep,k _ _ (.inl rfl) e,c⟩
 | set S n=>obtain ⟨ob,es,ep,t,e,c⟩:=x; exact ⟨ob,es,ep,t,k _ _ (.inl rfl) e,c⟩
 | ins C dx fs =>
  obtain ⟨d,z,ne,e,mA,⟨od,es,ep,e2,c⟩,r⟩:=x
  exact ⟨ho _ d,z,ne,k _ _ (.inl rfl) e,mA,⟨od,es,ep,k _ _ (.inr d) e2,c⟩,r⟩
 | own y=>obtain ⟨ob,e⟩:=x; exact ⟨ob,k _ _ (.inl rfl) e⟩
 | xd fs=>obtain ⟨mA,⟨od,es,ep,e,c⟩,r⟩:=x; exact ⟨mA,⟨od,es,ep,k _ _ (.inl rfl) e,c⟩,r⟩
 | rng lo hi=>obtain ⟨t,u,v,e⟩:=x; exact ⟨t,u,v,k _ _ (.inl rfl) e⟩
 | frz ob u ih=>obtain ⟨e,q⟩:=x; exact ⟨k _ _ (.inl rfl) e,ih q⟩
 | tbl ps =>
  have e : h.get? a = some { cls:=.none,data:=.fields ps }:=x
  show h'.get? a = some { cls:=.none,data:=.fields ps }
  exact k a _ (.inl rfl) e
 | met f y =>
  have e : h.get? a = some (PySem.W.methodObj (.ref f) (.ref y)):=x
  show h'.get? a = some (PySem.W.methodObj (.ref f) (.ref y))
  exact k a _ (.inl rfl) e
 | ext φ=>obtain ⟨p,⟨o,e⟩,st⟩:=x; exact ⟨st _ _ p fun o q=>k _ _ (.inl rfl) q,⟨o,k _ _ (.inl rfl) e⟩,st⟩
theorem HOk.lt (x : HOk P w H h) (e : H a = some o) : a < h.objs.size:=(x a o e).lt
theorem HOk.fresh (x : HOk P w H h) (e : h.objs.size ≤ a) : H a = none:=by
 cases q : H a with
 | none=>rfl
 | some u=>exact absurd (Nat.lt_of_lt_of_le (x.lt q) e) (Nat.lt_irrefl _)
theorem HOk.kept (x : HOk P w H h) (k : ∀ b u,h.get? b = some u → h'.get? b = some u) : HOk P w H h':=fun a o e =>
 (x a o e).stay (fun b u _ q=>k b u q) (fun _ q=>q) fun _ _ q=>q
theorem HOk.laid (x : HOk P w H h) (k : ∀ b u,h.get? b = some u → h'.get? b = some u) (hp : h.objs.size ≤ a) (new : J0X P w (upd H a o) h' a o) : HOk P w (upd H a o) h':=fun b u e=>by
 have hn:=x.fresh hp
 by_cases hb : b = a
 ·subst hb; rw [Jr] at e; cases e; exact new
 ·rw [JX hb] at e
  exact (x b u e).stay (fun c v _ q=>k c v q) (fun c q=>by rw [JX (J03 q hn)]; exact q) fun c xs q=>by rw [JX (J03 q hn)]; exact q
end
noncomputable def Rd (H : Hp) (a : Addr) (u : HO) : Prop:=H a = some u ∨ ∃ o,H a = some (.frz o u)
theorem Rd.ok {P : Program} {w : World} {H : Hp} {h : Heap} {a : Addr} {u : HO} (r : Rd H a u) (x : HOk P w H h) : J0X P w H h a u:=by
 rcases r with r | ⟨o,r⟩
 ·exact x a u r
 ·obtain ⟨_,q⟩:=x a _ r
  exact q
noncomputable def Mut : Option HO → Prop
 | some (.lst _)=>True
 | some (.dK _)=>True
 | some (.dT _)=>True
 | some (.set _ _)=>True
 | some (.ins _ _ _)=>True
 | some (.ext _)=>True
 | _=>False
section
variable {P : Program} {w : World} {H : Hp} {h h' : Heap} {x e : Addr} {o' : HO}
theorem HOk.write (ok : HOk P w H h) (mu : Mut (H x)) (he : e = x ∨ H e = some (.own x)) (k : ∀ b u,b ≠ e → h.get? b = some u → h'.get? b = some u) (heo : ∃ u,h'.get? e = some u)
  (new : J0X P w (upd H x o') h' x o') : HOk P w (upd H x o') h':=fun b u q=>by
 have nown : ∀ c y,H c = some (.own y) → c ≠ x:=fun c y r z=>by subst z; rw [r] at mu; exact mu
 have ntup : ∀ c xs,H c = some (.tup xs) → c ≠ x:=fun c xs r z=>by subst z; rw [r] at mu; exact mu
 by_cases hb : b = x
 ·subst hb; rw [Jr] at q; cases q; exact new
 ·rw [JX hb] at q
  by_cases hbe : b = e
  ·have q' : H b = some (.own x):=by
    rcases he with z | z
    ·exact absurd (hbe.trans z) hb
    ·rw [hbe]; exact z
   rw [q] at q'; cases q'
   obtain ⟨v,hv⟩:=heo
   exact ⟨v,by rw [hbe]; exact hv⟩
  ·refine (ok b u q).stay (fun c v hc r=>k c v ?_ r) (fun c r=>by rw [JX (nown c b r)]; exact r) fun c xs r=>by rw [JX (ntup c xs r)]; exact r
   rcases hc with rfl | hc
   ·exact hbe
   ·rintro rfl
    rcases he with z | z
    ·exact nown c b hc z
    ·rw [hc] at z; cases z; exact hb rfl
end
structure Un (fs ex : List Addr) (H H' : Hp) (h h' : Heap) : Prop where
 keep : ∀ b o,h.get? b = some o → H b = none → b ∉ fs → b ∉ ex → h'.get? b = some o
 slot : ∀ b o,h.get? b = some o → H b = none → b ∈ fs → b ∉ ex → ∃ sl,h'.get? b = some { o with slots:=sl }
 free : ∀ b o,h.get? b = some o → H b = none → b ∉ ex → H' b = none
 there : ∀ b o,h.get? b = some o → b ∉ ex → ∃ o',h'.get? b = some o'
 tups : ∀ b xs,H b = some (.tup xs) → H' b = some (.tup xs)
 frzs : ∀ b o u,H b = some (.frz o u) → H' b = some (.frz o u)
 tbls : ∀ b ps,H b = some (.tbl ps) → ∃ more,H' b = some (.tbl (ps ++ more))
section
variable {fs fs' ex ex' : List Addr} {H H1 H2 : Hp} {h h1 h2 h' : Heap} {a x e : Addr} {o : HO}
theorem Un.any (u : Un fs ex H H1 h h1) {b : Addr} {ob : Obj} (q : h.get? b = some ob) (n : H b = none) (hx : b ∉ ex) : ∃ sl,h1.get? b = some { ob with slots:=sl }:=by
 by_cases hb : b ∈ fs
 ·exact u.slot b ob q n hb hx
 ·exact ⟨ob.slots,u.keep b ob q n hb hx⟩
theorem Un.kept (k : ∀ b u,h.get? b = some u → h'.get? b = some u) : Un fs ex H H h h' :=
 ⟨fun b ob q _ _ _=>k b ob q,fun b ob q _ _ _=>⟨ob.slots,k b ob q⟩,fun _ _ _ n _=>n,fun b ob q _=>⟨ob,k b ob q⟩,fun _ _ q=>q,fun _ _ _ q=>q,fun _ ps q=>⟨#[],by rw [q]; simp⟩⟩
theorem Un.refl : Un fs ex H H h h:=Un.kept fun _ _ q=>q
theorem Un.laid (k : ∀ b u,h.get? b = some u → h'.get? b = some u) (hp : h.objs.size ≤ a) (hn : H a = none) : Un fs ex H (upd H a o) h h' where
 keep:=fun b u q _ _ _=>k b u q
 slot:=fun b u q _ _ _=>⟨u.slots,k b u q⟩
 free:=fun b u q n _=>by rw [JX (Nat.ne_of_lt (Nat.lt_of_lt_of_le (Heap.lt_size q) hp))]; exact n
 there:=fun b u q _=>⟨u,k b u q⟩
 tups:=fun b xs q=>by rw [JX (J03 q hn)]; exact q
 frzs:=fun b u xs q=>by rw [JX (J03 q hn)]; exact q
 tbls:=fun b ps q=>⟨#[],by rw [JX (J03 q hn),q]; simp⟩
theorem Un.write (mu : Mut (H x)) (he : e = x ∨ H e = some (.own x)) (k : ∀ b u,b ≠ e → h.get? b = some u → h'.get? b = some u) (heo : ∃ u,h'.get? e = some u) : Un fs ex H (upd H x o) h h':=by
 have hx : ∀ b,H b = none → b ≠ x:=fun b n z=>by subst z; rw [n] at mu; exact mu
 have hb : ∀ b,H b = none → b ≠ e:=fun b n z=>by
  subst z
  rcases he with r | r
  ·exact hx b n r
  ·rw [n] at r; cases r
 have hm : ∀ b u,H b = some u → ¬ Mut (some u) → b ≠ x:=fun b u q nm z=>by subst z; rw [q] at mu; exact nm mu
 refine ⟨fun b u q n _ _=>k b u (hb b n) q,fun b u q n _ _=>⟨u.slots,k b u (hb b n) q⟩,fun b u q n _=>by rw [JX (hx b n)]; exact n,fun b u q _=>?_,
  fun b xs q=>by rw [JX (hm b _ q fun z=>z)]; exact q,fun b u xs q=>by rw [JX (hm b _ q fun z=>z)]; exact q,fun b ps q=>⟨#[],by rw [JX (hm b _ q fun z=>z),q]; simp⟩⟩
 by_cases hbe : b = e
 ·subst hbe; exact heo
 ·exact ⟨u,k b u hbe q⟩
end
noncomputable def trk (h : Heap) (H : Hp) : List Addr:=(List.range h.objs.size).filter fun a=>(H a).isSome
noncomputable def hidT (h : Heap) (H : Hp) : Heap:=PySem.W.hideAll h (trk h H)
theorem J9A (h : Heap) (H : Hp) : (hidT h H).objs.size = h.objs.size:=PySem.W.hideAll_size _ _
theorem Jau {h : Heap} {H : Hp} {b : Addr} {o : Obj} (e : h.get? b = some o) (n : H b = none) : (hidT h H).get? b = some o :=
 PySem.W.hideAll_get _ e fun hm=>by
  have q : (H b).isSome = true:=(List.mem_filter.mp hm).2
  rw [n] at q; simp at q
theorem Jbp {h : Heap} {H : Hp} {b : Addr} {o : Obj} (e : (hidT h H).get? b = some o) : h.get? b = some o ∧ H b = none:=by
 have e' : h.get? b = some o:=PySem.W.of_hideAll (trk h H) e
 refine ⟨e',?_⟩
 cases q : H b with
 | none=>rfl
 | some x =>
  have hm : b ∈ trk h H:=List.mem_filter.mpr ⟨List.mem_range.mpr (Heap.lt_size e'),by simp [q]⟩
  have z : (hidT h H).get? b = none:=PySem.W.hideAll_none (trk h H) hm
  rw [z] at e; cases e
end L2
namespace L2
open PySem PySem.Spec PyProof.Rows
structure Mod (K : PySem.W.Frag) (mg : Str → Option Value) (base : Heap) : Prop where
 kin : K.In base
 glob : base.Ns mainGlobals mg
 blt : ∃ mb,base.Ns builtinsNs mb ∧ ∀ x : Str,x ≠ "__name__" → mb x = bootBuiltins x
 nolimit : base.NoLimit
structure Cx where
 prog : Program
 w : World
 K : PySem.W.Frag
 mg : Str → Option Value
 base : Heap
 A : Around
 N : List Str
 s₀ : Shared
 H₀ : Hp
 env : Env
 outer : List Env
 stack : List Env
 ex : List Addr
 fn : Str → Bool
 calm : Bool
 pn : List (Addr × Obj)
 xe : Value → Shared → Prop
noncomputable def frs (l : List Env) : List Addr:=l.filterMap (·.frame)
noncomputable abbrev Cx.fs (X : Cx) : List Addr:=frs X.outer
noncomputable def Vis (sc : Scope) (x : Str) : Prop:=sc.names.lookup x = some .local ∨ sc.names.lookup x = some .cell ∨ sc.names.lookup x = some .free
noncomputable def Loc (sc : Scope) (x : Str) : Prop:=sc.names.lookup x = some .local ∨ sc.names.lookup x = some .cell
noncomputable def Look (env : Env) (h : Heap) (m : Str → Option Value) (x : Str) (u : Value) : Prop :=
 (env.kindOf x = some .local ∧ m x = some u) ∨ ((env.kindOf x = some .cell ∨ env.kindOf x = some .free) ∧ ∃ c,env.cells.lookup x = some c ∧ h.IsCell c (some u))
structure Cx.Ok (X : Cx) : Prop where
 mod : Mod X.K X.mg X.base
 kind : X.env.scope.kind = .function
 glob : X.env.globals = mainGlobals
 blt : X.env.builtins = builtinsNs
 above : X.s₀.heap.objs.size ≤ X.env.locals
 inj : ∀ x y c,X.env.cells.lookup x = some c → X.env.cells.lookup y = some c → x = y
 has : ∀ x,(X.env.kindOf x = some .cell ∨ X.env.kindOf x = some .free) → ∃ c,X.env.cells.lookup x = some c
 cab : ∀ x c,X.fn x = true → X.env.cells.lookup x = some c → X.s₀.heap.objs.size ≤ c
 hd : X.calm = true → X.A.handled = none
 frames : X.A.frames = some X.stack
 stk : X.stack = X.outer ∨ (X.stack = X.env :: X.outer ∧ X.env.frame = some X.env.locals)
 exf : ∀ b ∈ X.ex,b ≠ X.env.locals ∧ ∀ x c,X.env.cells.lookup x = some c → c ≠ b
 bs : ∀ b o,X.base.get? b = some o → X.s₀.heap.get? b = some o ∧ X.H₀ b = none
 bsz : X.base.objs.size ≤ X.s₀.heap.objs.size
 noex : ∀ b o,X.base.get? b = some o → b ∉ X.ex
 exfs : ∀ b ∈ X.ex,b ∉ X.fs
 funs : X.s₀.heap.FunFrames X.base X.outer
 frf : ∀ b ∈ X.fs,X.H₀ b = none
structure Inv (X : Cx) (pins : List (Addr × Obj)) (σ : List (Option V)) (H : Hp) (s : Shared) : Prop where
 ok : X.Ok
 os : s.os = X.s₀.os
 bare : AllBare s.gens
 base : Un X.fs X.ex X.H₀ H X.s₀.heap s.heap
 loc : ∃ m,s.heap.Ns X.env.locals m ∧ ∀ (i : Nat) (x : Str) (v : V),X.N[i]? = some x → σ[i]? = some (some v) → Vis X.env.scope x → ∃ u,RelV v u ∧ Look X.env s.heap m x u
 cell : ∀ x c,X.env.cells.lookup x = some c → ∃ v,s.heap.IsCell c v
 free : H X.env.locals = none
 freeC : ∀ x c,X.env.cells.lookup x = some c → H c = none
 pin : ∀ p ∈ X.pn ++ pins,s.heap.get? p.1 = some p.2 ∧ H p.1 = none ∧ p.1 ≠ X.env.locals ∧ p.1 ∉ X.fs ∧ ∀ v,p.2.data ≠ .cell v
 hok : HOk X.prog X.w H s.heap
 len : σ.length = X.N.length
section
variable {X : Cx} {pins : List (Addr × Obj)} {σ : List (Option V)} {H H' : Hp} {s : Shared} {h' : Heap}
theorem Cx.Ok.nofr (ok : X.Ok) {b : Addr} {o : Obj} (e : X.base.get? b = some o) : b ∉ X.fs:=fun hb=>by
 have:=(ok.funs.mem hb).1
 rw [e] at this; cases this
theorem Inv.bs (I : Inv X pins σ H s) : ∀ b o,X.base.get? b = some o → s.heap.get? b = some o ∧ H b = none:=fun b o e =>
 ⟨I.base.keep b o (I.ok.bs b o e).1 (I.ok.bs b o e).2 (I.ok.nofr e) (I.ok.noex b o e),I.base.free b o (I.ok.bs b o e).1 (I.ok.bs b o e).2 (I.ok.noex b o e)⟩
theorem Inv.bk (I : Inv X pins σ H s) : ∀ b o,X.base.get? b = some o → s.heap.get? b = some o:=fun b o e=>(I.bs b o e).1
theorem Inv.mod (I : Inv X pins σ H s) : Mod X.K X.mg X.base:=I.ok.mod
theorem Inv.kIn (I : Inv X pins σ H s) : X.K.In s.heap:=I.ok.mod.kin.keeps I.bk
theorem Inv.lt (I : Inv X pins σ H s) : X.env.locals < s.heap.objs.size:=let ⟨_,hn,_⟩:=I.loc; hn.lt
theorem Inv.sz (I : Inv X pins σ H s) : X.s₀.heap.objs.size ≤ s.heap.objs.size:=Nat.le_trans I.ok.above (Nat.le_of_lt I.lt)
theorem Inv.nofs (I : Inv X pins σ H s) {a : Addr} (h : s.heap.objs.size ≤ a) : a ∉ X.fs:=fun hb=>by
 obtain ⟨_,o,ho,_⟩:=I.ok.funs.mem hb
 exact absurd (Nat.lt_of_lt_of_le (Heap.lt_size ho) (Nat.le_trans I.sz h)) (Nat.lt_irrefl _)
theorem Inv.cne (I : Inv X pins σ H s) : ∀ x c,X.env.cells.lookup x = some c → c ≠ X.env.locals:=fun x c e z=>by
 obtain ⟨v,o,ho,hd⟩:=I.cell x c e
 obtain ⟨m,⟨o',es,ep,ho',hd',_⟩,_⟩:=I.loc
 rw [z,ho'] at ho; cases ho; rw [hd'] at hd; cases hd
theorem Inv.funs (I : Inv X pins σ H s) : s.heap.FunFrames X.base X.outer:=by
 have all : ∀ (l : List Env),(∀ b ∈ frs l,b ∈ X.fs) → X.s₀.heap.FunFrames X.base l → s.heap.FunFrames X.base l:=by
  intro l
  induction l with
  | nil=>intro _ _; trivial
  | cons env r ih =>
   intro hs hl
   obtain ⟨hk,⟨L,o,hf,hn,ho,hd⟩,hr⟩:=hl
   have hL : L ∈ X.fs:=hs L (by unfold frs; rw [List.filterMap_cons,hf]; exact List.mem_cons_self)
   obtain ⟨sl,e⟩:=I.base.slot L o ho (I.ok.frf L hL) hL fun z=>I.ok.exfs L z hL
   exact ⟨hk,⟨L,_,hf,hn,e,hd⟩,ih (fun b hb=>hs b (by unfold frs; rw [List.filterMap_cons,hf]; exact List.mem_cons_of_mem _ hb)) hr⟩
 exact all X.outer (fun _ hb=>hb) I.ok.funs
theorem Inv.stack (I : Inv X pins σ H s) : s.heap.FunFrames X.base X.stack:=by
 rcases I.ok.stk with e | ⟨e,hf⟩
 ·rw [e]; exact I.funs
 ·rw [e]
  obtain ⟨m,hn,_⟩:=I.loc
  refine .cons (by rw [I.ok.kind]; decide) hf hn ?_ I.funs
  exact Heap.get?_none_of_le (Nat.le_trans I.ok.bsz I.ok.above)
theorem Inv.stkSub (I : Inv X pins σ H s) : ∀ b ∈ frs X.stack,b ∈ X.env.locals :: X.fs:=fun b hb=>by
 rcases I.ok.stk with e | ⟨e,hf⟩
 ·rw [e] at hb; exact List.mem_cons_of_mem _ hb
 ·rw [e] at hb
  unfold frs at hb
  rw [List.filterMap_cons,hf] at hb
  exact hb
theorem Inv.stkFree (I : Inv X pins σ H s) : ∀ b ∈ frs X.stack,H b = none:=fun b hb=>by
 rcases List.mem_cons.mp (I.stkSub b hb) with e | hb
 ·rw [e]; exact I.free
 ·obtain ⟨_,o,ho,_⟩:=I.ok.funs.mem hb
  exact I.base.free b o ho (I.ok.frf b hb) fun z=>I.ok.exfs b z hb
theorem Inv.step {g' : Array GenState} {t' : Nat} {d' : Drawn} {ch : List Addr} (I : Inv X pins σ H s)
  (hch : ∀ b ∈ ch,(b ∈ X.ex ∨ X.s₀.heap.objs.size ≤ b) ∧ b ≠ X.env.locals ∧ (∀ x c,X.env.cells.lookup x = some c → c ≠ b) ∧ ∀ p ∈ X.pn ++ pins,p.1 ≠ b)
  (keep : ∀ b o,b ≠ X.env.locals → b ∉ X.fs → b ∉ ch → s.heap.get? b = some o → H b = none → h'.get? b = some o)
  (slot : ∀ b o,b ≠ X.env.locals → b ∈ X.fs → b ∉ ch → s.heap.get? b = some o → H b = none → ∃ sl,h'.get? b = some { o with slots:=sl }) (free : ∀ b o,b ∉ ch → s.heap.get? b = some o → H b = none → H' b = none)
  (there : ∀ b o,b ∉ ch → s.heap.get? b = some o → ∃ o',h'.get? b = some o')
  (tups : ∀ b xs,H b = some (.tup xs) → H' b = some (.tup xs)) (frzs : ∀ b o u,H b = some (.frz o u) → H' b = some (.frz o u)) (tbls : ∀ b ps,H b = some (.tbl ps) → ∃ more,H' b = some (.tbl (ps ++ more)))
  (ns : ∀ m,s.heap.Ns X.env.locals m → h'.Ns X.env.locals m) (hok : HOk X.prog X.w H' h') (hg : AllBare g') :
  Inv X pins σ H' { s with heap:=h',gens:=g',drawn:=d',toks:=t' }:=by
 have neL : ∀ b o,X.s₀.heap.get? b = some o → b ≠ X.env.locals:=fun b o e=>Nat.ne_of_lt (Nat.lt_of_lt_of_le (Heap.lt_size e) I.ok.above)
 have neC : ∀ b o,X.s₀.heap.get? b = some o → b ∉ X.ex → b ∉ ch:=fun b o e hx hb=>by
  rcases (hch b hb).1 with z | z
  ·exact hx z
  ·exact absurd (Nat.lt_of_lt_of_le (Heap.lt_size e) z) (Nat.lt_irrefl _)
 have cellK : ∀ x c,X.env.cells.lookup x = some c → ∀ v,s.heap.IsCell c v → h'.IsCell c v:=fun x c e v ⟨o,ho,hd⟩=>by
  have nch : c ∉ ch:=fun z=>(hch c z).2.2.1 x c e rfl
  by_cases hc : c ∈ X.fs
  ·obtain ⟨sl,q⟩:=slot c o (I.cne x c e) hc nch ho (I.freeC x c e)
   exact ⟨_,q,hd⟩
  ·exact ⟨o,keep c o (I.cne x c e) hc nch ho (I.freeC x c e),hd⟩
 refine ⟨I.ok,I.os,hg,⟨fun b o e n hb hx=>?_,fun b o e n hb hx=>?_,fun b o e n hx=>?_,fun b o e hx=>?_,fun b xs e=>tups b xs (I.base.tups b xs e),fun b o xs e=>frzs b o xs (I.base.frzs b o xs e),fun b ps e=>?_⟩,?_,fun x c e=>?_,?_,fun x c e=>?_,fun p hp=>?_,hok,I.len⟩
 ·exact keep b o (neL b o e) hb (neC b o e hx) (I.base.keep b o e n hb hx) (I.base.free b o e n hx)
 ·obtain ⟨sl,e1⟩:=I.base.slot b o e n hb hx
  obtain ⟨sl',e2⟩:=slot b _ (neL b o e) hb (neC b o e hx) e1 (I.base.free b o e n hx)
  exact ⟨sl',e2⟩
 ·obtain ⟨o',e1⟩:=I.base.there b o e hx
  exact free b o' (neC b o e hx) e1 (I.base.free b o e n hx)
 ·obtain ⟨o',e1⟩:=I.base.there b o e hx
  exact there b o' (neC b o e hx) e1
 ·obtain ⟨m1,e1⟩:=I.base.tbls b ps e
  obtain ⟨m2,e2⟩:=tbls b _ e1
  exact ⟨m1 ++ m2,by rw [e2,Array.append_assoc]⟩
 ·obtain ⟨m,hn,hl⟩:=I.loc
  refine ⟨m,ns m hn,fun i x v e1 e2 e3=>?_⟩
  obtain ⟨u,r,l⟩:=hl i x v e1 e2 e3
  refine ⟨u,r,?_⟩
  rcases l with l | ⟨k,c,e,z⟩
  ·exact .inl l
  ·exact .inr ⟨k,c,e,cellK x c e _ z⟩
 ·obtain ⟨v,z⟩:=I.cell x c e
  exact ⟨v,cellK x c e v z⟩
 ·obtain ⟨m,⟨o,_,_,ho,_⟩,_⟩:=I.loc
  exact free _ o (fun z=>(hch _ z).2.1 rfl) ho I.free
 ·obtain ⟨v,o,ho,hd⟩:=I.cell x c e
  exact free c o (fun z=>(hch c z).2.2.1 x c e rfl) ho (I.freeC x c e)
 ·obtain ⟨e,n,ne,nf,d⟩:=I.pin p hp
  have nch : p.1 ∉ ch:=fun z=>(hch p.1 z).2.2.2 p hp rfl
  exact ⟨keep p.1 p.2 ne nf nch e n,free p.1 p.2 nch e n,ne,nf,d⟩
theorem Inv.un {t' : Nat} (I : Inv X pins σ H s) (u : Un X.fs [] H H' s.heap h') (hok : HOk X.prog X.w H' h') : Inv X pins σ H' { s with heap:=h',toks:=t' }:=by
 obtain ⟨m,⟨o,es,ep,ho,r⟩,_⟩:=id I.loc
 obtain ⟨sl,hL⟩:=u.any ho I.free (by simp)
 exact I.step (g':=s.gens) (d':=s.drawn) (ch:=[]) (fun _ z=>nomatch z) (fun b o _ hb _ e n=>u.keep b o e n hb (by simp)) (fun b o _ hb _ e n=>u.slot b o e n hb (by simp)) (fun b o _ e n=>u.free b o e n (by simp)) (fun b o _ e=>u.there b o e (by simp)) u.tups u.frzs u.tbls (fun m' hm=>by
  obtain ⟨o',es',ep',ho',r'⟩:=hm
  rw [ho] at ho'; cases ho'
  exact ⟨_,es',ep',hL,r'⟩) hok I.bare
theorem Inv.call {g' : Array GenState} {t' : Nat} {d' : Drawn} {ch : List Addr} (I : Inv X pins σ H s) (u : Un (frs X.stack) ch H H' s.heap h') (hok : HOk X.prog X.w H' h') (hg : AllBare g')
  (hch : ∀ b ∈ ch,(b ∈ X.ex ∨ X.s₀.heap.objs.size ≤ b) ∧ b ≠ X.env.locals ∧ (∀ x c,X.env.cells.lookup x = some c → c ≠ b) ∧ ∀ p ∈ X.pn ++ pins,p.1 ≠ b) :
  Inv X pins σ H' { s with heap:=h',gens:=g',drawn:=d',toks:=t' }:=by
 obtain ⟨m,⟨o,es,ep,ho,r⟩,_⟩:=id I.loc
 obtain ⟨sl,hL⟩:=u.any ho I.free fun z=>(hch _ z).2.1 rfl
 exact I.step (ch:=ch) hch (fun b o hL hb hc e n=>u.keep b o e n (fun z=>(List.mem_cons.mp (I.stkSub b z)).elim hL hb) hc) (fun b o _ _ hc e n=>u.any e n hc) (fun b o hc e n=>u.free b o e n hc) (fun b o hc e=>u.there b o e hc) u.tups u.frzs u.tbls (fun m' hm=>by
  obtain ⟨o',es',ep',ho',r'⟩:=hm
  rw [ho] at ho'; cases ho'
  exact ⟨_,es',ep',hL,r'⟩) hok hg
theorem Inv.turned {t' : Nat} {it : Addr} (I : Inv X pins σ H s) (k : ∀ b o,b ≠ it → s.heap.get? b = some o → h'.get? b = some o) (hn : H it = none) (hL : it ≠ X.env.locals)
  (h1 : it ∈ X.ex ∨ X.s₀.heap.objs.size ≤ it) (h2 : ∀ x c,X.env.cells.lookup x = some c → c ≠ it) (h3 : ∀ p ∈ X.pn ++ pins,p.1 ≠ it) : Inv X pins σ H { s with heap:=h',toks:=t' }:=by
 have nit : ∀ b u,H b = some u → b ≠ it:=fun b u e z=>by rw [z,hn] at e; cases e
 refine I.step (g':=s.gens) (d':=s.drawn) (ch:=[it]) (fun b hb=>?_) (fun b o _ _ hc e _=>k b o (fun z=>hc (by simp [z])) e) (fun b o _ _ hc e _=>⟨o.slots,k b o (fun z=>hc (by simp [z])) e⟩) (fun _ _ _ _ n=>n)
  (fun b o hc e=>⟨o,k b o (fun z=>hc (by simp [z])) e⟩) (fun _ _ e=>e) (fun _ _ _ e=>e) (fun b ps e=>⟨#[],by rw [e]; simp⟩) (fun m hm=>?_) (fun b u e=>?_) I.bare
 ·have e : b = it:=by simpa using hb
  subst e
  exact ⟨h1,hL,h2,h3⟩
 ·obtain ⟨o,es,ep,ho,r⟩:=hm
  exact ⟨o,es,ep,k _ o (Ne.symm hL) ho,r⟩
 ·refine (I.hok b u e).stay (fun c v hc q=>k c v ?_ q) (fun _ q=>q) fun _ _ q=>q
  rcases hc with z | z
  ·rw [z]; exact nit b u e
  ·exact nit c _ z
theorem Inv.tok (I : Inv X pins σ H s) (t : Nat) : Inv X pins σ H { s with toks:=t }:=I.un (h':=s.heap) (t':=t) Un.refl I.hok
theorem Inv.kept {t' : Nat} (I : Inv X pins σ H s) (k : ∀ b u,s.heap.get? b = some u → h'.get? b = some u) : Inv X pins σ H { s with heap:=h',toks:=t' }:=I.un (Un.kept k) (I.hok.kept k)
theorem Inv.laid {a : Addr} {o : HO} {t' : Nat} (I : Inv X pins σ H s) (k : ∀ b u,s.heap.get? b = some u → h'.get? b = some u) (hp : s.heap.objs.size ≤ a) (new : J0X X.prog X.w (upd H a o) h' a o) :
  Inv X pins σ (upd H a o) { s with heap:=h',toks:=t' }:=I.un (Un.laid k hp (I.hok.fresh hp)) (I.hok.laid k hp new)
theorem Inv.write {x e : Addr} {o : HO} {t' : Nat} (I : Inv X pins σ H s) (mu : Mut (H x)) (he : e = x ∨ H e = some (.own x)) (k : ∀ b u,b ≠ e → s.heap.get? b = some u → h'.get? b = some u) (heo : ∃ u,h'.get? e = some u)
  (new : J0X X.prog X.w (upd H x o) h' x o) : Inv X pins σ (upd H x o) { s with heap:=h',toks:=t' }:=I.un (Un.write mu he k heo) (I.hok.write mu he k heo new)
theorem Inv.pins_of {pins' : List (Addr × Obj)} (I : Inv X pins σ H s) (h : ∀ p ∈ pins',s.heap.get? p.1 = some p.2 ∧ H p.1 = none ∧ p.1 ≠ X.env.locals ∧ p.1 ∉ X.fs ∧ ∀ v,p.2.data ≠ .cell v) : Inv X pins' σ H s :=
 ⟨I.ok,I.os,I.bare,I.base,I.loc,I.cell,I.free,I.freeC,fun p hp=>(List.mem_append.mp hp).elim (fun z=>I.pin p (List.mem_append_left _ z)) (h p),I.hok,I.len⟩
theorem J5z {N : List Str} (hN : N.Nodup) {i j : Nat} {x : Str} (a : N[i]? = some x) (b : N[j]? = some x) : i = j:=by
 obtain ⟨h1,e1⟩:=List.getElem?_eq_some_iff.mp a
 obtain ⟨h2,e2⟩:=List.getElem?_eq_some_iff.mp b
 exact (List.getElem_inj hN).mp (e1.trans e2.symm)
theorem J9C {M : Model} {A : Around} {E : Value → Shared → Prop} {i : Nat} {x : Str} {v : V} {u : Value} {Q : Unit → Shared → Prop} (I : Inv X pins σ H s) (hN : X.N.Nodup) (hi : X.N[i]? = some x) (hx : Loc X.env.scope x) (r : RelV v u)
  (h : ∀ s',Inv X pins (σ.set i (some v)) H s' → (∃ a,Heap.SameBut a s.heap s'.heap ∧ (a = X.env.locals ∨ X.env.cells.lookup x = some a)) → Q () s') (hf : X.fn x = true ∨ X.env.scope.names.lookup x = some .local:=by first | exact .inl rfl | exact .inr rfl | assumption) : wpAny M A (storeName X.env x u) Q E s:=by
 obtain ⟨m,hn,hl⟩:=id I.loc
 have hcls : (X.env.scope.kind == .class || (X.env.scope.kind == .module && X.env.locals != X.env.globals)) = false:=by rw [I.ok.kind]; rfl
 have hiσ : i < σ.length:=by rw [I.len]; exact (List.getElem?_eq_some_iff.mp hi).1
 have cne:=I.cne
 have tracked : ∀ {a : Addr} {h' : Heap},(∃ o,s.heap.get? a = some o ∧ H a = none) → Heap.SameBut a s.heap h' → HOk X.prog X.w H h':=fun {a h'} ha hs b ob e=>by
  obtain ⟨_,_,hfree⟩:=ha
  refine (I.hok b ob e).stay (fun c w' hc q=>(hs.2 c ?_).trans q) (fun _ q=>q) fun _ _ q=>q
  rintro rfl
  rcases hc with rfl | hc
  ·rw [hfree] at e; cases e
  ·rw [hfree] at hc; cases hc
 rcases hx with hk | hk
 ·refine wpAny_storeName_local hk hn (fun h' hn' hs=>?_) hcls
  obtain ⟨oL,_,_,hoL,_⟩:=id hn
  refine h _ ⟨I.ok,I.os,I.bare,⟨fun b o e n hb hx=>?_,fun b o e n hb hx=>?_,I.base.free,fun b o e hx=>?_,I.base.tups,I.base.frzs,I.base.tbls⟩,⟨_,hn',fun j y v' e1 e2 e3=>?_⟩,fun y c e=>?_,I.free,I.freeC,fun p hp=>?_,tracked ⟨oL,hoL,I.free⟩ hs,by simpa using I.len⟩ ⟨_,hs,.inl rfl⟩
  ·exact (hs.2 b (Nat.ne_of_lt (Nat.lt_of_lt_of_le (Heap.lt_size e) I.ok.above))).trans (I.base.keep b o e n hb hx)
  ·obtain ⟨sl,e1⟩:=I.base.slot b o e n hb hx
   exact ⟨sl,(hs.2 b (Nat.ne_of_lt (Nat.lt_of_lt_of_le (Heap.lt_size e) I.ok.above))).trans e1⟩
  ·obtain ⟨o',e1⟩:=I.base.there b o e hx
   exact ⟨o',(hs.2 b (Nat.ne_of_lt (Nat.lt_of_lt_of_le (Heap.lt_size e) I.ok.above))).trans e1⟩
  ·by_cases hj : j = i
   ·subst hj
    rw [hi] at e1; cases e1
    rw [List.getElem?_set_self hiσ] at e2
    cases e2
    exact ⟨u,r,.inl ⟨hk,by simp⟩⟩
   ·rw [List.getElem?_set_ne (Ne.symm hj)] at e2
    obtain ⟨u',r',q⟩:=hl j y v' e1 e2 e3
    refine ⟨u',r',?_⟩
    rcases q with ⟨k,e⟩ | ⟨k,c,e,z⟩
    ·refine .inl ⟨k,?_⟩
     have : y ≠ x:=fun e=>hj (J5z hN e1 (e ▸ hi))
     simp [this,e]
    ·exact .inr ⟨k,c,e,z.sameBut hs (cne y c e)⟩
  ·obtain ⟨w',z⟩:=I.cell y c e
   exact ⟨w',z.sameBut hs (cne y c e)⟩
  ·obtain ⟨e,n,ne,nf,d⟩:=I.pin p hp
   exact ⟨(hs.2 p.1 ne).trans e,n,ne,nf,d⟩
 ·have hfn : X.fn x = true:=by
   rcases hf with z | z
   ·exact z
   ·rw [z] at hk; cases hk
  obtain ⟨c,hc⟩:=I.ok.has x (.inl hk)
  obtain ⟨w',z⟩:=I.cell x c hc
  refine wpAny_storeName_cell I.ok.kind hk hc z (fun h' hc' hs=>?_)
  obtain ⟨oc,hoc,hocd⟩:=id z
  refine h { s with heap:=h' } ⟨I.ok,I.os,I.bare,⟨fun b o e n hb hx=>?_,fun b o e n hb hx=>?_,I.base.free,fun b o e hx=>?_,I.base.tups,I.base.frzs,I.base.tbls⟩,⟨m,hn.sameBut hs (Ne.symm (cne x c hc)),fun j y v' e1 e2 e3=>?_⟩,fun y c' e=>?_,I.free,I.freeC,fun p hp=>?_,tracked ⟨oc,hoc,I.freeC x c hc⟩ hs,by simpa using I.len⟩ ⟨c,hs,.inr hc⟩
  ·exact (hs.2 b (Nat.ne_of_lt (Nat.lt_of_lt_of_le (Heap.lt_size e) (I.ok.cab x c hfn hc)))).trans (I.base.keep b o e n hb hx)
  ·obtain ⟨sl,e1⟩:=I.base.slot b o e n hb hx
   exact ⟨sl,(hs.2 b (Nat.ne_of_lt (Nat.lt_of_lt_of_le (Heap.lt_size e) (I.ok.cab x c hfn hc)))).trans e1⟩
  ·obtain ⟨o',e1⟩:=I.base.there b o e hx
   exact ⟨o',(hs.2 b (Nat.ne_of_lt (Nat.lt_of_lt_of_le (Heap.lt_size e) (I.ok.cab x c hfn hc)))).trans e1⟩
  ·by_cases hj : j = i
   ·subst hj
    rw [hi] at e1; cases e1
    rw [List.getElem?_set_self hiσ] at e2
    cases e2
    exact ⟨u,r,.inr ⟨.inl hk,c,hc,hc'⟩⟩
   ·rw [List.getElem?_set_ne (Ne.symm hj)] at e2
    obtain ⟨u',r',q⟩:=hl j y v' e1 e2 e3
    refine ⟨u',r',?_⟩
    rcases q with q | ⟨k,c',e,z'⟩
    ·exact .inl q
    ·refine .inr ⟨k,c',e,z'.sameBut hs ?_⟩
     rintro rfl
     exact hj (J5z hN e1 (I.ok.inj _ _ _ e hc ▸ hi))
  ·by_cases hcc : c' = c
   ·subst hcc; exact ⟨_,hc'⟩
   ·obtain ⟨w2,z2⟩:=I.cell y c' e
    exact ⟨w2,z2.sameBut hs hcc⟩
  ·obtain ⟨e,n,ne,nf,d⟩:=I.pin p hp
   refine ⟨(hs.2 p.1 ?_).trans e,n,ne,nf,d⟩
   intro q
   rw [q,hoc] at e
   have q' : oc = p.2:=Option.some.inj e
   exact d w' (by rw [← q']; exact hocd)
theorem J3V {M : Model} {A : Around} {E : Value → Shared → Prop} {i : Nat} {x : Str} {v : V} {u : Value} {Q : Unit → Shared → Prop} (I : Inv X pins σ H s) (hN : X.N.Nodup) (hi : X.N[i]? = some x) (hx : Loc X.env.scope x) (r : RelV v u)
  (h : ∀ s',Inv X pins (σ.set i (some v)) H s' → Q () s') (hf : X.fn x = true ∨ X.env.scope.names.lookup x = some .local:=by first | exact .inl rfl | exact .inr rfl | assumption) : wpAny M A (storeName X.env x u) Q E s :=
 J9C I hN hi hx r (fun s' I' _=>h s' I') hf
theorem Inv.call' {s' : Shared} {ch : List Addr} (I : Inv X pins σ H s) (ho : s'.os = s.os) (u : Un (frs X.stack) ch H H' s.heap s'.heap) (hok : HOk X.prog X.w H' s'.heap) (hg : AllBare s'.gens)
  (hch : ∀ b ∈ ch,(b ∈ X.ex ∨ X.s₀.heap.objs.size ≤ b) ∧ b ≠ X.env.locals ∧ (∀ x c,X.env.cells.lookup x = some c → c ≠ b) ∧ ∀ p ∈ X.pn ++ pins,p.1 ≠ b) : Inv X pins σ H' s':=by
 obtain ⟨h',g',d',t',o'⟩:=s'
 have e : o' = s.os:=ho
 subst e
 exact I.call (g':=g') (t':=t') (d':=d') u hok hg hch
end
noncomputable abbrev XK:=Value → Option Addr → Hp → Prop
noncomputable abbrev St:=List (Option V)
noncomputable abbrev VK:=V → Hp → Prop
noncomputable abbrev TE:=St → Hp → VK → Prop
noncomputable abbrev TT:=St → Hp → (Bool → Hp → Prop) → Prop
noncomputable abbrev TA:=St → Hp → (List V → Hp → Prop) → Prop
structure Ends where
 nx : St → Hp → Prop
 rt : VK
 bk : St → Hp → Prop:=fun _ _=>False
 ct : St → Hp → Prop:=fun _ _=>False
noncomputable abbrev TS:=Ends → St → Hp → Prop
noncomputable def EP (X : Cx) (pins : List (Addr × Obj)) (σ : St) (Q : VK) (u : Value) (s' : Shared) : Prop:=∃ v H',Inv X pins σ H' s' ∧ RelV v u ∧ Q v H'
noncomputable def TP (X : Cx) (pins : List (Addr × Obj)) (σ : St) (Q : Bool → Hp → Prop) (b : Bool) (s' : Shared) : Prop:=∃ H',Inv X pins σ H' s' ∧ Q b H'
noncomputable def AP (X : Cx) (pins : List (Addr × Obj)) (σ : St) (Q : List V → Hp → Prop) (us : List Value) (s' : Shared) : Prop:=∃ vs H',Inv X pins σ H' s' ∧ Vals vs us ∧ Q vs H'
noncomputable def SP (X : Cx) (pins : List (Addr × Obj)) (D : Ends) (f : Flow) (s' : Shared) : Prop :=
 match f with
 | .next=>∃ σ' H',Inv X pins σ' H' s' ∧ D.nx σ' H'
 | .brk=>∃ σ' H',Inv X pins σ' H' s' ∧ D.bk σ' H'
 | .cont=>∃ σ' H',Inv X pins σ' H' s' ∧ D.ct σ' H'
 | .ret u=>∃ v σ' H',Inv X pins σ' H' s' ∧ RelV v u ∧ D.rt v H'
noncomputable def PE (X : Cx) (e : Expr) (t : TE) : Prop :=
 ∀ (pins : List (Addr × Obj)) (s : Shared) (σ : St) (H : Hp) (Q : VK),Inv X pins σ H s → t σ H Q → wpAny (model X.prog X.w) X.A (eval e X.env) (EP X pins σ Q) X.xe s
noncomputable def PT (X : Cx) (e : Expr) (t : TT) : Prop :=
 ∀ (pins : List (Addr × Obj)) (s : Shared) (σ : St) (H : Hp) (Q : Bool → Hp → Prop),Inv X pins σ H s → t σ H Q → wpAny (model X.prog X.w) X.A (isTrue e X.env (eval e X.env)) (TP X pins σ Q) X.xe s
noncomputable def PW (X : Cx) (e : Expr) (t : TT) : Prop :=
 ∀ (whole : Sem Value) (pins : List (Addr × Obj)) (s : Shared) (σ : St) (H : Hp) (Q : Bool → Hp → Prop),Inv X pins σ H s → t σ H Q → wpAny (model X.prog X.w) X.A (isTrue e X.env whole) (TP X pins σ Q) X.xe s
theorem PW.pt {X : Cx} {e : Expr} {t : TT} (h : PW X e t) : PT X e t:=h _
noncomputable def PA (X : Cx) (es : List Expr) (t : TA) : Prop :=
 ∀ (pos : Pos) (pins : List (Addr × Obj)) (s : Shared) (σ : St) (H : Hp) (Q : List V → Hp → Prop),Inv X pins σ H s → t σ H Q → wpAny (model X.prog X.w) X.A (spliced (backTo pos (starEach es X.env))) (AP X pins σ Q) X.xe s
noncomputable def PS (X : Cx) (st : Stmt) (t : TS) : Prop :=
 ∀ (pins : List (Addr × Obj)) (s : Shared) (σ : St) (H : Hp) (D : Ends),Inv X pins σ H s → t D σ H → wpAny (model X.prog X.w) X.A (exec st X.env) (SP X pins D) X.xe s
noncomputable def PSs (X : Cx) (st : List Stmt) (t : TS) : Prop :=
 ∀ (pins : List (Addr × Obj)) (s : Shared) (σ : St) (H : Hp) (D : Ends),Inv X pins σ H s → t D σ H → wpAny (model X.prog X.w) X.A (execs st X.env) (SP X pins D) X.xe s
theorem thn {α : Type} {t : Sem α} {Q Q' : α → Shared → Prop} {M : Model} {A : Around} {E : Value → Shared → Prop} {s : Shared} (h : wpAny M A t Q E s) (hQ : ∀ a s,Q a s → Q' a s) : wpAny M A t Q' E s:=wpAny_mono h hQ fun _ _ x=>x
end L2
namespace L2
open PySem PySem.Spec PyProof.Rows
section
variable {X : Cx}
noncomputable def tVar (i : Nat) : TE:=fun σ H Q=>∃ v,σ[i]? = some (some v) ∧ Q v H
noncomputable def tC (v : V) : TE:=fun _ H Q=>Q v H
theorem JcJ {i : Nat} {x : Str} {pos : Pos} (hN : X.N[i]? = some x) (hv : Vis X.env.scope x) (hd : (x == ("__debug__" : Str)) = false:=by decide) (hcd : (x == ("__classdict__" : Str)) = false:=by decide) : PE X (.Name x pos) (tVar i):=by
 intro pins s σ H Q I h
 obtain ⟨v,e,h⟩:=h
 obtain ⟨m,hn,hl⟩:=I.loc
 obtain ⟨u,r,l⟩:=hl i x v hN e hv
 have fin : EP X pins σ Q u s:=⟨v,H,I,r,h⟩
 rcases l with ⟨hk,hm⟩ | ⟨hk,c,hc,hcell⟩
 ·exact wpAny_Name (wpAny_loadName_local I.ok.kind hk hn hm fin) hd
 ·rcases hk with hk | hk
  ·exact wpAny_Name (wpAny_loadName_cell I.ok.kind hk hc hcell fin) hd
  ·exact wpAny_Name (wpAny_loadName_free I.ok.kind hk hc hcell fin hcd) hd
theorem J1 {i j pos} : PE X (.Constant (.int i) j pos) (tC (.int i)):=fun _ _ _ H _ I h=>wpAny_Constant_int ⟨.int i,H,I.tok _,⟨_,rfl⟩,h⟩
theorem J2V {b j pos} : PE X (.Constant (.bool b) j pos) (tC (.bl b)):=fun _ _ _ H _ I h=>Constant_bool ⟨.bl b,H,I,rfl,h⟩
theorem Jcw {j pos} : PE X (.Constant .none j pos) (tC .non):=fun _ _ _ H _ I h=>Constant_none ⟨.non,H,I,rfl,h⟩
theorem JcN {x j pos} : PE X (.Constant (.str x) j pos) (tC (.str x)):=fun _ _ _ H _ I h=>Calls.Constant_str ⟨.str x,H,I.tok _,⟨_,rfl⟩,h⟩
noncomputable def Gl (X : Cx) (x : Str) : Prop:=X.env.kindOf x = some .globalImplicit
theorem J3f {E : Value → Shared → Prop} {pins : List (Addr × Obj)} {s : Shared} {σ : St} {H : Hp} {x : Str} {u : Value} {pos : Pos} {Q : Value → Shared → Prop} (I : Inv X pins σ H s) (hg : Gl X x) (hm : X.mg x = some u) (h : Q u s)
  (hd : (x == ("__debug__" : Str)) = false:=by decide) : wpAny (model X.prog X.w) X.A (eval (.Name x pos) X.env) Q E s :=
 Calls.Name_function_global I.ok.kind hg (Calls.loadGlobal_global (by rw [I.ok.glob]; exact I.mod.glob.keeps I.bk) hm h) hd
theorem J4k {E : Value → Shared → Prop} {pins : List (Addr × Obj)} {s : Shared} {σ : St} {H : Hp} {x : Str} {u : Value} {pos : Pos} {Q : Value → Shared → Prop} (I : Inv X pins σ H s) (hg : Gl X x) (hm : X.mg x = none) (hv : bootBuiltins x = some u) (h : Q u s)
  (hn : x ≠ "__name__":=by decide) (hd : (x == ("__debug__" : Str)) = false:=by decide) : wpAny (model X.prog X.w) X.A (eval (.Name x pos) X.env) Q E s:=by
 obtain ⟨mb,h1,h2⟩:=I.mod.blt
 exact Calls.Name_function_global I.ok.kind hg (Calls.loadGlobal_builtin (by rw [I.ok.glob]; exact I.mod.glob.keeps I.bk) hm (by rw [I.ok.blt]; exact h1.keeps I.bk) ((h2 x hn).trans hv) h) hd
theorem J0W {x : Str} {v : V} {u : Value} {pos : Pos} (hg : Gl X x) (hm : X.mg x = some u) (r : RelV v u) (hd : (x == ("__debug__" : Str)) = false:=by decide) : PE X (.Name x pos) (tC v) :=
 fun _ _ _ H _ I h=>J3f I hg hm ⟨v,H,I,r,h⟩ hd
theorem Jbb {x : Str} {v : V} {u : Value} {pos : Pos} (hg : Gl X x) (hm : X.mg x = none) (hv : bootBuiltins x = some u) (r : RelV v u) (hn : x ≠ "__name__":=by decide) (hd : (x == ("__debug__" : Str)) = false:=by decide) : PE X (.Name x pos) (tC v) :=
 fun _ _ _ H _ I h=>J4k I hg hm hv ⟨v,H,I,r,h⟩ hn hd
variable {a b : Expr} {ta tb : TE} {pos : Pos}
noncomputable def tB (t : TE) : TT:=fun σ H Q=>t σ H fun x H1=>∃ c,x = .bl c ∧ Q c H1
theorem J2u {e : Expr} {t : TE} (h : PE X e t) (he : ∀ whole,isTrue e X.env whole = (do let v ← whole; standAt e.pos; holding [v] (truthy v)):=by intro _; rfl) : PT X e (tB t):=by
 intro pins s σ H Q I hw
 refine isTrue_plain (thn (h pins s σ H _ I hw) fun v s1 ⟨x,H1,I1,r1,q1⟩=>?_) (he _)
 obtain ⟨d,rfl,q⟩:=q1
 cases r1
 exact wpAny_truthy_bool ⟨H1,I1,q⟩
variable {tA tB' : TT} {rest : List Expr}
noncomputable def tAnd (t u : TT) : TT:=fun σ H Q=>t σ H fun c H1=>if c = true then u σ H1 Q else Q false H1
noncomputable def tOr (t u : TT) : TT:=fun σ H Q=>t σ H fun c H1=>if c = true then Q true H1 else u σ H1 Q
noncomputable def tNot (t : TT) : TT:=fun σ H Q=>t σ H fun c H1=>Q (!c) H1
theorem J4X (ha : PT X a tA) : PW X (.BoolOp .And [a] pos) tA:=by
 intro wh pins s σ H Q I h
 refine isTrue_and (thn (ha pins s σ H Q I h) fun c s1 e=>?_)
 cases c with
 | true=>exact isTrue_and_nil e
 | false=>exact e
theorem J4s (ha : PT X a tA) : PW X (.BoolOp .Or [a] pos) tA:=by
 intro wh pins s σ H Q I h
 refine isTrue_or (thn (ha pins s σ H Q I h) fun c s1 e=>?_)
 cases c with
 | false=>exact isTrue_or_nil e
 | true=>exact e
theorem J5A (ha : PT X a tA) (hb : PW X (.BoolOp .And (b :: rest) pos) tB') : PW X (.BoolOp .And (a :: b :: rest) pos) (tAnd tA tB'):=by
 intro wh pins s σ H Q I h
 refine isTrue_and (thn (ha pins s σ H _ I h) fun c s1 ⟨H1,I1,q1⟩=>?_)
 cases c with
 | true=>exact hb wh pins s1 σ H1 Q I1 q1
 | false=>exact ⟨H1,I1,q1⟩
theorem J3q (ha : PT X a tA) (hb : PW X (.BoolOp .Or (b :: rest) pos) tB') : PW X (.BoolOp .Or (a :: b :: rest) pos) (tOr tA tB'):=by
 intro wh pins s σ H Q I h
 refine isTrue_or (thn (ha pins s σ H _ I h) fun c s1 ⟨H1,I1,q1⟩=>?_)
 cases c with
 | true=>exact ⟨H1,I1,q1⟩
 | false=>exact hb wh pins s1 σ H1 Q I1 q1
theorem J6R (ha : PT X a tA) : PT X (.UnaryOp .Not a pos) (tNot tA):=by
 intro pins s σ H Q I h
 exact isTrue_not (ha pins s σ H (fun c H1=>Q (!c) H1) I h)
noncomputable def Jdf (ta tb : TE) : TE:=fun σ H Q=>ta σ H fun x H1=>∃ c,x = .bl c ∧ if c = true then tb σ H1 Q else Q (.bl false) H1
noncomputable def tOrV (ta tb : TE) : TE:=fun σ H Q=>ta σ H fun x H1=>∃ c,x = .bl c ∧ if c = true then Q (.bl true) H1 else tb σ H1 Q
noncomputable def Jd3 (ta : TE) : TE:=fun σ H Q=>ta σ H fun x H1=>∃ c,x = .bl c ∧ Q (.bl (!c)) H1
theorem J2t {op} {t : TE} (h : PE X a t) : PE X (.BoolOp op [a] pos) t:=fun pins s σ H Q I hw=>BoolOp_one (h pins s σ H Q I hw)
theorem J2w (ha : PE X a ta) (hb : PE X (.BoolOp .And (b :: rest) pos) tb) : PE X (.BoolOp .And (a :: b :: rest) pos) (Jdf ta tb):=by
 intro pins s σ H Q I h
 refine BoolOp_and (thn (ha pins s σ H _ I h) fun v s1 ⟨x,H1,I1,r1,q1⟩=>?_)
 obtain ⟨c,rfl,q1⟩:=q1
 cases r1
 refine wpAny_truthy_bool ?_
 cases c with
 | true=>exact hb pins s1 σ H1 Q I1 q1
 | false=>exact ⟨.bl false,H1,I1,rfl,q1⟩
theorem J5Y (ha : PE X a ta) (hb : PE X (.BoolOp .Or (b :: rest) pos) tb) : PE X (.BoolOp .Or (a :: b :: rest) pos) (tOrV ta tb):=by
 intro pins s σ H Q I h
 refine BoolOp_or (thn (ha pins s σ H _ I h) fun v s1 ⟨x,H1,I1,r1,q1⟩=>?_)
 obtain ⟨c,rfl,q1⟩:=q1
 cases r1
 refine wpAny_truthy_bool ?_
 cases c with
 | false=>exact hb pins s1 σ H1 Q I1 q1
 | true=>exact ⟨.bl true,H1,I1,rfl,q1⟩
theorem JcC (ha : PE X a ta) : PE X (.UnaryOp .Not a pos) (Jd3 ta):=by
 intro pins s σ H Q I h
 refine UnaryOp_ (thn (ha pins s σ H _ I h) fun v s1 ⟨x,H1,I1,r1,q1⟩=>?_)
 obtain ⟨c,rfl,q1⟩:=q1
 cases r1
 exact not_of (wpAny_truthy_bool ⟨.bl (!c),H1,I1,rfl,q1⟩)
noncomputable def tIf (t : TT) (ta tb : TE) : TE:=fun σ H Q=>t σ H fun c H1=>if c = true then ta σ H1 Q else tb σ H1 Q
theorem Jam {c : Expr} (hc : PT X c tA) (ha : PE X a ta) (hb : PE X b tb) : PE X (.IfExp c a b pos) (tIf tA ta tb):=by
 intro pins s σ H Q I h
 refine wpAny_IfExp (thn (hc pins s σ H _ I h) fun d s1 ⟨H1,I1,q1⟩=>?_)
 cases d with
 | true=>exact ha pins s1 σ H1 Q I1 q1
 | false=>exact hb pins s1 σ H1 Q I1 q1
end
end L2
namespace L2
open PySem PySem.Spec PyProof.Rows
noncomputable def SqL (K : PySem.W.Frag) (H : Hp) (a : Addr) (xs : List V) : Prop :=
 Rd H a (.lst xs) ∨
  ∃ (o : Obj) (its : Array Value) (n : Nat),K.lookup a = some o ∧ o.cls = .type "list" ∧ o.dict = none ∧ o.data = .seq its n ∧ its.size ≤ sizeLine ∧ Vals xs its.toList
noncomputable def SqT (K : PySem.W.Frag) (H : Hp) (a : Addr) (xs : List V) : Prop :=
 Rd H a (.tup xs) ∨
  ∃ (o : Obj) (its : Array Value) (n : Nat),K.lookup a = some o ∧ o.cls = .type "tuple" ∧ o.data = .seq its n ∧ its.size ≤ sizeLine ∧ Vals xs its.toList
noncomputable def absV : Value → Option V
 | .none=>some .non
 | .bool b=>some (.bl b)
 | .int i _=>some (.int i)
 | .str x _=>some (.str x)
 | .bytes b _=>some (.byt b)
 | .float b _=>some (.flt b)
 | .ref a=>some (.ref a)
 | .type n=>some (.ty n)
 | _=>none
theorem RelV.abs {x : V} {u : Value} (r : RelV x u) : absV u = some x:=by
 cases x with
 | non=>cases r; rfl
 | bl _=>cases r; rfl
 | int _=>obtain ⟨t,rfl⟩:=r; rfl
 | str _=>obtain ⟨t,rfl⟩:=r; rfl
 | byt _=>obtain ⟨t,rfl⟩:=r; rfl
 | flt _=>obtain ⟨t,rfl⟩:=r; rfl
 | ref _=>cases r; rfl
 | ty _=>cases r; rfl
theorem RelV.inj {x y : V} {u : Value} (r : RelV x u) (q : RelV y u) : x = y:=Option.some.inj (r.abs.symm.trans q.abs)
theorem Vals.inj : ∀ {xs ys : List V} {us : List Value},Vals xs us → Vals ys us → xs = ys
 | _,_,_,.nil,.nil=>rfl
 | _,_,_,.cons r t,.cons r' t'=>by rw [r.inj r',Vals.inj t t']
section
variable {X : Cx} {pins : List (Addr × Obj)} {σ : St} {H : Hp} {s : Shared} {a : Addr} {xs ys : List V}
theorem SqL.of {K : PySem.W.Frag} (h : H a = some (.lst xs)) : SqL K H a xs:=.inl (.inl h)
theorem SqT.of {K : PySem.W.Frag} (h : H a = some (.tup xs)) : SqT K H a xs:=.inl (.inl h)
theorem Inv.list (I : Inv X pins σ H s) (h : SqL X.K H a xs) : ∃ its : List Value,Vals xs its ∧ PlainL s.heap a its.toArray ∧ xs.length ≤ sizeLine:=by
 rcases h with h | ⟨o,its,n,hk,hc,hd,hs,hz,r⟩
 ·obtain ⟨z,its,n,r,e⟩:=h.ok I.hok
  exact ⟨its,r,⟨_,n,e,rfl,rfl,rfl⟩,z⟩
 ·refine ⟨its.toList,r,⟨o,n,I.kIn a o hk,hc,hd,by simpa using hs⟩,?_⟩
  have e:=r.length
  simp only [Array.length_toList] at e
  omega
theorem Inv.tuple (I : Inv X pins σ H s) (h : SqT X.K H a xs) : ∃ its : List Value,Vals xs its ∧ IsTup s.heap a its.toArray ∧ xs.length ≤ sizeLine:=by
 rcases h with h | ⟨o,its,n,hk,hc,hs,hz,r⟩
 ·obtain ⟨z,its,r,p⟩:=h.ok I.hok
  exact ⟨its,r,p,z⟩
 ·refine ⟨its.toList,r,⟨o,I.kIn a o hk,hc,n,by simpa using hs⟩,?_⟩
  have e:=r.length
  simp only [Array.length_toList] at e
  omega
theorem Inv.list_inj (I : Inv X pins σ H s) (h : SqL X.K H a xs) (h' : SqL X.K H a ys) : xs = ys:=by
 obtain ⟨its,r,⟨o,n,e,_,_,d⟩,_⟩:=I.list h
 obtain ⟨its',r',⟨o',n',e',_,_,d'⟩,_⟩:=I.list h'
 rw [e] at e'; cases e'
 rw [d] at d'
 injection d' with d1 _
 have : its = its':=by simpa using congrArg Array.toList d1
 subst this
 exact r.inj r'
end
noncomputable abbrev Cx.wish (X : Cx) (E : Value → Shared → Prop) : Cx:={ X with xe:=E }
noncomputable abbrev Cx.nox (X : Cx) : Cx:=X.wish fun _ _=>False
theorem Cx.Ok.wish {X : Cx} (ok : X.Ok) (E : Value → Shared → Prop) : (X.wish E).Ok :=
 ⟨ok.mod,ok.kind,ok.glob,ok.blt,ok.above,ok.inj,ok.has,ok.cab,ok.hd,ok.frames,ok.stk,ok.exf,ok.bs,ok.bsz,ok.noex,ok.exfs,ok.funs,ok.frf⟩
theorem Cx.Ok.unwish {X : Cx} {E : Value → Shared → Prop} (ok : (X.wish E).Ok) : X.Ok :=
 ⟨ok.mod,ok.kind,ok.glob,ok.blt,ok.above,ok.inj,ok.has,ok.cab,ok.hd,ok.frames,ok.stk,ok.exf,ok.bs,ok.bsz,ok.noex,ok.exfs,ok.funs,ok.frf⟩
section
variable {X : Cx} {pins : List (Addr × Obj)} {σ : St} {H : Hp} {s : Shared} {E : Value → Shared → Prop}
theorem Inv.wish (I : Inv X pins σ H s) (E : Value → Shared → Prop) : Inv (X.wish E) pins σ H s:=⟨I.ok.wish E,I.os,I.bare,I.base,I.loc,I.cell,I.free,I.freeC,I.pin,I.hok,I.len⟩
theorem Inv.unwish (I : Inv (X.wish E) pins σ H s) : Inv X pins σ H s:=⟨I.ok.unwish,I.os,I.bare,I.base,I.loc,I.cell,I.free,I.freeC,I.pin,I.hok,I.len⟩
theorem SP.unwish {D : Ends} {f : Flow} {s' : Shared} (h : SP (X.wish E) pins D f s') : SP X pins D f s':=by
 cases f with
 | next=>obtain ⟨σ',H',I,q⟩:=h; exact ⟨σ',H',I.unwish,q⟩
 | brk=>obtain ⟨σ',H',I,q⟩:=h; exact ⟨σ',H',I.unwish,q⟩
 | cont=>obtain ⟨σ',H',I,q⟩:=h; exact ⟨σ',H',I.unwish,q⟩
 | ret u=>obtain ⟨v,σ',H',I,r,q⟩:=h; exact ⟨v,σ',H',I.unwish,r,q⟩
theorem PSs.nox {st : List Stmt} {t : TS} (h : PSs X.nox st t) : PSs X st t:=fun pins s σ H D I hw =>
 wpAny_mono (h pins s σ H D (I.wish _) hw) (fun _ _ q=>q.unwish) fun _ _ z=>False.elim z
end
section
variable {X : Cx} {st : Stmt} {rest : List Stmt} {t u : TS} {e : Expr} {te : TE} {pos : Pos}
noncomputable def Jdg : TS:=fun D σ H=>D.nx σ H
noncomputable def tSeq (t u : TS) : TS:=fun D σ H=>t { D with nx:=u D } σ H
theorem JE : PSs X [] Jdg:=fun _ _ σ H _ I h=>wpAny_execs_nil ⟨σ,H,I,h⟩
theorem Jb (h1 : PS X st t) (h2 : PSs X rest u) : PSs X (st :: rest) (tSeq t u):=by
 intro pins s σ H D I h
 refine wpAny_execs_cons (thn (h1 pins s σ H { D with nx:=u D } I h) fun f s1 q=>?_)
 cases f with
 | next =>
  obtain ⟨σ',H',I',q⟩:=q
  exact h2 pins s1 σ' H' D I' q
 | ret v=>exact q
 | brk=>exact q
 | cont=>exact q
theorem Jc (h1 : PS X st t) : PSs X [st] t:=by
 intro pins s σ H D I h
 refine wpAny_execs_cons (thn (h1 pins s σ H D I h) fun f s1 q=>?_)
 cases f with
 | next=>exact wpAny_execs_nil q
 | ret v=>exact q
 | brk=>exact q
 | cont=>exact q
theorem Inv.quiet {pins : List (Addr × Obj)} {σ : St} {H : Hp} {s : Shared} (I : Inv X pins σ H s) : interactive X.env = false:=by simp [interactive,I.ok.kind]
noncomputable def JbS (te : TE) : TS:=fun D σ H=>te σ H fun _ H1=>D.nx σ H1
theorem J6O (he : PE X e te) (hs : swapsWith e none pos.line X.env = pure false:=by rfl) : PS X (.Expr e pos) (JbS te):=by
 intro pins s σ H D I h
 exact wpAny_Expr_any (thn (he pins s σ H _ I h) fun v s1 ⟨x,H1,I1,r1,q1⟩=>⟨σ,H1,I1,q1⟩) I.quiet hs
noncomputable def tRet (te : TE) : TS:=fun D σ H=>te σ H D.rt
theorem Jx (he : PE X e te) : PS X (.Return (some e) pos) (tRet te):=by
 intro pins s σ H D I h
 exact wpAny_Return_some (thn (he pins s σ H _ I h) fun v s1 ⟨x,H1,I1,r1,q1⟩=>⟨x,σ,H1,I1,r1,q1⟩)
noncomputable def tIfS (c : TT) (t u : TS) : TS:=fun D σ H=>c σ H fun b H1=>if b = true then t D σ H1 else u D σ H1
theorem JQ {c : Expr} {a b : List Stmt} {tc : TT} (hc : PT X c tc) (ha : PSs X a t) (hb : PSs X b u) : PS X (.If c a b pos) (tIfS tc t u):=by
 intro pins s σ H D I h
 refine wpAny_If (thn (hc pins s σ H _ I h) fun d s1 ⟨H1,I1,q1⟩=>?_)
 cases d with
 | true=>exact ha pins s1 σ H1 D I1 q1
 | false=>exact hb pins s1 σ H1 D I1 q1
end
noncomputable abbrev TG:=V → St → Hp → (St → Hp → Prop) → Prop
noncomputable abbrev TGs:=List V → St → Hp → (St → Hp → Prop) → Prop
noncomputable def PG (X : Cx) (target : Expr) (t : TG) : Prop :=
 ∀ (pins : List (Addr × Obj)) (s : Shared) (σ : St) (H : Hp) (v : V) (u : Value) (Q : St → Hp → Prop),Inv X pins σ H s → RelV v u → t v σ H Q →
  wpAny (model X.prog X.w) X.A (assign target X.env u) (fun _ s'=>∃ σ' H',Inv X pins σ' H' s' ∧ Q σ' H') X.xe s
noncomputable def PGs (X : Cx) (ts : List Expr) (t : TGs) : Prop :=
 ∀ (pins : List (Addr × Obj)) (s : Shared) (σ : St) (H : Hp) (vs : List V) (us : List Value) (Q : St → Hp → Prop),Inv X pins σ H s → Vals vs us → t vs σ H Q →
  wpAny (model X.prog X.w) X.A (assignInOrder ((assignEach ts X.env).map (·.2)) us) (fun _ s'=>∃ σ' H',Inv X pins σ' H' s' ∧ Q σ' H') X.xe s
noncomputable abbrev TSet:=V → V → V → Hp → (Hp → Prop) → Prop
noncomputable def PSet (X : Cx) (t : TSet) : Prop :=
 ∀ (pins : List (Addr × Obj)) (s : Shared) (σ : St) (H : Hp) (o i v : V) (ov iv u : Value) (Q : Hp → Prop),Inv X pins σ H s → RelV o ov → RelV i iv → RelV v u → t o i v H Q →
  wpAny (model X.prog X.w) X.A (setItem ov iv u) (fun _ s'=>∃ H',Inv X pins σ H' s' ∧ Q H') X.xe s
noncomputable abbrev TIp:=V → V → Hp → VK → Prop
noncomputable def PIp (X : Cx) (op : Operator) (t : TIp) : Prop :=
 ∀ (pins : List (Addr × Obj)) (s : Shared) (σ : St) (H : Hp) (x y : V) (v u : Value) (Q : VK),Inv X pins σ H s → RelV x v → RelV y u → t x y H Q →
  wpAny (model X.prog X.w) X.A (inplaceOp op v u) (EP X pins σ Q) X.xe s
section
variable {X : Cx} {pos : Pos}
noncomputable def J4z (i : Nat) : TG:=fun v σ H Q=>Q (σ.set i (some v)) H
theorem J1E {i : Nat} {x : Str} (hN : X.N.Nodup) (hi : X.N[i]? = some x) (hx : Loc X.env.scope x) (hf : X.fn x = true ∨ X.env.scope.names.lookup x = some .local:=by first | exact .inl rfl | exact .inr rfl | assumption) : PG X (.Name x pos) (J4z i):=by
 intro pins s σ H v u Q I r h
 exact wpAny_assign_Name (J3V I hN hi hx r (fun s' I'=>⟨_,H,I',h⟩) hf)
noncomputable def gNil : TGs:=fun vs σ H Q=>vs = [] ∧ Q σ H
noncomputable def Jd7 (t : TG) (u : TGs) : TGs:=fun vs σ H Q=>∃ v r,vs = v :: r ∧ t v σ H fun σ' H'=>u r σ' H' Q
theorem Jbn : PGs X [] gNil:=by
 intro pins s σ H vs us Q I r h
 obtain ⟨e,h⟩:=h
 subst e
 cases r
 exact assignInOrder_nil ⟨σ,H,I,h⟩
theorem J82 {e : Expr} {es : List Expr} {t : TG} {u : TGs} (h1 : PG X e t) (h2 : PGs X es u)
  (hs : (assignEach (e :: es) X.env).map (·.2) = assign e X.env :: (assignEach es X.env).map (·.2):=by rfl) : PGs X (e :: es) (Jd7 t u):=by
 intro pins s σ H vs us Q I r h
 obtain ⟨v,vr,e1,h⟩:=h
 subst e1
 cases r with
 | cons r rr =>
  rw [hs]
  refine assignInOrder_cons (thn (h1 pins s σ H _ _ _ I r h) fun _ s1 ⟨σ1,H1,I1,q1⟩=>?_)
  exact h2 pins s1 σ1 H1 _ _ Q I1 rr q1
noncomputable def gTup (K : PySem.W.Frag) (n : Nat) (t : TGs) : TG:=fun v σ H Q=>∃ a xs,v = .ref a ∧ SqT K H a xs ∧ xs.length = n ∧ t xs σ H Q
theorem JcF {es : List Expr} {k : Nat} {t : TGs} {n : Nat} (hc : X.calm = true) (h : PGs X es t)
  (hn : (assignEach es X.env).length = n:=by rfl) (hst : (assignEach es X.env).findIdx? (·.1) = none:=by rfl) : PG X (.Tuple es k pos) (gTup X.K n t):=by
 intro pins s σ H v u Q I r hw
 obtain ⟨a,xs,e1,hq,hl,hw⟩:=hw
 subst e1
 cases r
 obtain ⟨its,rv,ht,hz⟩:=I.tuple hq
 refine assign_Tuple_tuple (I.ok.hd hc) ht (by simp [hn,← hl,rv.length]) hst fun h' hx=>?_
 have I1 : Inv X pins σ H { s with heap:=h' }:=I.kept (t':=s.toks) fun b o e=>hx b o (Nat.ne_of_lt (Heap.lt_size e)) e
 exact h pins _ σ H xs _ Q I1 (by simpa using rv) hw
noncomputable def gSub (to ti : TE) (t : TSet) : TG:=fun v σ H Q=>to σ H fun o H1=>ti σ H1 fun i H2=>t o i v H2 fun H3=>Q σ H3
theorem J8y {o i : Expr} {to ti : TE} {t : TSet} (ho : PE X o to) (hi : PE X i ti) (hs : PSet X t)
  (ha : ∀ v,assign (.Subscript o i pos) X.env v = (do
   let ov ← holding [v] (eval o X.env)
   let iv ← holding [v,ov] (eval i X.env)
   standAt pos
   holding [v,ov,iv] (setItem ov iv v)
   release [v,ov,iv] []):=by intro _; rfl) : PG X (.Subscript o i pos) (gSub to ti t):=by
 intro pins s σ H v u Q I r h
 rw [ha]
 refine wpAny_bind (wpAny_holding (thn (ho pins s σ H _ I h) fun ov s1 ⟨x,H1,I1,r1,q1⟩=>?_))
 refine wpAny_bind (wpAny_holding (thn (hi pins s1 σ H1 _ I1 q1) fun iv s2 ⟨y,H2,I2,r2,q2⟩=>?_))
 refine wpAny_bind (wpAny_standAt (wpAny_bind (wpAny_holding (thn (hs pins s2 σ H2 x y v ov iv u _ I2 r1 r2 r q2) fun _ s3 ⟨H3,I3,q3⟩=>?_))))
 exact wpAny_release ⟨σ,H3,I3,q3⟩
noncomputable def tAsg (te : TE) (g : TG) : TS:=fun D σ H=>te σ H fun x H1=>g x σ H1 D.nx
theorem J8A {tg e : Expr} {te : TE} {g : TG} (he : PE X e te) (hg : PG X tg g) (hs : swapsWithSole [tg] e pos.line X.env = pure false:=by rfl) (hw : swappedStores [tg] e X.env = pure none:=by rfl)
  (h1 : (assignEach [tg] X.env).map (·.2) = [assign tg X.env]:=by rfl) : PS X (.Assign [tg] e pos) (tAsg te g):=by
 intro pins s σ H D I h
 refine wpAny_Assign_stores (thn (he pins s σ H _ I h) fun v s1 ⟨x,H1,I1,r1,q1⟩=>?_) hs hw
 rw [h1]
 exact thn (hg pins s1 σ H1 x v _ I1 r1 q1) fun _ s2 q=>q
theorem Jcp {i : Nat} {x : Str} {e : Expr} {te : TE} {pos' : Pos} (hN : X.N.Nodup) (hi : X.N[i]? = some x) (hx : Loc X.env.scope x) (he : PE X e te) (hs : swapsWith e (some (.Name x pos')) pos.line X.env = pure false:=by rfl) (hf : X.fn x = true ∨ X.env.scope.names.lookup x = some .local:=by first | exact .inl rfl | exact .inr rfl | assumption) :
  PS X (.Assign [.Name x pos'] e pos) (tAsg te (J4z i)):=by
 intro pins s σ H D I h
 refine wpAny_Assign_Name (thn (he pins s σ H _ I h) fun v s1 ⟨y,H1,I1,r1,q1⟩=>?_) hs
 exact J3V I1 hN hi hx r1 (fun s2 I2=>⟨_,H1,I2,q1⟩) hf
noncomputable def tAug (i : Nat) (te : TE) (ti : TIp) : TS:=fun D σ H=>∃ x,σ[i]? = some (some x) ∧ te σ H fun y H1=>ti x y H1 fun z H2=>D.nx (σ.set i (some z)) H2
theorem JaH {i : Nat} {x : Str} {e : Expr} {te : TE} {op : Operator} {ti : TIp} {pos' : Pos} (hN : X.N.Nodup) (hi : X.N[i]? = some x) (hx : Loc X.env.scope x) (he : PE X e te) (ho : PIp X op ti) (hf : X.fn x = true ∨ X.env.scope.names.lookup x = some .local:=by first | exact .inl rfl | exact .inr rfl | assumption) :
  PS X (.AugAssign (.Name x pos') op e pos) (tAug i te ti):=by
 intro pins s σ H D I h
 obtain ⟨v,e1,h⟩:=h
 obtain ⟨m,hn,hl⟩:=I.loc
 have vis : Vis X.env.scope x:=by rcases hx with k | k; exact .inl k; exact .inr (.inl k)
 obtain ⟨u,r,l⟩:=hl i x v hi e1 vis
 refine wpAny_AugAssign_Name ?_
 have go : wpAny (model X.prog X.w) X.A (eval e X.env) (fun w s₂=>wpAny (model X.prog X.w) X.A (inplaceOp op u w) (fun r s₃=>wpAny (model X.prog X.w) X.A (storeName X.env x r) (fun _=>SP X pins D .next) X.xe s₃) X.xe s₂) X.xe s:=by
  refine thn (he pins s σ H _ I h) fun w s1 ⟨y,H1,I1,r1,q1⟩=>?_
  refine thn (ho pins s1 σ H1 v y u w _ I1 r r1 q1) fun z s2 ⟨zv,H2,I2,r2,q2⟩=>?_
  exact J3V I2 hN hi hx r2 (fun s3 I3=>⟨_,H2,I3,q2⟩) hf
 rcases l with ⟨hk,hm⟩ | ⟨hk,c,hc,hcell⟩
 ·exact wpAny_loadName_local I.ok.kind hk hn hm go
 ·rcases hk with hk | hk
  ·exact wpAny_loadName_cell I.ok.kind hk hc hcell go
  ·rcases hx with k | k
   ·have : X.env.scope.names.lookup x = some .free:=hk
    rw [k] at this; cases this
   ·have : X.env.scope.names.lookup x = some .free:=hk
    rw [k] at this; cases this
noncomputable def ipI (f : Int → Int → Int) : TIp:=fun x y H Q=>∃ i j,x = .int i ∧ y = .int j ∧ Q (.int (f i j)) H
theorem Jcx : PIp X .Add (ipI fun i j=>i + j):=by
 intro pins s σ H x y v u Q I r1 r2 h
 obtain ⟨i,j,e1,e2,q⟩:=h
 subst e1; subst e2
 obtain ⟨t,rfl⟩:=r1
 obtain ⟨t',rfl⟩:=r2
 exact iadd_int ⟨.int _,H,I.tok _,⟨_,rfl⟩,q⟩
theorem Jch : PIp X .Sub (ipI fun i j=>i - j):=by
 intro pins s σ H x y v u Q I r1 r2 h
 obtain ⟨i,j,e1,e2,q⟩:=h
 subst e1; subst e2
 obtain ⟨t,rfl⟩:=r1
 obtain ⟨t',rfl⟩:=r2
 exact isub_int ⟨.int _,H,I.tok _,⟨_,rfl⟩,q⟩
end
section
variable {X : Cx} {pos : Pos}
noncomputable def Ja4 (c : TT) (tb : TS) : TS:=fun D σ H=>∃ W : Nat → St → Hp → Prop,(∃ m,W m σ H) ∧ ∀ m σ H,W m σ H →
 c σ H fun b H1=>if b = true then ∃ N : St → Hp → Prop,(∀ σ' H',N σ' H' → ∃ m',m' < m ∧ W m' σ' H') ∧ tb { D with nx:=N,ct:=N,bk:=D.nx } σ H1 else D.nx σ H1
theorem J7B {c : Expr} {body : List Stmt} {tc : TT} {tb : TS} (hp : PassesOwn (model X.prog X.w) X.A X.env X.xe) (hc : PT X c tc) (hb : PSs X body tb) : PS X (.While c body [] pos) (Ja4 tc tb):=by
 intro pins s σ H D I h
 obtain ⟨W,⟨m0,w0⟩,turn⟩:=h
 refine wpAny_While (codeAny_whileLoop (fun n s'=>∃ σ' H',Inv X pins σ' H' s' ∧ W n σ' H') ?_ m0 ⟨σ,H,I,w0⟩)
 rintro n s1 ⟨σ1,H1,I1,w1⟩
 refine wpAny_passesOwn hp (thn (hc pins s1 σ1 H1 _ I1 (turn n σ1 H1 w1)) fun b s2 ⟨H2,I2,q2⟩=>?_)
 cases b with
 | true =>
  obtain ⟨N,hN,q2⟩:=q2
  rw [if_pos rfl]
  refine wpAny_passesOwn hp (thn (hb pins s2 σ1 H2 _ I2 q2) fun f s3 q3=>?_)
  cases f with
  | next =>
   obtain ⟨σ3,H3,I3,n3⟩:=q3
   obtain ⟨m',hm,w3⟩:=hN σ3 H3 n3
   exact ⟨m',hm,σ3,H3,I3,w3⟩
  | cont =>
   obtain ⟨σ3,H3,I3,n3⟩:=q3
   obtain ⟨m',hm,w3⟩:=hN σ3 H3 n3
   exact ⟨m',hm,σ3,H3,I3,w3⟩
  | brk=>exact q3
  | ret v=>exact q3
 | false =>
  rw [if_neg Bool.false_ne_true]
  exact wpAny_execs_nil ⟨σ1,H2,I2,q2⟩
end
structure It where
 go : Nat → Hp → Prop
 yld : Nat → Hp → V → Hp → Prop
 stop : Nat → Hp → Prop
noncomputable def FpOk (X : Cx) (pins : List (Addr × Obj)) (H : Hp) (b : Addr) : Prop :=
 H b = none ∧ b ≠ X.env.locals ∧ b ∉ X.fs ∧ (b ∈ X.ex ∨ X.s₀.heap.objs.size ≤ b) ∧ (∀ x c,X.env.cells.lookup x = some c → c ≠ b) ∧ ∀ p ∈ X.pn ++ pins,p.1 ≠ b
theorem Inv.fpOk {X : Cx} {pins : List (Addr × Obj)} {σ : St} {H H' : Hp} {s : Shared} {b : Addr} (I : Inv X pins σ H s) (hb : s.heap.objs.size ≤ b) (hn : H' b = none) : FpOk X pins H' b:=by
 refine ⟨hn,Nat.ne_of_gt (Nat.lt_of_lt_of_le I.lt hb),I.nofs hb,.inr (Nat.le_trans I.sz hb),fun x c e z=>?_,fun p hp z=>?_⟩
 ·obtain ⟨v,q⟩:=I.cell x c e
  exact absurd (Nat.lt_of_lt_of_le q.lt (by rw [z]; exact hb)) (Nat.lt_irrefl _)
 ·exact absurd (Nat.lt_of_lt_of_le (Heap.lt_size (I.pin p hp).1) (by rw [z]; exact hb)) (Nat.lt_irrefl _)
structure Turn (P : Program) (w : World) (K : PySem.W.Frag) (tg : Expr) (J : It) (fp : List Addr) (it : Addr) (tn : Nat → Heap → Prop) : Prop where
 mem : it ∈ fp
 obj : ∀ i h,tn i h → ∀ b ∈ fp,∃ o,h.get? b = some o ∧ ∀ v,o.data ≠ .cell v
 keep : ∀ i h h',tn i h → (∀ b ∈ fp,∀ o,h.get? b = some o → h'.get? b = some o) → tn i h'
 item : ∀ (X : Cx),X.prog = P → X.w = w → X.K = K → X.calm = true → ∀ (i : Nat) (pins : List (Addr × Obj)) (s : Shared) (σ : St) (H : Hp) (E : Value → Shared → Prop),Inv X pins σ H s → (∀ b ∈ fp,FpOk X pins H b) → tn i s.heap → J.go i H →
  wpAny (model P w) X.A (pyNext (.ref it)) (fun r s1=>∃ u,r = some u ∧
   wpAny (model P w) X.A (letOwnedTupleGo tg (.ref it) u) (fun _ s2=>∃ x H',Inv X pins σ H' s2 ∧ RelV x u ∧ J.yld i H x H' ∧ tn (i + 1) s2.heap ∧ ∀ b ∈ fp,H' b = none) E s1) E s
 done : ∀ (X : Cx),X.prog = P → X.w = w → X.K = K → X.calm = true → ∀ (i : Nat) (pins : List (Addr × Obj)) (s : Shared) (σ : St) (H : Hp) (E : Value → Shared → Prop),Inv X pins σ H s → (∀ b ∈ fp,FpOk X pins H b) → tn i s.heap → J.stop i H →
  wpAny (model P w) X.A (pyNext (.ref it)) (fun r s1=>r = none ∧ Inv X pins σ H s1) E s
 self : ∀ (A : Around) (i : Nat) (s : Shared) (Q : Value → Shared → Prop) (E : Value → Shared → Prop),tn i s.heap → Q (.ref it) s → wpAny (model P w) A (pyIter (.ref it)) Q E s
noncomputable abbrev TI:=St → Hp → (It → Hp → Prop) → Prop
noncomputable def PIE (X : Cx) (pins : List (Addr × Obj)) (σ : St) (tg : Expr) (R : It → Hp → Prop) (itv : Value) (s2 : Shared) : Prop :=
 ∃ (it : Addr) (fp : List Addr) (tn : Nat → Heap → Prop) (J : It) (H' : Hp),itv = .ref it ∧ Inv X pins σ H' s2 ∧ Turn X.prog X.w X.K tg J fp it tn ∧ tn 0 s2.heap ∧ (∀ b ∈ fp,FpOk X pins H' b) ∧ R J H'
noncomputable def PI (X : Cx) (tg iter : Expr) (wi : TI) : Prop :=
 ∀ (pins : List (Addr × Obj)) (s : Shared) (σ : St) (H : Hp) (R : It → Hp → Prop),Inv X pins σ H s → wi σ H R →
  wpAny (model X.prog X.w) X.A (eval iter X.env) (fun v s1=>wpAny (model X.prog X.w) X.A (pyIter v) (PIE X pins σ tg R) X.xe s1) X.xe s
theorem Ja2 {M : Model} {A : Around} {E : Value → Shared → Prop} {s : Shared} {tg : Expr} {it : Addr} {u : Value} {o : Obj} {n : String} {vs : Array Value} {Q : Unit → Shared → Prop} (ho : s.heap.get? it = some o) (hc : o.cls = .type n) (hd : o.data = .fields vs)
    (hn : ["enumerate","zip","dict_itemiterator","dict_reverseitemiterator","odict_iterator","itertools.zip_longest","itertools.pairwise"].contains n = false) (hQ : Q () s) : wpAny M A (letOwnedTupleGo tg (.ref it) u) Q E s:=by
  unfold letOwnedTupleGo
  cases tg <;> first
    | exact wpAny_pure hQ
    | (cases u <;> first
        | exact wpAny_pure hQ
        | (refine wpAny_bind (wpAny_load ho ?_)
           rw [hc,hd]
           show wpAny M A (if (["enumerate","zip","dict_itemiterator","dict_reverseitemiterator","odict_iterator","itertools.zip_longest","itertools.pairwise"].contains n && vs[0]? == some (rawInt _)) = true then _ else _) Q E s
           rw [if_neg (by intro h; rw [hn,Bool.false_and] at h; cases h)]
           exact wpAny_pure hQ))
noncomputable def Itl (K : PySem.W.Frag) (a : Addr) : It :=
 ⟨fun i H=>∃ xs x,SqL K H a xs ∧ xs[i]? = some x,fun i H x H'=>H' = H ∧ ∀ xs,SqL K H a xs → xs[i]? = some x,fun i H=>∃ xs,SqL K H a xs ∧ xs.length ≤ i⟩
noncomputable def Itr (lo : Int) (n : Nat) : It:=⟨fun i _=>i < n,fun i H x H'=>H' = H ∧ x = .int (lo + i),fun i _=>n ≤ i⟩
theorem J9B {P : Program} {w : World} {K : PySem.W.Frag} {tg : Expr} (a it : Addr) : Turn P w K tg (Itl K a) [it] it (fun i h=>h.IsListIter it a i) where
 mem:=by simp
 obj:=fun i h st b hb=>by
  have e : b = it:=by simpa using hb
  subst e
  obtain ⟨o,e,c,d⟩:=st
  exact ⟨o,e,fun v z=>by rw [d] at z; cases z⟩
 keep:=fun i h h' st k=>st.at fun o e=>k it (by simp) o e
 item:=by
  intro X hP hw hK hc i pins s σ H E I hf st hg
  subst hP hw hK
  obtain ⟨xs,x,hq,hx⟩:=hg
  obtain ⟨its,rv,p,hz⟩:=I.list hq
  obtain ⟨u,hu,ru⟩:=rv.get hx
  obtain ⟨f0,f1,f2,f3,f4,f5⟩:=hf it (by simp)
  refine wpAny_pyNext_list_item st p.isList (x:=u) (by simpa using hu) fun h' st' sb=>?_
  have I1 : Inv X pins σ H { s with heap:=h' }:=I.turned (t':=s.toks) (fun b o hb e=>(sb.2 b hb).trans e) f0 f1 f3 f4 f5
  obtain ⟨o,e,c,d⟩:=id st'
  exact ⟨u,rfl,Ja2 (s:={ s with heap:=h' }) e c d (by decide) ⟨x,H,I1,ru,⟨rfl,fun ys hy=>by rw [I.list_inj hy hq]; exact hx⟩,st',fun b hb=>(hf b hb).1⟩⟩
 done:=by
  intro X hP hw hK hc i pins s σ H E I hf st hg
  subst hP hw hK
  obtain ⟨xs,hq,hx⟩:=hg
  obtain ⟨its,rv,p,hz⟩:=I.list hq
  obtain ⟨f0,f1,f2,f3,f4,f5⟩:=hf it (by simp)
  have hl:=rv.length
  exact wpAny_pyNext_list_end (I.ok.hd hc) st p.isList (by simp; omega) fun h' eb=>⟨rfl,I.turned (t':=s.toks) (fun b o hb e=>eb b o hb e) f0 f1 f3 f4 f5⟩
 self:=fun _ _ _ _ _ st h=>wpAny_pyIter_listiter st h
theorem J8D {P : Program} {w : World} {K : PySem.W.Frag} {tg : Expr} (it : Addr) (lo : Int) (n : Nat) : Turn P w K tg (Itr lo n) [it] it (fun i h=>IsRangeIter h it (lo + (i : Nat) * 1) ((n : Int) - (i : Nat)) 1) where
 mem:=by simp
 obj:=fun i h st b hb=>by
  have e : b = it:=by simpa using hb
  subst e
  exact ⟨_,st,fun v z=>by
   have z' : Data.fields _ = Data.cell v:=z
   cases z'⟩
 keep:=fun i h h' st k=>k it (by simp) _ st
 item:=by
  intro X hP hw hK hc i pins s σ H E I hf st hg
  subst hP hw hK
  obtain ⟨f0,f1,f2,f3,f4,f5⟩:=hf it (by simp)
  have W:=Walks.range (prog:=X.prog) (w:=X.w) (I.ok.hd hc) it lo 1 n
  refine W.item i s _ _ hg st fun v h' tk hv st' kk=>?_
  obtain ⟨t,rfl⟩:=hv
  have I1 : Inv X pins σ H { s with heap:=h',toks:=tk }:=I.turned (fun b o hb e=>kk b o (by simpa using hb) e) f0 f1 f3 f4 f5
  refine ⟨_,rfl,Ja2 (s:={ s with heap:=h',toks:=tk }) (n:="range_iterator") st' rfl rfl (by decide) ⟨.int (lo + i),H,I1,⟨t,?_⟩,⟨rfl,rfl⟩,st',fun b hb=>(hf b hb).1⟩⟩
  rw [Int.mul_one]
 done:=by
  intro X hP hw hK hc i pins s σ H E I hf st hg
  subst hP hw hK
  obtain ⟨f0,f1,f2,f3,f4,f5⟩:=hf it (by simp)
  exact wpAny_pyNext_range_end (I.ok.hd hc) st (by have : n ≤ i:=hg; omega) fun h' eb=>⟨rfl,I.turned (t':=s.toks) (fun b o hb e=>eb b o hb e) f0 f1 f3 f4 f5⟩
 self:=fun _ _ _ _ _ st h=>wpAny_pyIter_rangeiter st h
end L2
namespace L2
open PySem PySem.Spec PyProof.Rows
section
variable {X : Cx} {tg : Expr}
noncomputable def JbQ (K : PySem.W.Frag) (tl : TE) : TI:=fun σ H R=>tl σ H fun x H1=>∃ a,x = .ref a ∧ (∃ xs,SqL K H1 a xs) ∧ R (Itl K a) H1
theorem Jbf {l : Expr} {tl : TE} (hl : PE X l tl) : PI X tg l (JbQ X.K tl):=by
 intro pins s σ H R I h
 refine thn (hl pins s σ H _ I h) fun v s1 ⟨x,H1,I1,r1,q1⟩=>?_
 obtain ⟨a,e,⟨xs,hq⟩,q⟩:=q1
 subst e
 cases r1
 obtain ⟨its,rv,p,hz⟩:=I1.list hq
 refine wpAny_pyIter_list p.isList ?_
 refine ⟨s1.heap.objs.size,[s1.heap.objs.size],_,_,H1,rfl,I1.kept (t':=s1.toks) fun b o e=>Heap.get?_push_of_some _ e,J9B a _,⟨_,Heap.get?_push_size _ rfl,rfl,rfl⟩,fun b hb=>?_,q⟩
 have e : b = s1.heap.objs.size:=by simpa using hb
 subst e
 exact I1.fpOk (Nat.le_refl _) (I1.hok.fresh (Nat.le_refl _))
theorem J7Q {pins : List (Addr × Obj)} {σ : St} {H : Hp} {s : Shared} {R : It → Hp → Prop} {E : Value → Shared → Prop} {lo hi : Int} {t u v : Tok} {tk : Nat} (I : Inv X pins σ H s) (h1 : -(2 ^ 62) ≤ lo) (h2 : lo < 2 ^ 62) (h3 : -(2 ^ 62) ≤ hi) (h4 : hi < 2 ^ 62)
  (q : R (Itr lo (hi - lo).toNat) H) : wpAny (model X.prog X.w) X.A (pyIter (.ref s.heap.objs.size)) (PIE X pins σ tg R) E { s with heap:=s.heap.push { cls:=.type "range",data:=.fields #[.int lo t,.int hi u,.int 1 v] },toks:=tk }:=by
 refine wpAny_pyIter_range (IsRange.new ..) (small_one h1 h2 h3 h4) ?_
 have I1 : Inv X pins σ H { s with heap:=s.heap.push { cls:=.type "range",data:=.fields #[.int lo t,.int hi u,.int 1 v] },toks:=tk }:=I.kept fun b o e=>Heap.get?_push_of_some _ e
 refine ⟨(s.heap.push { cls:=.type "range",data:=.fields #[.int lo t,.int hi u,.int 1 v] }).objs.size,[(s.heap.push { cls:=.type "range",data:=.fields #[.int lo t,.int hi u,.int 1 v] }).objs.size],_,_,H,rfl,
  I1.kept (t':=tk) fun b o e=>Heap.get?_push_of_some _ e,J8D _ lo (hi - lo).toNat,?_,fun b hb=>?_,q⟩
 ·have e1 : lo + ((0 : Nat) : Int) * 1 = lo:=by simp
  have e2 : (((hi - lo).toNat : Nat) : Int) - ((0 : Nat) : Int) = Builtin.Range.rangeSize lo hi 1:=by rw [rangeSize_one]; split <;> omega
  show IsRangeIter _ _ (lo + ((0 : Nat) : Int) * 1) ((((hi - lo).toNat : Nat) : Int) - ((0 : Nat) : Int)) 1
  rw [e1,e2]
  exact Heap.get?_push_size _ rfl
 ·have e : b = (s.heap.push { cls:=.type "range",data:=.fields #[.int lo t,.int hi u,.int 1 v] }).objs.size:=by simpa using hb
  subst e
  exact I1.fpOk (Nat.le_refl _) (I1.hok.fresh (Nat.le_refl _))
noncomputable def Jde (ta : TA) : TI:=fun σ H R=>ta σ H fun vs H1=>∃ j : Int,vs = [.int j] ∧ -(2 ^ 62) ≤ j ∧ j < 2 ^ 62 ∧ R (Itr 0 j.toNat) H1
noncomputable def Jdl (ta : TA) : TI:=fun σ H R=>ta σ H fun vs H1=>∃ i j : Int,vs = [.int i,.int j] ∧ (-(2 ^ 62) ≤ i ∧ i < 2 ^ 62 ∧ -(2 ^ 62) ≤ j ∧ j < 2 ^ 62) ∧ R (Itr i (j - i).toNat) H1
theorem J67 {a : Expr} {ta : TA} {p pos : Pos} (hg : Gl X "range") (hm : X.mg "range" = none) (ha : PA X [a] ta) (hs : starEach [a] X.env = [(false,eval a X.env)]:=by rfl) : PI X tg (.Call (.Name "range" p) [a] [] pos) (Jde ta):=by
 intro pins s σ H R I h
 refine Call_ (J4k I hg hm boot_range (PyProof.Rows.callWith_type1 (thn (ha pos pins s σ H _ I h) fun us s1 ⟨vs,H1,I1,r1,q1⟩=>?_) hs rfl))
 obtain ⟨j,e,q1,q2,q⟩:=q1
 subst e
 cases r1 with
 | cons r rr =>
  cases rr
  obtain ⟨t,rfl⟩:=r
  exact call_range_1 (J7Q I1 (by omega) (by omega) q1 q2 (by simpa using q))
theorem J9u {a b : Expr} {ta : TA} {p pos : Pos} (hg : Gl X "range") (hm : X.mg "range" = none) (ha : PA X [a,b] ta) (hs : starEach [a,b] X.env = [(false,eval a X.env),(false,eval b X.env)]:=by rfl) (hs2 : starEach [b] X.env = [(false,eval b X.env)]:=by rfl) :
  PI X tg (.Call (.Name "range" p) [a,b] [] pos) (Jdl ta):=by
 intro pins s σ H R I h
 refine Call_ (J4k I hg hm boot_range (PyProof.Rows.callWith_type1 (thn (ha pos pins s σ H _ I h) fun us s1 ⟨vs,H1,I1,r1,q1⟩=>?_) (by rw [hs,hs2]) (by rw [hs2]; rfl)))
 obtain ⟨i,j,e,⟨q1,q2,q3,q4⟩,q⟩:=q1
 subst e
 cases r1 with
 | cons r rr =>
  cases rr with
  | cons r' rr =>
   cases rr
   obtain ⟨t,rfl⟩:=r
   obtain ⟨t',rfl⟩:=r'
   exact call_range_2 (J7Q I1 q1 q2 q3 q4 q)
noncomputable def tFor (wi : TI) (g : TG) (tb : TS) : TS:=fun D σ H=>wi σ H fun J H1=>∃ W : Nat → Nat → St → Hp → Prop,(∃ m,W 0 m σ H1) ∧ ∀ i m σ H,W i m σ H →
 (J.stop i H ∧ D.nx σ H) ∨ (J.go i H ∧ ∃ N : St → Hp → Prop,(∀ σ' H',N σ' H' → ∃ m',m' < m ∧ W (i + 1) m' σ' H') ∧ ∀ x H',J.yld i H x H' → g x σ H' fun σ2 H2=>tb { D with nx:=N,ct:=N,bk:=D.nx } σ2 H2)
noncomputable def J5x (fp : List Addr) (h : Heap) : List (Addr × Obj):=fp.filterMap fun b=>(h.get? b).map fun o=>(b,o)
theorem J2S {fp : List Addr} {h : Heap} {b : Addr} {o : Obj} (hb : b ∈ fp) (e : h.get? b = some o) : (b,o) ∈ J5x fp h:=List.mem_filterMap.mpr ⟨b,hb,by rw [e]; rfl⟩
theorem J9P {fp : List Addr} {h : Heap} {p : Addr × Obj} (hp : p ∈ J5x fp h) : p.1 ∈ fp ∧ h.get? p.1 = some p.2:=by
 obtain ⟨b,hb,e⟩:=List.mem_filterMap.mp hp
 cases q : h.get? b with
 | none=>rw [q] at e; cases e
 | some o =>
  rw [q] at e
  have e' : (b,o) = p:=Option.some.inj e
  subst e'
  exact ⟨hb,q⟩
theorem Inv.pinned {pins : List (Addr × Obj)} {σ : St} {H : Hp} {s : Shared} {fp : List Addr} (I : Inv X pins σ H s) (hf : ∀ b ∈ fp,FpOk X pins H b) (ho : ∀ b ∈ fp,∃ o,s.heap.get? b = some o ∧ ∀ v,o.data ≠ .cell v) : Inv X (pins ++ J5x fp s.heap) σ H s :=
 I.pins_of fun p hp=>(List.mem_append.mp hp).elim (fun z=>I.pin p (List.mem_append_right _ z)) fun z=>by
  obtain ⟨hb,e⟩:=J9P z
  obtain ⟨f0,f1,f2,_⟩:=hf p.1 hb
  obtain ⟨o,e',d⟩:=ho p.1 hb
  rw [e] at e'; cases e'
  exact ⟨e,f0,f1,f2,d⟩
theorem Inv.unpinned {pins pl : List (Addr × Obj)} {σ : St} {H : Hp} {s : Shared} (I : Inv X (pins ++ pl) σ H s) : Inv X pins σ H s:=I.pins_of fun p hp=>I.pin p (List.mem_append_right _ (List.mem_append_left _ hp))
theorem J4q {iter : Expr} {body : List Stmt} {wi : TI} {g : TG} {tb : TS} {pos : Pos} (hp : PassesOwn (model X.prog X.w) X.A X.env X.xe) (hc : X.calm = true) (hi : PI X tg iter wi) (hg : PG X tg g) (hb : PSs X body tb)
  (hs : ∀ x,foldedSetIterable iter X.env x = pure x:=by intro _; rfl) : PS X (.For tg iter body [] pos) (tFor wi g tb):=by
 intro pins s σ H D I h
 refine wpAny_For (thn (hi pins s σ H _ I h) fun v s1 h1=>thn h1 fun itv s2 h2=>?_) hs
 obtain ⟨it,fp,tn,J,H2,e,I2,T,st2,f2,W,⟨m0,w0⟩,turn⟩:=h2
 subst e
 have stat : ∀ {H' : Hp},(∀ b ∈ fp,H' b = none) → ∀ b ∈ fp,FpOk X pins H' b:=fun hn b hb=>⟨hn b hb,(f2 b hb).2⟩
 refine codeAny_forLoop_any (fun n s'=>∃ i σ' H',Inv X pins σ' H' s' ∧ tn i s'.heap ∧ (∀ b ∈ fp,H' b = none) ∧ W i n σ' H') ?_ m0 ⟨0,σ,H2,I2,st2,fun b hb=>(f2 b hb).1,w0⟩
 rintro n s3 ⟨i,σ3,H3,I3,st3,fr3,w3⟩
 rcases turn i n σ3 H3 w3 with ⟨stop,qn⟩ | ⟨go,N,hN,step⟩
 ·refine wpAny_passesOwn hp (thn (T.done X rfl rfl rfl hc i pins s3 σ3 H3 X.xe I3 (stat fr3) st3 stop) fun r s4 ⟨hr,I4⟩=>?_)
  subst hr
  exact wpAny_execs_nil ⟨σ3,H3,I4,qn⟩
 ·refine wpAny_passesOwn hp (thn (T.item X rfl rfl rfl hc i pins s3 σ3 H3 X.xe I3 (stat fr3) st3 go) fun r s4 ⟨u,hr,h4⟩=>?_)
  subst hr
  refine wpAny_passesOwn hp (thn h4 fun _ s5 ⟨x,H5,I5,r5,y5,st5,fr5⟩=>?_)
  have I5':=I5.pinned (stat fr5) (T.obj _ _ st5)
  refine wpAny_passesOwn hp (thn (hg _ s5 σ3 H5 x u _ I5' r5 (step x H5 y5)) fun _ s6 ⟨σ6,H6,I6,q6⟩=>?_)
  refine wpAny_passesOwn hp (thn (hb _ s6 σ6 H6 _ I6 q6) fun f s7 q7=>?_)
  have again : ∀ {σ7 : St} {H7 : Hp},Inv X (pins ++ J5x fp s5.heap) σ7 H7 s7 → N σ7 H7 → ∃ m,m < n ∧ ∃ i σ' H',Inv X pins σ' H' s7 ∧ tn i s7.heap ∧ (∀ b ∈ fp,H' b = none) ∧ W i m σ' H':=fun {σ7 H7} I7 n7=>by
   obtain ⟨m',hm,w7⟩:=hN σ7 H7 n7
   refine ⟨m',hm,i + 1,σ7,H7,I7.unpinned,T.keep _ _ _ st5 fun b hb o e=>(I7.pin (b,o) (List.mem_append_right _ (List.mem_append_right _ (J2S hb e)))).1,fun b hb=>?_,w7⟩
   obtain ⟨o,e,d⟩:=T.obj _ _ st5 b hb
   exact (I7.pin (b,o) (List.mem_append_right _ (List.mem_append_right _ (J2S hb e)))).2.1
  cases f with
  | next=>obtain ⟨σ7,H7,I7,n7⟩:=q7; exact again I7 n7
  | cont=>obtain ⟨σ7,H7,I7,n7⟩:=q7; exact again I7 n7
  | brk=>obtain ⟨σ7,H7,I7,q7⟩:=q7; exact ⟨σ7,H7,I7.unpinned,q7⟩
  | ret v=>obtain ⟨x7,σ7,H7,I7,r7,q7⟩:=q7; exact ⟨x7,σ7,H7,I7.unpinned,r7,q7⟩
end
theorem J5F {K : PySem.W.Frag} {a : Addr} {xs : List V} {g : TG} {tb : TS} {D : Ends} {σ : St} {H : Hp} (Pv : Nat → St → Hp → Prop) (h0 : Pv 0 σ H) (hl : ∀ i σ H,i ≤ xs.length → Pv i σ H → SqL K H a xs)
  (hs : ∀ i x σ H,xs[i]? = some x → Pv i σ H → g x σ H fun σ2 H2=>tb { D with nx:=Pv (i + 1),ct:=Pv (i + 1),bk:=D.nx } σ2 H2) (hd : ∀ σ H,Pv xs.length σ H → D.nx σ H) :
  ∃ W : Nat → Nat → St → Hp → Prop,(∃ m,W 0 m σ H) ∧ ∀ i m σ H,W i m σ H →
   ((Itl K a).stop i H ∧ D.nx σ H) ∨ ((Itl K a).go i H ∧ ∃ N : St → Hp → Prop,(∀ σ' H',N σ' H' → ∃ m',m' < m ∧ W (i + 1) m' σ' H') ∧ ∀ x H',(Itl K a).yld i H x H' → g x σ H' fun σ2 H2=>tb { D with nx:=N,ct:=N,bk:=D.nx } σ2 H2):=by
 refine ⟨fun i m σ H=>m = xs.length - i ∧ i ≤ xs.length ∧ Pv i σ H,⟨xs.length,by simp,Nat.zero_le _,h0⟩,?_⟩
 rintro i m σ H ⟨rfl,hi,p⟩
 have q:=hl i σ H hi p
 by_cases hlt : i < xs.length
 ·refine .inr ⟨⟨xs,xs[i],q,by simp [hlt]⟩,Pv (i + 1),fun σ' H' p'=>⟨xs.length - (i + 1),by omega,rfl,hlt,p'⟩,fun x H' y=>?_⟩
  obtain ⟨e,y⟩:=y
  subst e
  exact hs i x σ _ (y xs q) p
 ·have e : i = xs.length:=by omega
  subst e
  exact .inl ⟨⟨xs,q,Nat.le_refl _⟩,hd σ H p⟩
theorem J9l {lo : Int} {n : Nat} {g : TG} {tb : TS} {D : Ends} {σ : St} {H : Hp} (Pv : Nat → St → Hp → Prop) (h0 : Pv 0 σ H)
  (hs : ∀ i σ H,i < n → Pv i σ H → g (.int (lo + i)) σ H fun σ2 H2=>tb { D with nx:=Pv (i + 1),ct:=Pv (i + 1),bk:=D.nx } σ2 H2) (hd : ∀ σ H,Pv n σ H → D.nx σ H) :
  ∃ W : Nat → Nat → St → Hp → Prop,(∃ m,W 0 m σ H) ∧ ∀ i m σ H,W i m σ H →
   ((Itr lo n).stop i H ∧ D.nx σ H) ∨ ((Itr lo n).go i H ∧ ∃ N : St → Hp → Prop,(∀ σ' H',N σ' H' → ∃ m',m' < m ∧ W (i + 1) m' σ' H') ∧ ∀ x H',(Itr lo n).yld i H x H' → g x σ H' fun σ2 H2=>tb { D with nx:=N,ct:=N,bk:=D.nx } σ2 H2):=by
 refine ⟨fun i m σ H=>m = n - i ∧ i ≤ n ∧ Pv i σ H,⟨n,by simp,Nat.zero_le _,h0⟩,?_⟩
 rintro i m σ H ⟨rfl,hi,p⟩
 by_cases hlt : i < n
 ·refine .inr ⟨hlt,Pv (i + 1),fun σ' H' p'=>⟨n - (i + 1),by omega,rfl,hlt,p'⟩,fun x H' y=>?_⟩
  obtain ⟨e,y⟩:=y
  subst e y
  exact hs i σ _ hlt p
 ·have e : i = n:=by omega
  subst e
  exact .inl ⟨Nat.le_refl _,hd σ H p⟩
theorem J7Z {c : TT} {tb : TS} {D : Ends} {σ : St} {H : Hp} (Pv : St → Hp → Prop) (μ : St → Hp → Nat) (h0 : Pv σ H)
  (hs : ∀ σ H,Pv σ H → c σ H fun b H1=>if b = true then tb { D with nx:=fun σ' H'=>Pv σ' H' ∧ μ σ' H' < μ σ H,ct:=fun σ' H'=>Pv σ' H' ∧ μ σ' H' < μ σ H,bk:=D.nx } σ H1 else D.nx σ H1)
  (mono : ∀ σ H Q Q',(∀ b H1,Q b H1 → Q' b H1) → c σ H Q → c σ H Q') : Ja4 c tb D σ H:=by
 refine ⟨fun m σ H=>m = μ σ H ∧ Pv σ H,⟨_,rfl,h0⟩,?_⟩
 rintro m σ H ⟨rfl,p⟩
 refine mono σ H _ _ (fun b H1 q=>?_) (hs σ H p)
 cases b with
 | true=>exact ⟨_,fun σ' H' ⟨p',l⟩=>⟨_,l,rfl,p'⟩,q⟩
 | false=>exact q
end L2
namespace L2
open PySem PySem.Spec PyProof.Rows
noncomputable abbrev R2:=V → V → Hp → VK → Prop
noncomputable def OpR (X : Cx) (f : Value → Value → Sem Value) (r : R2) : Prop :=
 ∀ (pins : List (Addr × Obj)) (s : Shared) (σ : St) (H : Hp) (x y : V) (v u : Value) (Q : VK),Inv X pins σ H s → RelV x v → RelV y u → r x y H Q →
  wpAny (model X.prog X.w) X.A (f v u) (EP X pins σ Q) X.xe s
noncomputable def UnR (X : Cx) (f : Value → Sem Value) (r : V → Hp → VK → Prop) : Prop :=
 ∀ (pins : List (Addr × Obj)) (s : Shared) (σ : St) (H : Hp) (x : V) (v : Value) (Q : VK),Inv X pins σ H s → RelV x v → r x H Q →
  wpAny (model X.prog X.w) X.A (f v) (EP X pins σ Q) X.xe s
noncomputable def J1X (X : Cx) (f : Value) (r : List V → Hp → VK → Prop) : Prop :=
 ∀ (pins : List (Addr × Obj)) (s : Shared) (σ : St) (H : Hp) (xs : List V) (us : List Value) (Q : VK),Inv X pins σ H s → Vals xs us → r xs H Q →
  wpAny (model X.prog X.w) X.A (call f us) (EP X pins σ Q) X.xe s
noncomputable def tOp (r : R2) (ta tb : TE) : TE:=fun σ H Q=>ta σ H fun x H1=>tb σ H1 fun y H2=>r x y H2 Q
noncomputable def tUn (r : V → Hp → VK → Prop) (ta : TE) : TE:=fun σ H Q=>ta σ H fun x H1=>r x H1 Q
noncomputable def rI (C : Int → Int → Prop) (g : Int → Int → V) : R2:=fun x y H Q=>∃ i j,x = .int i ∧ y = .int j ∧ C i j ∧ Q (g i j) H
noncomputable def rI0 (g : Int → Int → V) : R2:=fun x y H Q=>∃ i j,x = .int i ∧ y = .int j ∧ Q (g i j) H
noncomputable def rU (g : Int → V) : V → Hp → VK → Prop:=fun x H Q=>∃ i,x = .int i ∧ Q (g i) H
section
variable {X : Cx} {a b c : Expr} {ta tb tc : TE} {pos : Pos}
theorem binT (ha : PE X a ta) (hb : PE X b tb) {pins : List (Addr × Obj)} {s : Shared} {σ : St} {H : Hp} {R : V → V → Hp → Prop} (I : Inv X pins σ H s)
  (h : ta σ H fun x H1=>tb σ H1 fun y H2=>R x y H2) {Q : Value → Shared → Prop} {f : Value → Value → Sem Value}
  (hf : ∀ v u s2 x y H2,Inv X pins σ H2 s2 → RelV x v → RelV y u → R x y H2 → wpAny (model X.prog X.w) X.A (f v u) Q X.xe s2) :
  wpAny (model X.prog X.w) X.A (eval a X.env) (fun v s₁=>wpAny (model X.prog X.w) X.A (eval b X.env) (fun u s₂=>wpAny (model X.prog X.w) X.A (f v u) Q X.xe s₂) X.xe s₁) X.xe s:=by
 refine thn (ha pins s σ H _ I h) fun v s1 ⟨x,H1,I1,r1,q1⟩=>?_
 refine thn (hb pins s1 σ H1 _ I1 q1) fun u s2 ⟨y,H2,I2,r2,q2⟩=>?_
 exact hf v u s2 x y H2 I2 r1 r2 q2
theorem Je {op : Operator} {r : R2} (ho : OpR X (binaryOp op) r) (ha : PE X a ta) (hb : PE X b tb) : PE X (.BinOp a op b pos) (tOp r ta tb):=by
 intro pins s σ H Q I h
 exact wpAny_BinOp (binT ha hb I h fun v u s2 x y H2 I2 rx ry q=>ho pins s2 σ H2 x y v u Q I2 rx ry q)
theorem J3Z {op : UnaryOp} {r : V → Hp → VK → Prop} (ho : UnR X (unaryOp op) r) (ha : PE X a ta) : PE X (.UnaryOp op a pos) (tUn r ta):=by
 intro pins s σ H Q I h
 exact UnaryOp_ (thn (ha pins s σ H _ I h) fun v s1 ⟨x,H1,I1,r1,q1⟩=>ho pins s1 σ H1 x v Q I1 r1 q1)
theorem opI {f : Value → Value → Sem Value} {C : Int → Int → Prop} {g : Int → Int → Int}
  (rule : ∀ (i j : Int) (t u : Tok) (s : Shared) (Q : Value → Shared → Prop) (E : Value → Shared → Prop),C i j → Q (.int (g i j) s.toks) { s with toks:=s.toks + 1 } → wpAny (model X.prog X.w) X.A (f (.int i t) (.int j u)) Q E s) :
  OpR X f (rI C fun i j=>.int (g i j)):=by
 intro pins s σ H x y v u Q I rx ry h
 obtain ⟨i,j,rfl,rfl,hc,q⟩:=h
 obtain ⟨t,rfl⟩:=rx
 obtain ⟨t',rfl⟩:=ry
 exact rule i j t t' s _ _ hc ⟨.int (g i j),H,I.tok _,⟨_,rfl⟩,q⟩
theorem opI0 {f : Value → Value → Sem Value} {g : Int → Int → Int}
  (rule : ∀ (i j : Int) (t u : Tok) (s : Shared) (Q : Value → Shared → Prop) (E : Value → Shared → Prop),Q (.int (g i j) s.toks) { s with toks:=s.toks + 1 } → wpAny (model X.prog X.w) X.A (f (.int i t) (.int j u)) Q E s) :
  OpR X f (rI0 fun i j=>.int (g i j)):=by
 intro pins s σ H x y v u Q I rx ry h
 obtain ⟨i,j,rfl,rfl,q⟩:=h
 obtain ⟨t,rfl⟩:=rx
 obtain ⟨t',rfl⟩:=ry
 exact rule i j t t' s _ _ ⟨.int (g i j),H,I.tok _,⟨_,rfl⟩,q⟩
theorem opB0 {f : Value → Value → Sem Value} {g : Int → Int → Bool}
  (rule : ∀ (i j : Int) (t u : Tok) (s : Shared) (Q : Value → Shared → Prop) (E : Value → Shared → Prop),Q (.bool (g i j)) s → wpAny (model X.prog X.w) X.A (f (.int i t) (.int j u)) Q E s) :
  OpR X f (rI0 fun i j=>.bl (g i j)):=by
 intro pins s σ H x y v u Q I rx ry h
 obtain ⟨i,j,rfl,rfl,q⟩:=h
 obtain ⟨t,rfl⟩:=rx
 obtain ⟨t',rfl⟩:=ry
 exact rule i j t t' s _ _ ⟨.bl (g i j),H,I,rfl,q⟩
noncomputable def CDiv (i j : Int) : Prop:=0 < j ∧ j < 1073741824
noncomputable def CMul (i j : Int) : Prop:=(-(2 ^ 64) < i ∧ i < 2 ^ 64) ∨ (-(2 ^ 64) < j ∧ j < 2 ^ 64)
theorem CMul.ok {i j : Int} (h : CMul i j) : IntMulOk i j:=by
 rcases h with ⟨h1,h2⟩ | ⟨h1,h2⟩
 ·exact .of_left (intBits_le_64 h1 h2)
 ·exact .of_right (intBits_le_64 h1 h2)
theorem JU : OpR X (binaryOp .Add) (rI0 fun i j=>.int (i + j)):=opI0 fun _ _ _ _ _ _ _ q=>add_int q
theorem JaP : OpR X (binaryOp .Sub) (rI0 fun i j=>.int (i - j)):=opI0 fun _ _ _ _ _ _ _ q=>sub_int q
theorem J6Z : OpR X (binaryOp .Mult) (rI CMul fun i j=>.int (i * j)):=opI fun _ _ _ _ _ _ _ hc q=>mul_int q hc.ok
theorem JM : OpR X (binaryOp .FloorDiv) (rI CDiv fun i j=>.int (i / j)):=opI fun i j _ _ _ _ _ hc q=>by
 have h1 : (0 : Int) < j:=hc.1
 have h2 : j < 1073741824:=hc.2
 exact floordiv_int (by omega) (by rw [Int.fdiv_eq_ediv_of_nonneg i (by omega)]; exact q) (.inl (PyProof.noPylong_small (by omega)))
theorem JN : OpR X (binaryOp .Mod) (rI (fun _ j=>0 < j) fun i j=>.int (i % j)):=opI fun i j _ _ _ _ _ hc q=>by
 have h1 : (0 : Int) < j:=hc
 exact mod_int' (by omega) (by rw [Int.fmod_eq_emod_of_nonneg i (by omega)]; exact q)
theorem unI {f : Value → Sem Value} {g : Int → Int}
  (rule : ∀ (i : Int) (t : Tok) (s : Shared) (Q : Value → Shared → Prop) (E : Value → Shared → Prop),Q (.int (g i) s.toks) { s with toks:=s.toks + 1 } → wpAny (model X.prog X.w) X.A (f (.int i t)) Q E s) :
  UnR X f (rU fun i=>.int (g i)):=by
 intro pins s σ H x v Q I rx h
 obtain ⟨i,rfl,q⟩:=h
 obtain ⟨t,rfl⟩:=rx
 exact rule i t s _ _ ⟨.int (g i),H,I.tok _,⟨_,rfl⟩,q⟩
theorem J2P : UnR X (unaryOp .USub) (rU fun i=>.int (-i)):=unI fun _ _ _ _ _ q=>neg_int q
end
noncomputable def scal : V → V → Bool
 | .non,.non=>true | .non,.int _=>true | .int _,.non=>true | .non,.bl _=>true | .bl _,.non=>true | .non,.str _=>true | .str _,.non=>true
 | .int _,.int _=>true | .bl _,.bl _=>true | .str _,.str _=>true | .byt _,.byt _=>true
 | .int _,.str _=>true | .str _,.int _=>true | .bl _,.str _=>true | .str _,.bl _=>true
 | _,_=>false
noncomputable def rEq : R2:=fun x y H Q=>scal x y = true ∧ Q (.bl (decide (x = y))) H
noncomputable def rNe : R2:=fun x y H Q=>scal x y = true ∧ Q (.bl (!decide (x = y))) H
theorem J8Q {i j : Int} : decide (V.int i = V.int j) = (i == j):=by
 rw [Bool.eq_iff_iff]
 simp
theorem JaD {i j : Bool} : decide (V.bl i = V.bl j) = (i == j):=by
 rw [Bool.eq_iff_iff]
 simp
theorem J8L {i j : Str} : decide (V.str i = V.str j) = (i == j):=by
 rw [Bool.eq_iff_iff]
 simp
theorem J8X {i j : Array UInt8} : decide (V.byt i = V.byt j) = (i.toList == j.toList):=by
 rw [Bool.eq_iff_iff]
 cases i
 cases j
 simp
section
variable {X : Cx} {a b c : Expr} {ta tb tc : TE} {pos : Pos}
theorem JT {pins : List (Addr × Obj)} {σ : St} {H : Hp} {s : Shared} {Q : VK} {k k' : Bool} (I : Inv X pins σ H s) (q : Q (.bl k) H) (e : k = k') : EP X pins σ Q (.bool k') s:=by
 subst e
 exact ⟨.bl k,H,I,rfl,q⟩
theorem J02 : OpR X (compareOp .Eq) rEq:=by
 intro pins s σ H x y v u Q I rx ry h
 obtain ⟨hs,q⟩:=h
 cases x with
 | non =>
  cases rx
  cases y with
  | non=>cases ry; exact PySem.EqNone.eq_none_none (JT I q (by simp))
  | bl j=>cases ry; exact PySem.EqNone.eq_none_bool (JT I q (by simp))
  | int j=>obtain ⟨t',rfl⟩:=ry; exact PySem.EqNone.eq_none_int (JT I q (by simp))
  | str j=>obtain ⟨t',rfl⟩:=ry; exact PySem.EqNone.eq_none_str (JT I q (by simp))
  | _=>exact absurd (show false = true from hs) Bool.false_ne_true
 | bl i =>
  cases rx
  cases y with
  | non=>cases ry; exact PySem.EqNone.eq_bool_none (JT I q (by simp))
  | bl j=>cases ry; exact eq_bool (JT I q JaD)
  | str j=>obtain ⟨t',rfl⟩:=ry; exact PySem.EqMixed.eq_bool_str (JT I q (by simp))
  | _=>exact absurd (show false = true from hs) Bool.false_ne_true
 | int i =>
  obtain ⟨t,rfl⟩:=rx
  cases y with
  | non=>cases ry; exact PySem.EqNone.eq_int_none (JT I q (by simp))
  | int j=>obtain ⟨t',rfl⟩:=ry; exact eq_int (JT I q J8Q)
  | str j=>obtain ⟨t',rfl⟩:=ry; exact PySem.EqMixed.eq_int_str (JT I q (by simp))
  | _=>exact absurd (show false = true from hs) Bool.false_ne_true
 | str i =>
  obtain ⟨t,rfl⟩:=rx
  cases y with
  | non=>cases ry; exact PySem.EqNone.eq_str_none (JT I q (by simp))
  | bl j=>cases ry; exact PySem.EqMixed.eq_str_bool (JT I q (by simp))
  | int j=>obtain ⟨t',rfl⟩:=ry; exact PySem.EqMixed.eq_str_int (JT I q (by simp))
  | str j=>obtain ⟨t',rfl⟩:=ry; exact eq_str (JT I q J8L)
  | _=>exact absurd (show false = true from hs) Bool.false_ne_true
 | byt i =>
  obtain ⟨t,rfl⟩:=rx
  cases y with
  | byt j=>obtain ⟨t',rfl⟩:=ry; exact PySem.W.eq_bytes (JT I q J8X)
  | _=>exact absurd (show false = true from hs) Bool.false_ne_true
 | _=>cases y <;> exact absurd (show false = true from hs) Bool.false_ne_true
theorem J42 : OpR X (compareOp .NotEq) rNe:=by
 intro pins s σ H x y v u Q I rx ry h
 obtain ⟨hs,q⟩:=h
 cases x with
 | non =>
  cases rx
  cases y with
  | non=>cases ry; exact PySem.EqNone.ne_none_none (JT I q (by simp))
  | bl j=>cases ry; exact PySem.EqNone.ne_none_bool (JT I q (by simp))
  | int j=>obtain ⟨t',rfl⟩:=ry; exact PySem.EqNone.ne_none_int (JT I q (by simp))
  | str j=>obtain ⟨t',rfl⟩:=ry; exact PySem.EqNone.ne_none_str (JT I q (by simp))
  | _=>exact absurd (show false = true from hs) Bool.false_ne_true
 | bl i =>
  cases rx
  cases y with
  | non=>cases ry; exact PySem.EqNone.ne_bool_none (JT I q (by simp))
  | bl j=>cases ry; exact ne_bool (JT I q (congrArg not JaD))
  | str j=>obtain ⟨t',rfl⟩:=ry; exact PySem.EqMixed.ne_bool_str (JT I q (by simp))
  | _=>exact absurd (show false = true from hs) Bool.false_ne_true
 | int i =>
  obtain ⟨t,rfl⟩:=rx
  cases y with
  | non=>cases ry; exact PySem.EqNone.ne_int_none (JT I q (by simp))
  | int j=>obtain ⟨t',rfl⟩:=ry; exact ne_int (JT I q (congrArg not J8Q))
  | str j=>obtain ⟨t',rfl⟩:=ry; exact PySem.EqMixed.ne_int_str (JT I q (by simp))
  | _=>exact absurd (show false = true from hs) Bool.false_ne_true
 | str i =>
  obtain ⟨t,rfl⟩:=rx
  cases y with
  | non=>cases ry; exact PySem.EqNone.ne_str_none (JT I q (by simp))
  | bl j=>cases ry; exact PySem.EqMixed.ne_str_bool (JT I q (by simp))
  | int j=>obtain ⟨t',rfl⟩:=ry; exact PySem.EqMixed.ne_str_int (JT I q (by simp))
  | str j=>obtain ⟨t',rfl⟩:=ry; exact ne_str (JT I q (congrArg not J8L))
  | _=>exact absurd (show false = true from hs) Bool.false_ne_true
 | byt i =>
  obtain ⟨t,rfl⟩:=rx
  cases y with
  | byt j=>obtain ⟨t',rfl⟩:=ry; exact PySem.W.ne_bytes (JT I q (congrArg not J8X))
  | _=>exact absurd (show false = true from hs) Bool.false_ne_true
 | _=>cases y <;> exact absurd (show false = true from hs) Bool.false_ne_true
theorem Jap : OpR X (compareOp .Lt) (rI0 fun i j=>.bl (decide (i < j))):=opB0 fun _ _ _ _ _ _ _ q=>lt_int q
theorem J93 : OpR X (compareOp .LtE) (rI0 fun i j=>.bl (decide (i ≤ j))):=opB0 fun _ _ _ _ _ _ _ q=>le_int q
theorem J92 : OpR X (compareOp .Gt) (rI0 fun i j=>.bl (decide (j < i))):=opB0 fun _ _ _ _ _ _ _ q=>gt_int q
theorem Jav : OpR X (compareOp .GtE) (rI0 fun i j=>.bl (decide (j ≤ i))):=opB0 fun _ _ _ _ _ _ _ q=>ge_int q
theorem J9E : OpR X (compareOp .In) (fun x y H Q=>∃ i j,x = .str i ∧ y = .str j ∧ Q (.bl (!(Builtin.Str.occurrences j i 0 j.length 1).isEmpty)) H):=by
 intro pins s σ H x y v u Q I rx ry h
 obtain ⟨i,j,rfl,rfl,q⟩:=h
 obtain ⟨t,rfl⟩:=rx
 obtain ⟨t',rfl⟩:=ry
 exact in_str (JT I q rfl)
theorem J6N : OpR X (compareOp .NotIn) (fun x y H Q=>∃ i j,x = .str i ∧ y = .str j ∧ Q (.bl (!(!(Builtin.Str.occurrences j i 0 j.length 1).isEmpty))) H):=by
 intro pins s σ H x y v u Q I rx ry h
 obtain ⟨i,j,rfl,rfl,q⟩:=h
 obtain ⟨t,rfl⟩:=rx
 obtain ⟨t',rfl⟩:=ry
 exact notIn_str (JT I q rfl)
theorem Ju (b : Expr) {op : CmpOp} (h : op ≠ .In:=by decide) (h2 : op ≠ .NotIn:=by decide) : behindInMarks op b = false:=by
 have e1 : (op == CmpOp.In) = false:=by cases op <;> first | rfl | exact absurd rfl h
 have e2 : (op == CmpOp.NotIn) = false:=by cases op <;> first | rfl | exact absurd rfl h2
 cases b <;> simp [behindInMarks,e1,e2]
theorem J2d {op : CmpOp} {r : R2} (ho : OpR X (compareOp op) r) (ha : PE X a ta) (hb : PE X b tb) (hm : behindInMarks op b = false) : PE X (.Compare a [op] [b] pos) (tOp r ta tb):=by
 intro pins s σ H Q I h
 exact wpAny_Compare1 (binT ha hb I h fun v u s2 x y H2 I2 rx ry q=>ho pins s2 σ H2 x y v u Q I2 rx ry q) hm
noncomputable def Jdc (t : TE) : TT:=fun σ H Q=>t σ H fun x H'=>∃ k,x = .bl k ∧ Q k H'
theorem Jo {op : CmpOp} {r : R2} (ho : OpR X (compareOp op) r) (ha : PE X a ta) (hb : PE X b tb) (hm : behindInMarks op b = false) : PT X (.Compare a [op] [b] pos) (Jdc (tOp r ta tb)):=by
 intro pins s σ H Q I h
 refine wpAny_isTrue_Compare1 (thn (ha pins s σ H _ I h) fun v s1 ⟨x,H1,I1,r1,q1⟩=>thn (hb pins s1 σ H1 _ I1 q1) fun u s2 ⟨y,H2,I2,r2,q2⟩ =>
  thn (ho pins s2 σ H2 x y v u _ I2 r1 r2 q2) fun c s3 ⟨z,H3,I3,r3,k,e,q3⟩=>?_) hm
 subst e
 cases r3
 exact wpAny_truthy_bool ⟨H3,I3,q3⟩
noncomputable def JcP (r r' : R2) (ta tb tc : TE) : TE:=fun σ H Q=>ta σ H fun x H1=>tb σ H1 fun y H2=>r x y H2 fun z H3=>∃ k,z = .bl k ∧
 (if k = true then tc σ H3 fun w' H4=>r' y w' H4 Q else Q (.bl false) H3)
theorem J7Y {op op' : CmpOp} {r r' : R2} (ho : OpR X (compareOp op) r) (ho' : OpR X (compareOp op') r') (ha : PE X a ta) (hb : PE X b tb) (hc : PE X c tc)
  (hm : lastMarks [op,op'] [b,c] = false:=by with_unfolding_all rfl) : PE X (.Compare a [op,op'] [b,c] pos) (JcP r r' ta tb tc):=by
 intro pins s σ H Q I h
 refine Compare_chain (thn (ha pins s σ H _ I h) fun v s1 ⟨x,H1,I1,r1,q1⟩=>chain_link (thn (hb pins s1 σ H1 _ I1 q1) fun u s2 ⟨y,H2,I2,r2,q2⟩ =>
  thn (ho pins s2 σ H2 x y v u _ I2 r1 r2 q2) fun d s3 ⟨z,H3,I3,r3,k,e,q3⟩=>?_)) hm
 subst e
 cases r3
 refine wpAny_truthy_bool ?_
 cases k with
 | false=>exact ite_ff ⟨.bl false,H3,I3,rfl,q3⟩
 | true=>exact ite_tt (chain_last (thn (hc pins s3 σ H3 _ I3 q3) fun w' s4 ⟨z',H4,I4,r4,q4⟩=>ho' pins s4 σ H4 y z' u w' Q I4 r2 r4 q4))
theorem J5v : (sizeLine : Nat) < 2 ^ 63:=by rw [sizeLine_eq]; decide
theorem J8s : OpR X (binaryOp .Add) (fun x y H Q=>∃ i j,x = .str i ∧ y = .str j ∧ i.length + j.length ≤ sizeLine ∧ Q (.str (i ++ j)) H):=by
 intro pins s σ H x y v u Q I rx ry h
 obtain ⟨i,j,rfl,rfl,hz,q⟩:=h
 obtain ⟨t,rfl⟩:=rx
 obtain ⟨t',rfl⟩:=ry
 exact add_str (fun t' tk=>⟨.str (i ++ j),H,I.tok _,⟨_,rfl⟩,q⟩) hz
theorem J83 {x : V} {us : List Value} (r : Vals [x] us) : ∃ u,us = [u] ∧ RelV x u:=by
 cases r with
 | cons r1 r2=>cases r2; exact ⟨_,rfl,r1⟩
theorem J9w : J1X X (.type "int") (fun xs H Q=>(∃ i,xs = [.int i] ∧ Q (.int i) H) ∨ ∃ k,xs = [.bl k] ∧ Q (.int (if k then 1 else 0)) H):=by
 intro pins s σ H xs us Q I r h
 rcases h with ⟨i,rfl,q⟩ | ⟨k,rfl,q⟩
 ·obtain ⟨u,rfl,t,rfl⟩:=J83 r
  exact call_int_int ⟨.int i,H,I,⟨_,rfl⟩,q⟩
 ·obtain ⟨u,rfl,r1⟩:=J83 r
  cases r1
  exact call_int_bool ⟨.int (if k then 1 else 0),H,I.tok _,⟨_,rfl⟩,q⟩
theorem J6Y : J1X X (.type "str") (fun xs H Q=>∃ i,xs = [.int i] ∧ i.natAbs.log2 < 1920 ∧ Q (.str (toString i)) H):=by
 intro pins s σ H xs us Q I r h
 obtain ⟨i,rfl,hz,q⟩:=h
 obtain ⟨u,rfl,t,rfl⟩:=J83 r
 exact PySem.P.str_of_int hz ⟨.str _,H,I.tok _,⟨_,rfl⟩,q⟩
end
end L2
namespace L2
open PySem PySem.Spec PyProof.Rows
structure ObjM (h : Heap) (x dx C : Addr) (mA : Str → Option Value) : Prop where
 obj : h.get? x = some (PySem.W.instObj C dx)
 ns : h.Ns1 dx mA
 ne : dx ≠ x
theorem J9m {h : Heap} {dx : Addr} {mA : Str → Option Value} (n : h.Ns1 dx mA) : ∃ od,h.get? dx = some od ∧ ∀ name,PySem.W.lookIn name od = some (mA name):=by
 obtain ⟨o,es,ep,ho,hd,hk,_,hm⟩:=n
 refine ⟨o,ho,fun name=>?_⟩
 have e:=hm name
 unfold nsFind findBy at e
 rw [← Array.find?_toList] at e
 unfold PySem.W.lookIn
 rw [hd]
 dsimp only
 split
 ·rename_i y q
  rw [q] at e
  exact congrArg some e
 ·rename_i q
  rw [q] at e
  have a : es.toList.any (·.refKey) = false:=by
   rw [List.any_eq_false]
   intro y hy
   obtain ⟨z,t,hkey⟩:=hk y (Array.mem_toList_iff.mp hy)
   simp [DictEntry.refKey,hkey]
  have a' : ¬ es.toList.any (·.refKey) = true:=by rw [a]; exact Bool.false_ne_true
  rw [if_neg a']
  exact congrArg some e
theorem ObjM.look {h : Heap} {x dx C : Addr} {mA : Str → Option Value} (I : ObjM h x dx C mA) : ∃ od,PySem.W.InstAt h x (PySem.W.instObj C dx) C (some od) ∧ ∀ name,PySem.W.lookIn name od = some (mA name) :=
 let ⟨od,ho,hl⟩:=J9m I.ns
 ⟨od,⟨I.obj,rfl,rfl,ho⟩,hl⟩
section
variable {prog : Program} {w : World} {A : Around} {E : Value → Shared → Prop} {s : Shared} {K : PySem.W.Frag} {x dx C f : Addr} {mA : Str → Option Value} {name : Str} {v : Value}
theorem JbD {expr : Bool} {Q : Value → Shared → Prop} (X : K.In s.heap) (I : ObjM s.heap x dx C mA) (hg : PySem.W.plainGet K C name = true) (hh : PySem.W.hasDictIn K C = true)
  (ha : PySem.W.findIn K (.ref C) name = some none) (hv : mA name = some v) (hv' : PySem.W.handedIn v = true) (h : Q v { s with toks:=s.toks + 1 }) :
  wpAny (model prog w) A (getAttr (.ref x) name expr) Q E s:=by
 obtain ⟨od,J,hl⟩:=I.look
 exact PySem.W.get_value X J (PySem.W.plainGet_of hg).1 (PySem.W.findObj_own hh ha rfl (by rw [hl,hv])) hv' h
theorem JaW {pl : Sem Bool} {Q : Value × List Value → Shared → Prop} (X : K.In s.heap) (I : ObjM s.heap x dx C mA) (hg : PySem.W.plainGet K C name = true)
  (hf : PySem.W.findIn K (.ref C) name = some (some (.ref f))) (ht : PySem.W.isFn K (.ref f) = true) (hv : mA name = none) (h : Q (.ref f,[.ref x]) s) :
  wpAny (model prog w) A (getMethod (.ref x) name pl) Q E s:=by
 obtain ⟨od,J,hl⟩:=I.look
 exact PySem.W.method_fn X J (PySem.W.plainGet_of hg).1 (PySem.W.plainGet_of hg).2 hf (beq_iff_eq.mp ht) (by show (PySem.W.lookIn name od).map (·.isSome) = some false; rw [hl,hv]; rfl) h
theorem Jbr {ns : List Str} {Q : Unit → Shared → Prop} (X : K.In s.heap) (I : ObjM s.heap x dx C mA)
  (hs : PySem.W.findIn K (.ref C) "__setattr__" = some (some (.builtin "object.__setattr__"))) (hp : PySem.W.plainOver K C = true) (ht : PySem.W.takerIn K C name = some none) (hh : PySem.W.hasDictIn K C = true)
  (hw : PySem.Within mA ns) (hsz : ns.length ≤ sizeLine)
  (h : ∀ h',ObjM h' x dx C (fun y=>if y = name then some v else mA y) → Heap.SameBut dx s.heap h' → Q () { s with heap:=h',toks:=s.toks + 2 }) :
  wpAny (model prog w) A (setAttr (.ref x) name v) Q E s:=by
 obtain ⟨od,J,hl⟩:=I.look
 refine PySem.W.set_plain X J hs (PySem.W.osa_open (s:={ s with toks:=s.toks + 1 }) (r:=none) X J hp ht fun b=>?_)
 obtain ⟨cd,hc,hd'⟩:=PySem.W.any_some hh
 have hx : s.heap.get? x = some ⟨.ref C,some dx,.plain,#[]⟩:=I.obj
 refine wpAny_bind (wpAny_pure (wpAny_bind (wpAny_bind (wpAny_loadPart hx (wpAny_bind (PySem.W.Looks.here (s:={ s with toks:=s.toks + 1 }) (PySem.W.looks_clsIn X hc) ?_))))))
 rw [hd']
 refine wpAny_pure (a:=some dx) (wpAny_bind (wpAny_pure (wpAny_bind ?_)))
 refine wpAny_nsSet1 (s:={ s with toks:=s.toks + 1 }) I.ns fun h' hn2 hs2=>?_
 obtain ⟨oD,esD,epD,hoD,hdD,hcD⟩:=hn2.count (PySem.Within.cons name v hw)
 refine wpAny_bind (wpAny_lookBehind hoD (by rw [hdD]; exact pastItsLine_dict (Nat.le_trans hcD (by rw [List.length_cons]; omega))) ?_)
 exact wpAny_pure (h _ ⟨(hs2.2 _ (Ne.symm I.ne)).trans I.obj,hn2,I.ne⟩ hs2)
theorem Jac {R : Result → Shared → Prop} {vs : List Value} {kw : List (Str × Value)} (X : K.In s.heap) (hm : PySem.W.makesIn K C = true)
  (hi : PySem.W.findIn K (.ref C) "__init__" = some (some (.ref f))) (hf : PySem.W.typeIn K (.ref f) = some (.type "function"))
  (h : codeAny (model prog w) (A.under (.builtin "type.__call__" ⟨.ref C :: vs,kw⟩)) (.call (.ref f) ⟨.ref (s.heap.objs.size + 1) :: vs,kw⟩) (PySem.W.InitBack (s.heap.objs.size + 1) R)
   {s with heap:=(s.heap.push PySem.W.emptyDict).push (PySem.W.instObj C s.heap.objs.size) }) :
  codeAny (model prog w) A (.call (.ref C) ⟨vs,kw⟩) R s:=by
 obtain ⟨hh,g,d,t,os⟩:=s
 exact PySem.W.make_core (PySem.W.makes_of X hm) (PySem.W.looks_findIn X hi) (fun self=>PySem.W.bind_fn X self hf) (.inl rfl) h
end
noncomputable def putF (f : Str) (v : V) : List (Str × V) → List (Str × V)
 | []=>[(f,v)]
 | (g,x) :: r=>if g = f then (g,v) :: r else (g,x) :: putF f v r
theorem J4B (f g : Str) (v : V) : ∀ fs : List (Str × V),(putF f v fs).lookup g = if g = f then some v else fs.lookup g
 | []=>by
  show List.lookup g [(f,v)] = _
  by_cases h : g = f
  ·have hb : (g == f) = true:=beq_iff_eq.mpr h
   simp only [List.lookup,hb,if_pos h]
  ·have hb : (g == f) = false:=beq_eq_false_iff_ne.mpr h
   simp only [List.lookup,hb,if_neg h]
 | (k,x) :: r=>by
  have ih:=J4B f g v r
  rw [show putF f v ((k,x) :: r) = (if k = f then (k,v) :: r else (k,x) :: putF f v r) from rfl]
  by_cases hk : k = f
  ·rw [if_pos hk]
   by_cases h : g = k
   ·have hb : (g == k) = true:=beq_iff_eq.mpr h
    simp only [List.lookup,hb,if_pos (h.trans hk)]
   ·have hb : (g == k) = false:=beq_eq_false_iff_ne.mpr h
    simp only [List.lookup,hb,if_neg (fun e : g = f=>h (e.trans hk.symm))]
  ·rw [if_neg hk]
   by_cases h : g = k
   ·have hb : (g == k) = true:=beq_iff_eq.mpr h
    simp only [List.lookup,hb,if_neg (fun e : g = f=>hk (h.symm.trans e))]
   ·have hb : (g == k) = false:=beq_eq_false_iff_ne.mpr h
    simp only [List.lookup,hb]
    exact ih
theorem J4p (f : Str) (v : V) : ∀ fs : List (Str × V),f ∈ (putF f v fs).map (·.1) ∧ ∀ g,g ∈ fs.map (·.1) → g ∈ (putF f v fs).map (·.1)
 | []=>⟨by simp [putF],fun g h=>by simp at h⟩
 | (k,x) :: r=>by
  obtain ⟨i1,i2⟩:=J4p f v r
  rw [show putF f v ((k,x) :: r) = (if k = f then (k,v) :: r else (k,x) :: putF f v r) from rfl]
  by_cases hk : k = f
  ·rw [if_pos hk]
   subst hk
   exact ⟨by simp,fun g h=>by simpa using h⟩
  ·rw [if_neg hk]
   refine ⟨?_,fun g h=>?_⟩
   ·rw [List.map_cons]
    exact List.mem_cons_of_mem _ i1
   ·rw [List.map_cons] at h ⊢
    rcases List.mem_cons.mp h with e | e
    ·exact List.mem_cons.mpr (.inl e)
    ·exact List.mem_cons_of_mem _ (i2 g e)
theorem J1r (f : Str) (v : V) : ∀ fs : List (Str × V),(putF f v fs).length ≤ fs.length + 1
 | []=>by simp [putF]
 | (k,x) :: r=>by
  have ih:=J1r f v r
  rw [show putF f v ((k,x) :: r) = (if k = f then (k,v) :: r else (k,x) :: putF f v r) from rfl]
  by_cases hk : k = f
  ·rw [if_pos hk,List.length_cons,List.length_cons]; omega
  ·rw [if_neg hk,List.length_cons,List.length_cons]; omega
theorem RelO.some_of {v : V} {o : Option Value} (r : RelO (some v) o) : ∃ u,o = some u ∧ RelV v u:=by
 cases o with
 | none=>exact (show False from r).elim
 | some u=>exact ⟨u,rfl,r⟩
theorem RelO.none_of {o : Option Value} (r : RelO none o) : o = none:=by
 cases o with
 | none=>rfl
 | some u=>exact (show False from r).elim
theorem J9H {v : V} {u : Value} (r : RelV v u) : PySem.W.handedIn u = true:=by
 cases v with
 | non=>cases (show u = Value.none from r); rfl
 | bl b=>cases (show u = Value.bool b from r); rfl
 | int i=>obtain ⟨t,e⟩:=(show ∃ t,u = Value.int i t from r); cases e; rfl
 | str x=>obtain ⟨t,e⟩:=(show ∃ t,u = Value.str x t from r); cases e; rfl
 | byt b=>obtain ⟨t,e⟩:=(show ∃ t,u = Value.bytes b t from r); cases e; rfl
 | flt b=>obtain ⟨t,e⟩:=(show ∃ t,u = Value.float b t from r); cases e; rfl
 | ref a=>cases (show u = Value.ref a from r); rfl
 | ty n=>cases (show u = Value.type n from r); rfl
section
variable {P : Program} {w : World} {H H' : Hp} {h h' : Heap} {a C dx : Addr} {fs fs' : List (Str × V)}
theorem J4S (hok : HOk P w H h) (e : H a = some (.ins C dx fs)) : ∃ mA,ObjM h a dx C mA ∧ (∀ f,RelO (fs.lookup f) (mA f)) ∧ PySem.Within mA (fs.map (·.1)) ∧ fs.length ≤ 1000 ∧ H dx = some (.own a):=by
 obtain ⟨d,z,ne,ob,mA,n,r,q⟩:=(show J0X P w H h a (.ins C dx fs) from hok a _ e)
 exact ⟨mA,⟨ob,n,ne⟩,r,q,z,d⟩
end
structure Cls (K : PySem.W.Frag) (C : Addr) : Prop where
 pg : PySem.W.plainGet K C Str.empty = true
 hd : PySem.W.hasDictIn K C = true
 po : PySem.W.plainOver K C = true
 sa : PySem.W.findIn K (.ref C) "__setattr__" = some (some (.builtin "object.__setattr__"))
theorem Cls.get {K : PySem.W.Frag} {C : Addr} (c : Cls K C) (f : Str) : PySem.W.plainGet K C f = true:=c.pg
noncomputable def J0A (K : PySem.W.Frag) (C : Addr) (f : Str) : Prop:=PySem.W.findIn K (.ref C) f = some none
theorem J0A.taker {K : PySem.W.Frag} {C : Addr} {f : Str} (n : J0A K C f) : PySem.W.takerIn K C f = some none:=by
 unfold PySem.W.takerIn
 rw [show PySem.W.findIn K (.ref C) f = some none from n]
 rfl
structure Meth (K : PySem.W.Frag) (C : Addr) (m : Str) (f : Addr) : Prop where
 at_ : PySem.W.findIn K (.ref C) m = some (some (.ref f))
 fn : PySem.W.isFn K (.ref f) = true
 kp : PySem.W.keepIn K (.ref f) = true
section
variable {X : Cx} {pins : List (Addr × Obj)} {σ : St} {H : Hp} {s : Shared} {a C dx : Addr} {fs : List (Str × V)} {f : Str} {v : V} {A : Around} {E : Value → Shared → Prop}
theorem J8p {b : Bool} {Q : Value → Shared → Prop} (I : Inv X pins σ H s) (e : H a = some (.ins C dx fs)) (c : Cls X.K C) (n : J0A X.K C f) (l : fs.lookup f = some v)
  (h : ∀ u s',Inv X pins σ H s' → RelV v u → Q u s') : wpAny (model X.prog X.w) A (getAttr (.ref a) f b) Q E s:=by
 obtain ⟨mA,O,r,_,_,_⟩:=J4S I.hok e
 obtain ⟨u,hu,ru⟩:=RelO.some_of (v:=v) (o:=mA f) (by rw [← l]; exact r f)
 exact JbD I.kIn O (c.get f) c.hd n hu (J9H ru) (h u _ (I.tok _) ru)
theorem J8r {m : Str} {g : Addr} {pl : Sem Bool} {Q : Value × List Value → Shared → Prop} (I : Inv X pins σ H s) (e : H a = some (.ins C dx fs)) (c : Cls X.K C) (k : Meth X.K C m g) (l : fs.lookup m = none)
  (h : Q (.ref g,[.ref a]) s) : wpAny (model X.prog X.w) A (getMethod (.ref a) m pl) Q E s:=by
 obtain ⟨mA,O,r,_,_,_⟩:=J4S I.hok e
 have hn : mA m = none:=RelO.none_of (by rw [← l]; exact r m)
 exact JaW I.kIn O (c.get m) k.at_ k.fn hn h
theorem J8I {y : V} {u : Value} {Q : Unit → Shared → Prop} (I : Inv X pins σ H s) (e : H a = some (.ins C dx fs)) (c : Cls X.K C) (n : J0A X.K C f) (hl : fs.length < 1000) (ry : RelV y u)
  (h : ∀ s',Inv X pins σ (upd H a (.ins C dx (putF f y fs))) s' → Q () s') : wpAny (model X.prog X.w) A (setAttr (.ref a) f u) Q E s:=by
 obtain ⟨mA,O,r,wi,_,ho⟩:=J4S I.hok e
 have hz : (fs.map (·.1)).length ≤ sizeLine:=by rw [List.length_map,sizeLine_eq]; omega
 refine Jbr I.kIn O c.sa c.po n.taker c.hd wi hz fun h' O' sb=>h _ ?_
 have hd : ∃ o,h'.get? dx = some o:=let ⟨o,_,_,e',_⟩:=O'.ns; ⟨o,e'⟩
 refine I.write (x:=a) (e:=dx) (by rw [e]; exact True.intro) (.inr ho) (fun b q hb z=>(sb.2 b hb).trans z) hd ?_
 refine ⟨by rw [JX O.ne]; exact ho,?_,O.ne,O'.obj,_,O'.ns,fun g=>?_,fun g hg=>?_⟩
 ·have:=J1r f y fs; omega
 ·show RelO ((putF f y fs).lookup g) (if g = f then some u else mA g)
  rw [J4B]
  by_cases q : g = f
  ·rw [if_pos q,if_pos q]; exact ry
  ·rw [if_neg q,if_neg q]; exact r g
 ·by_cases q : g = f
  ·rw [q]; exact (J4p f y fs).1
  ·refine (J4p f y fs).2 g (wi g fun z=>hg ?_)
   show (if g = f then some u else mA g) = none
   rw [if_neg q]; exact z
theorem Inv.made (I : Inv X pins σ H s) : Inv X pins σ (upd (upd H s.heap.objs.size (.own (s.heap.objs.size + 1))) (s.heap.objs.size + 1) (.ins C s.heap.objs.size []))
  {s with heap:=(s.heap.push PySem.W.emptyDict).push (PySem.W.instObj C s.heap.objs.size) }:=by
 have e1 : (s.heap.push PySem.W.emptyDict).get? s.heap.objs.size = some PySem.W.emptyDict:=Heap.get?_push_size s.heap rfl
 have e2 : ((s.heap.push PySem.W.emptyDict).push (PySem.W.instObj C s.heap.objs.size)).get? (s.heap.objs.size + 1) = some (PySem.W.instObj C s.heap.objs.size):=by
  have:=Heap.get?_push_size (s.heap.push PySem.W.emptyDict) (o:=PySem.W.instObj C s.heap.objs.size) rfl
  rwa [Heap.size_push] at this
 have e3 : (s.heap.push PySem.W.emptyDict).Ns s.heap.objs.size (fun _=>none):=⟨PySem.W.emptyDict,#[],_,e1,rfl,(fun e he=>absurd he (by simp)),fun _=>rfl⟩
 have I1:=I.laid (a:=s.heap.objs.size) (o:=.own (s.heap.objs.size + 1)) (h':=s.heap.push PySem.W.emptyDict) (t':=s.toks) (fun b u q=>Heap.get?_push_of_some _ q) (Nat.le_refl _) ⟨_,e1⟩
 refine I1.laid (a:=s.heap.objs.size + 1) (o:=.ins C s.heap.objs.size []) (t':=s.toks) (fun b u q=>Heap.get?_push_of_some _ q) (Nat.le_of_eq (Heap.size_push _ _)) ?_
 have ne : s.heap.objs.size ≠ s.heap.objs.size + 1:=Nat.ne_of_lt (Nat.lt_succ_self _)
 refine ⟨by rw [JX ne,Jr],Nat.zero_le _,ne,e2,fun _=>none,(Heap.Ns1.of_empty e3).at fun o q=>Heap.get?_push_of_some _ q,fun _=>True.intro,fun y hy=>absurd rfl hy⟩
theorem JbC {prog : Program} {w : World} {env : Env} {e : Expr} {f : Str} {pos : Pos} {s : Shared} {Q : Value → Shared → Prop} (hb : attributeBase e f env (eval e env) = eval e env)
  (h : wpAny (model prog w) A (eval e env) (fun o s₁=>wpAny (model prog w) A (getAttr o f true) Q E s₁) E s) : wpAny (model prog w) A (eval (.Attribute e f pos) env) Q E s :=
 Attribute_any_ h (by rw [arm_eval_Attribute,hb])
end
noncomputable def tFld (K : PySem.W.Frag) (ta : TE) (f : Str) : TE:=fun σ H Q=>ta σ H fun x H1=>∃ a C dx fs v,x = .ref a ∧ H1 a = some (.ins C dx fs) ∧ Cls K C ∧ J0A K C f ∧ fs.lookup f = some v ∧ Q v H1
noncomputable def sFld (K : PySem.W.Frag) (ta tv : TE) (f : Str) : TS:=fun D σ H=>tv σ H fun y H1=>ta σ H1 fun x H2=>∃ a C dx fs,x = .ref a ∧ H2 a = some (.ins C dx fs) ∧ Cls K C ∧ J0A K C f ∧ fs.length < 1000 ∧
 D.nx σ (upd H2 a (.ins C dx (putF f y fs)))
section
variable {X : Cx} {o e value : Expr} {f : Str} {pos pos' tpos : Pos} {ta tv : TE}
theorem Jcj (he : PE X e ta) (hb : attributeBase e f X.env (eval e X.env) = eval e X.env) : PE X (.Attribute e f pos) (tFld X.K ta f):=by
 intro pins s σ H Q I h
 refine JbC hb (thn (he pins s σ H _ I h) fun u s1 ⟨x,H1,I1,rx,a,C,dx,fs,v,ex,ea,c,n,l,q⟩=>?_)
 subst ex
 obtain rfl : u = Value.ref a:=rx
 exact J8p I1 ea c n l fun u' s2 I2 ru=>⟨v,H1,I2,ru,q⟩
theorem J20 (ha : PE X o ta) (hv : PE X value tv) (hs : swapsWith value (some (.Attribute o f pos')) pos.line X.env = pure false) : PS X (.Assign [.Attribute o f pos'] value pos) (sFld X.K ta tv f):=by
 intro pins s σ H D I h
 refine plainObj_wpAny_Assign_Attribute (thn (hv pins s σ H _ I h) fun u s1 ⟨y,H1,I1,ry,q⟩=>thn (ha pins s1 σ H1 _ I1 q) fun ov s2 ⟨x,H2,I2,rx,a,C,dx,fs,ex,ea,c,n,l,q2⟩=>?_) hs
 subst ex
 obtain rfl : ov = Value.ref a:=rx
 exact J8I I2 ea c n l ry fun s3 I3=>⟨σ,_,I3,q2⟩
end
section
variable {X : Cx} {pins : List (Addr × Obj)} {σ : St} {H : Hp} {s : Shared} {A : Around} {E : Value → Shared → Prop} {Q : Value → Shared → Prop} {c : Value} {b : Bool}
inductive TyOf (K : PySem.W.Frag) (H : Hp) : V → Value → Prop where
 | non : TyOf K H .non (.type "NoneType")
 | bl (x : Bool) : TyOf K H (.bl x) (.type "bool")
 | int (i : Int) : TyOf K H (.int i) (.type "int")
 | str (x : Str) : TyOf K H (.str x) (.type "str")
 | flt (x : UInt64) : TyOf K H (.flt x) (.type "float")
 | lst {a : Addr} {xs : List V} (e : H a = some (.lst xs)) : TyOf K H (.ref a) (.type "list")
 | frz {a : Addr} {o : Obj} {xs : List V} (e : H a = some (.frz o (.lst xs))) : TyOf K H (.ref a) (.type "list")
 | tup {a : Addr} {xs : List V} (e : H a = some (.tup xs)) : TyOf K H (.ref a) (.type "tuple")
 | dK {a : Addr} {kvs : List (Key × V)} (e : H a = some (.dK kvs)) : TyOf K H (.ref a) (.type "dict")
 | dT {a : Addr} {kvs : List (List Key × V)} (e : H a = some (.dT kvs)) : TyOf K H (.ref a) (.type "dict")
 | ins {a C dx : Addr} {fs : List (Str × V)} (e : H a = some (.ins C dx fs)) (cl : Cls K C) (ha : PySem.W.findIn K (.ref C) "__class__" = some (some (.builtin "object.__class__")))
   (hn : PySem.W.specialIn K (.builtin "object.__class__") "__get__" = some (some (.builtin "getset_descriptor.__get__"))) (htk : PySem.W.takesIn K (.builtin "object.__class__") = some true)
   (hm : PySem.W.mroIn K C (.type "object") = some true) : TyOf K H (.ref a) (.ref C)
theorem J9N {x : V} {u t : Value} (I : Inv X pins σ H s) (rx : RelV x u) (ty : TyOf X.K H x t) (e : PySem.W.kitOne X.K t c = some b) (h : ∀ tk,Q (.bool b) { s with toks:=tk }) :
  wpAny (model X.prog X.w) A (call (.builtin "isinstance") [u,c]) Q E s:=by
 cases ty with
 | non=>cases (show u = Value.none from rx); exact PySem.W.kia_one PySem.W.kitx_none I.kIn True.intro e (fun z=>nomatch z) h
 | bl y=>cases (show u = Value.bool y from rx); exact PySem.W.kia_one PySem.W.kitx_bool I.kIn True.intro e (fun z=>nomatch z) h
 | int i=>obtain ⟨t,q⟩:=(show ∃ t,u = Value.int i t from rx); cases q; exact PySem.W.kia_one PySem.W.kitx_int I.kIn True.intro e (fun z=>nomatch z) h
 | str y=>obtain ⟨t,q⟩:=(show ∃ t,u = Value.str y t from rx); cases q; exact PySem.W.kia_one PySem.W.kitx_str I.kIn True.intro e (fun z=>nomatch z) h
 | flt y=>obtain ⟨t,q⟩:=(show ∃ t,u = Value.float y t from rx); cases q; exact PySem.W.kia_one PySem.W.kitx_float I.kIn True.intro e (fun z=>nomatch z) h
 | @lst a xs ea =>
  cases (show u = Value.ref a from rx)
  obtain ⟨_,_,n,_,h1⟩:=(show J0X X.prog X.w H s.heap a (.lst xs) from I.hok a _ ea)
  exact PySem.W.kia_one PySem.W.kitx_list I.kIn ⟨_,h1,rfl⟩ e (fun z=>nomatch z) h
 | @frz a ob xs ea =>
  cases (show u = Value.ref a from rx)
  obtain ⟨_,_,_,n,_,h1⟩:=(show J0X X.prog X.w H s.heap a (.frz ob (.lst xs)) from I.hok a _ ea)
  exact PySem.W.kia_one PySem.W.kitx_list I.kIn ⟨_,h1,rfl⟩ e (fun z=>nomatch z) h
 | @tup a xs ea =>
  cases (show u = Value.ref a from rx)
  obtain ⟨_,_,_,p⟩:=(show J0X X.prog X.w H s.heap a (.tup xs) from I.hok a _ ea)
  obtain ⟨o,h1,h2,_⟩:=p
  exact PySem.W.kia_one PySem.W.kitx_tuple I.kIn ⟨o,h1,h2⟩ e (fun z=>nomatch z) h
 | @dK a kvs ea =>
  cases (show u = Value.ref a from rx)
  obtain ⟨_,_,vs,_,p⟩:=(show J0X X.prog X.w H s.heap a (.dK kvs) from I.hok a _ ea)
  obtain ⟨o,es,ep,h1,h2,_⟩:=p
  exact PySem.W.kia_one PySem.W.kitx_dict I.kIn ⟨o,h1,h2.1⟩ e (fun z=>nomatch z) h
 | @dT a kvs ea =>
  cases (show u = Value.ref a from rx)
  obtain ⟨_,_,xs,_,o,es,ep,h1,h2,_⟩:=(show J0X X.prog X.w H s.heap a (.dT kvs) from I.hok a _ ea)
  exact PySem.W.kia_one PySem.W.kitx_dict I.kIn ⟨o,h1,h2.1⟩ e (fun z=>nomatch z) h
 | @ins a C dx fs ea cl ha hn htk hm =>
  cases (show u = Value.ref a from rx)
  obtain ⟨mA,O,_⟩:=J4S I.hok ea
  obtain ⟨od,J,_⟩:=O.look
  exact PySem.W.kia_one (PySem.W.kitx_own (cl.get _) cl.hd ha hn htk hm) I.kIn J e (fun z=>nomatch z) h
end
end L2
namespace L2
open PySem PySem.Spec PyProof.Rows
structure Room (k : Nat) (A : Around) : Prop where
 hd : A.handled = none
 dp : A.depth + 3 * k + 5 < recursionLimit
 un : A.units + 16 * k + 200 < cLine
theorem Room.mono {j k : Nat} {A : Around} (r : Room k A) (h : j ≤ k) : Room j A:=⟨r.hd,by have:=r.dp; omega,by have:=r.un; omega⟩
theorem Room.deeper {k : Nat} {A : Around} (r : Room (k + 1) A) (env : Env) : Room k (A.deeper env) :=
 ⟨r.hd,by have:=r.dp; show A.depth + 1 + 3 * k + 5 < _; omega,by have:=r.un; show A.units + 3 + 16 * k + 200 < _; omega⟩
theorem J8z {A : Around} {C : Addr} {us : List Value} {kw : List (Str × Value)} : (A.under (.builtin "type.__call__" ⟨.ref C :: us,kw⟩)).depth = A.depth + 1:=by
 first | rfl | simp [Around.under,Code.weight,Code.isCreation,Code.isGuard,Code.isCaller,Code.frames,Code.isFrame,guardIds]
theorem J8B {A : Around} {C : Addr} {us : List Value} {kw : List (Str × Value)} : (A.under (.builtin "type.__call__" ⟨.ref C :: us,kw⟩)).units = A.units + 1:=by
 first | rfl | simp [Around.under,Code.cUnits,Code.frames,Code.isFrame]
theorem Room.make {k : Nat} {A : Around} (r : Room (k + 1) A) (C : Addr) (us : List Value) (kw : List (Str × Value)) : Room k (A.under (.builtin "type.__call__" ⟨.ref C :: us,kw⟩)) :=
 ⟨r.hd,by have:=r.dp; rw [J8z]; omega,by have:=r.un; rw [J8B]; omega⟩
theorem Room.depth {k : Nat} {A : Around} (r : Room k A) : A.depth < recursionLimit:=by have:=r.dp; omega
theorem Room.units0 {k : Nat} {A : Around} (r : Room k A) : A.units < cLine:=by have:=r.un; omega
noncomputable def tNil : TA:=fun _ H Q=>Q [] H
noncomputable def Jd1 (ta : TE) (tr : TA) : TA:=fun σ H Q=>ta σ H fun x H1=>tr σ H1 fun xs H2=>Q (x :: xs) H2
section
variable {X : Cx} {e : Expr} {es : List Expr} {te : TE} {t : TA} {pos : Pos}
theorem J7 : PA X [] tNil:=fun _ _ _ _ H Q I h=>Calls.spliced_nil ⟨[],H,I,.nil,h⟩
theorem J0 (ha : PE X e te) (hr : PA X es t) (hs : starEach (e :: es) X.env = (false,eval e X.env) :: starEach es X.env:=by rfl) : PA X (e :: es) (Jd1 te t):=by
 intro pos pins s σ H Q I h
 rw [hs]
 show wpAny _ _ (spliced ((false,eval e X.env) :: backTo pos (starEach es X.env))) _ _ s
 refine Calls.spliced_cons (thn (ha pins s σ H _ I h) fun u s1 ⟨x,H1,I1,r1,q1⟩=>?_)
 exact thn (hr pos pins s1 σ H1 _ I1 q1) fun us s2 ⟨xs,H2,I2,r2,q2⟩=>⟨x :: xs,H2,I2,.cons r1 r2,q2⟩
noncomputable def tLst (t : TA) : TE:=fun σ H Q=>t σ H fun xs H1=>xs.length ≤ sizeLine ∧ ∀ p,H1 p = none → Q (.ref p) (upd H1 p (.lst xs))
theorem JV (h : PA X es t) : PE X (.List es pos) (tLst t):=by
 intro pins s σ H Q I hq
 refine wpAny_List_spliced (thn (h pos pins s σ H _ I hq) fun us s1 ⟨xs,H1,I1,r,z,q⟩=>⟨by rw [← r.length]; exact z,?_⟩)
 have hf : H1 s1.heap.objs.size = none:=I1.hok.fresh (Nat.le_refl _)
 refine ⟨.ref s1.heap.objs.size,upd H1 s1.heap.objs.size (.lst xs),I1.laid (t':=s1.toks) (fun b u e=>Heap.get?_push_of_some _ e) (Nat.le_refl _) ?_,rfl,q _ hf⟩
 exact ⟨z,us,0,r,Heap.get?_push_size _ rfl⟩
end
noncomputable abbrev Sp:=List V → Hp → VK → XK → Prop
noncomputable abbrev CXT:=List Env → Hp → Shared → XK → Value → Shared → Prop
structure Env0 (P : Program) (w : World) (K : PySem.W.Frag) (mg : Str → Option Value) (base : Heap) (A : Around) (outer : List Env) (s : Shared) (H : Hp) : Prop where
 frames : A.frames = some outer
 mod : Mod K mg base
 bs : ∀ b o,base.get? b = some o → s.heap.get? b = some o ∧ H b = none
 bsz : base.objs.size ≤ s.heap.objs.size
 funs : s.heap.FunFrames base outer
 frf : ∀ b ∈ frs outer,H b = none
 hok : HOk P w H s.heap
 bare : AllBare s.gens
noncomputable def CE (outer : List Env) (P : Program) (w : World) (H : Hp) (s : Shared) (Q : VK) (u : Value) (s' : Shared) : Prop :=
 ∃ v H',s'.os = s.os ∧ AllBare s'.gens ∧ Un (frs outer) [] H H' s.heap s'.heap ∧ HOk P w H' s'.heap ∧ RelV v u ∧ Q v H'
noncomputable def CR (CX : CXT) (outer : List Env) (P : Program) (w : World) (H : Hp) (s : Shared) (Q : VK) (E : XK) (r : Result) (s' : Shared) : Prop :=
 match r with
 | .ok (.ret u)=>CE outer P w H s Q u s'
 | .ok _=>False
 | .error e=>CX outer H s E e s'
structure FnOk (P : Program) (w : World) (K : PySem.W.Frag) (mg : Str → Option Value) (base : Heap) (CX : CXT) (k : Nat) (f : Addr) (fd : FuncData) (ps : List Str) (sp : Sp) : Prop where
 len : ∀ vs H Q E,sp vs H Q E → vs.length = ps.length
 run : ∀ (A : Around) (outer : List Env) (s : Shared) (H : Hp) (args : Args) (us : List Value) (vs : List V) (Q : VK) (E : XK),Room k A → Env0 P w K mg base A outer s H → BindsTo s fd args (ps.zip us) → Vals vs us → sp vs H Q E →
  codeAny (model P w) A (.call (.ref f) args) (CR CX outer P w H s Q E) s
theorem FnOk.mono {P : Program} {w : World} {K : PySem.W.Frag} {mg : Str → Option Value} {base : Heap} {CX : CXT} {j k : Nat} {f : Addr} {fd : FuncData} {ps : List Str} {sp : Sp} (F : FnOk P w K mg base CX j f fd ps sp) (h : j ≤ k) :
  FnOk P w K mg base CX k f fd ps sp:=⟨F.len,fun A outer s H args us vs Q E hr=>F.run A outer s H args us vs Q E (hr.mono h)⟩
theorem Env0.make {P : Program} {w : World} {K : PySem.W.Frag} {mg : Str → Option Value} {base : Heap} {A : Around} {outer : List Env} {s : Shared} {H : Hp} (e : Env0 P w K mg base A outer s H) (C : Addr) (us : List Value) (kw : List (Str × Value)) :
  Env0 P w K mg base (A.under (.builtin "type.__call__" ⟨.ref C :: us,kw⟩)) outer s H:=⟨by first | exact e.frames | (simpa [Around.under,Code.envs,Code.isFrame,pushEnvs] using e.frames),e.mod,e.bs,e.bsz,e.funs,e.frf,e.hok,e.bare⟩
section
variable {X : Cx} {pins : List (Addr × Obj)} {σ : St} {H : Hp} {s s' : Shared}
theorem Inv.env0 (I : Inv X pins σ H s) : Env0 X.prog X.w X.K X.mg X.base X.A X.stack s H :=
 ⟨I.ok.frames,I.ok.mod,I.bs,Nat.le_trans I.ok.bsz I.sz,I.stack,I.stkFree,I.hok,I.bare⟩
theorem Inv.after {Q : VK} {u : Value} (I : Inv X pins σ H s) (h : CE X.stack X.prog X.w H s Q u s') : EP X pins σ Q u s':=by
 obtain ⟨v,H',os,bare,un,hok,r,q⟩:=h
 obtain ⟨hh,g,d,t,os'⟩:=s'
 obtain rfl : os' = s.os:=os
 exact ⟨v,H',I.call (h':=hh) (g':=g) (d':=d) (t':=t) (ch:=[]) un hok bare (fun b z=>absurd z (by simp)),r,q⟩
end
noncomputable def J97 (sp : Sp) (dvs : List V) (E : XK) (t : TA) : TE:=fun σ H Q=>t σ H fun vs H1=>sp (vs ++ dvs) H1 Q E
noncomputable def J3s (K : PySem.W.Frag) (fd : FuncData) (ps : List Str) (ds : List Value) : Prop :=
 ∀ (s : Shared) (us : List Value),K.In s.heap → (us ++ ds).length = ps.length → BindsTo s fd ⟨us,[]⟩ (ps.zip (us ++ ds))
theorem J3s.all {K : PySem.W.Frag} {fd : FuncData} {ps : List Str} (h : ∀ us : List Value,us.length = ps.length → bindArgs fd ⟨us,[]⟩ = pure (ps.zip us)) : J3s K fd ps []:=fun s us _ hl=>by
 rw [List.append_nil] at hl ⊢
 exact .of_eq (h us hl)
noncomputable def J3A (CX : CXT) (X : Cx) (E : XK) : Prop:=∀ (pins : List (Addr × Obj)) (σ : St) (H : Hp) (s : Shared) (e : Value) (s' : Shared),Inv X pins σ H s → CX X.stack H s E e s' → X.xe e s'
section
variable {X : Cx} {CX : CXT} {k : Nat} {f C : Addr} {fd : FuncData} {ps : List Str} {sp : Sp} {dvs : List V} {ds : List Value} {E : XK} {x m : Str} {p pos apos : Pos} {e o : Expr} {es : List Expr} {ta : TE} {t : TA}
theorem JaR {pins : List (Addr × Obj)} {σ : St} {H : Hp} {s : Shared} {Q : VK} {us : List Value} {vs : List V} (F : FnOk X.prog X.w X.K X.mg X.base CX k f fd ps sp) (hr : Room k X.A) (hb : J3s X.K fd ps ds) (hd : Vals dvs ds) (hx : J3A CX X E)
  (I : Inv X pins σ H s) (r : Vals vs us) (h : sp (vs ++ dvs) H Q E) : wpAny (model X.prog X.w) X.A (call (.ref f) us) (EP X pins σ Q) X.xe s:=by
 have r2 : Vals (vs ++ dvs) (us ++ ds):=r.append hd
 have hl : (us ++ ds).length = ps.length:=by rw [← r2.length]; exact F.len _ _ _ _ h
 refine wpAny_call (codeAny_mono (F.run X.A X.stack s H ⟨us,[]⟩ (us ++ ds) (vs ++ dvs) Q E hr I.env0 (hb s us I.kIn hl) r2 h) fun r s' hq=>?_)
 cases r with
 | error e=>exact hx pins σ H s e s' I hq
 | ok fl =>
  cases fl with
  | ret u=>exact I.after hq
  | next=>exact False.elim hq
  | brk=>exact False.elim hq
  | cont=>exact False.elim hq
theorem J8Y (F : FnOk X.prog X.w X.K X.mg X.base CX k f fd ps sp) (hr : Room k X.A) (hg : Gl X x) (hm : X.mg x = some (.ref f)) (hk : PySem.W.keepIn X.K (.ref f) = true) (hb : J3s X.K fd ps ds) (hd : Vals dvs ds) (hx : J3A CX X E)
  (ha : PA X (e :: es) t) (hdb : (x == ("__debug__" : Str)) = false:=by decide) (he : starEach (e :: es) X.env = (false,eval e X.env) :: starEach es X.env:=by rfl) (hpl : (backTo pos (starEach es X.env)).any (·.1) = false:=by rfl) :
  PE X (.Call (.Name x p) (e :: es) [] pos) (J97 sp dvs E t):=by
 intro pins s σ H Q I h
 refine wpAny_Call_Name_kw (J3f I hg hm ?_ hdb)
 refine PySem.W.callWith_K (h₀:=X.base) I.ok.mod.kin hk (thn (ha pos pins s σ H _ I h) fun us s1 ⟨vs,H1,I1,r,q⟩=>⟨I1.kIn,?_⟩) he hpl
 exact JaR F hr hb hd hx I1 r q
structure Mk (K : PySem.W.Frag) (C f : Addr) : Prop where
 makes : PySem.W.makesIn K C = true
 init : PySem.W.findIn K (.ref C) "__init__" = some (some (.ref f))
 fn : PySem.W.isFn K (.ref f) = true
 kp : PySem.W.keepIn K (.ref C) = true
theorem Jao {pins : List (Addr × Obj)} {σ : St} {H : Hp} {s : Shared} {Q : VK} {us : List Value} {vs : List V} (M : Mk X.K C f) (F : FnOk X.prog X.w X.K X.mg X.base CX k f fd ps sp) (hr : Room (k + 1) X.A) (hb : J3s X.K fd ps ds) (hd : Vals dvs ds)
  (hx : J3A CX X E) (I : Inv X pins σ H s) (r : Vals vs us)
  (h : ∀ x dx,H x = none → H dx = none → dx ≠ x → sp (.ref x :: (vs ++ dvs)) (upd (upd H dx (.own x)) x (.ins C dx [])) (fun v H2=>v = .non ∧ Q (.ref x) H2) E) :
  wpAny (model X.prog X.w) X.A (call (.ref C) us) (EP X pins σ Q) X.xe s:=by
 have hq:=h (s.heap.objs.size + 1) s.heap.objs.size (I.hok.fresh (Nat.le_succ _)) (I.hok.fresh (Nat.le_refl _)) (Nat.ne_of_lt (Nat.lt_succ_self _))
 have I2:=Inv.made (C:=C) I
 have r2 : Vals (V.ref (s.heap.objs.size + 1) :: (vs ++ dvs)) (Value.ref (s.heap.objs.size + 1) :: (us ++ ds)):=.cons rfl (r.append hd)
 have hl : (Value.ref (s.heap.objs.size + 1) :: us ++ ds).length = ps.length:=by
  have e:=r2.length
  rw [F.len _ _ _ _ hq] at e
  exact e.symm
 refine wpAny_call (Jac (f:=f) I.kIn M.makes M.init (beq_iff_eq.mp M.fn) (codeAny_mono (F.run _ X.stack _ _ ⟨Value.ref (s.heap.objs.size + 1) :: us,[]⟩ (Value.ref (s.heap.objs.size + 1) :: (us ++ ds)) _ _ E (hr.make C us [])
  (I2.env0.make C us []) (hb _ (Value.ref (s.heap.objs.size + 1) :: us) I2.kIn hl) r2 hq) fun r s' hq'=>?_))
 cases r with
 | error e=>exact hx pins σ _ _ e s' I2 hq'
 | ok fl =>
  cases fl with
  | ret u =>
   obtain ⟨v,H',I3,rv,ev,q3⟩:=I2.after hq'
   subst ev
   exact ⟨rv,⟨V.ref (s.heap.objs.size + 1),H',I3,rfl,q3⟩⟩
  | next=>exact False.elim hq'
  | brk=>exact False.elim hq'
  | cont=>exact False.elim hq'
end
section
variable {X : Cx} {CX : CXT} {k : Nat} {f C : Addr} {fd : FuncData} {ps ks : List Str} {sp : Sp} {E : XK} {x m : Str} {p pos apos kpos : Pos} {e o : Expr} {es : List Expr} {kws : List Keyword} {te ta : TE} {t tk : TA} {nm : Option Str}
variable {g : List Value → List Value → List Value} {gV : List V → List V → List V}
end
structure Jw (N P : List Str) (sc : Scope) : Prop where
 kind : sc.kind = .function
 co : sc.isCoroutine = false
 gen : sc.isGenerator = false
 nd : N.Nodup
 pre : N.take P.length = P
 par : ∀ x ∈ P,sc.names.lookup x = some .local ∨ sc.names.lookup x = some .cell
 nofree : ∀ y ∈ sc.names,y.2 ≠ .free
theorem J6b {kindOf : Str → Option NameKind} {x : Str} : ∀ {binds : List (Str × Value)} {m : Str → Option Value},(∀ v,(x,v) ∉ binds) → bindL kindOf binds m x = m x
 | [],_,_=>rfl
 | (n,v) :: r,m,h=>by
  unfold bindL
  rw [J6b fun w hw=>h w (List.mem_cons_of_mem _ hw)]
  split
  ·have : x ≠ n:=by rintro rfl; exact h v List.mem_cons_self
   simp [this]
  ·rfl
theorem J61 {kindOf : Str → Option NameKind} {x : Str} : ∀ {binds : List (Str × Value)} {m : Str → Option Value},(∀ v,(x,v) ∉ binds) → bindC kindOf binds m x = m x
 | [],_,_=>rfl
 | (n,v) :: r,m,h=>by
  unfold bindC
  rw [J61 fun w hw=>h w (List.mem_cons_of_mem _ hw)]
  split
  ·rfl
  ·have : x ≠ n:=by rintro rfl; exact h v List.mem_cons_self
   simp [this]
theorem J60 {kindOf : Str → Option NameKind} {x : Str} {v : Value} : ∀ {P : List Str} {vs : List Value} {i : Nat} {m : Str → Option Value},P.Nodup → P[i]? = some x → vs[i]? = some v → kindOf x = some .local →
  bindL kindOf (P.zip vs) m x = some v
 | [],_,_,_,_,h,_,_=>by simp at h
 | _ :: _,[],_,_,_,_,h,_=>by simp at h
 | p :: P,w :: vs,0,m,nd,h1,h2,hk=>by
  simp at h1 h2; subst h1; subst h2
  show bindL kindOf ((p,w) :: P.zip vs) m p = _
  unfold bindL
  rw [J6b fun v hv=>(List.nodup_cons.mp nd).1 (List.of_mem_zip hv).1,if_pos hk]
  simp
 | p :: P,w :: vs,i + 1,m,nd,h1,h2,hk=>by
  show bindL kindOf ((p,w) :: P.zip vs) m x = _
  unfold bindL
  exact J60 (i:=i) (List.nodup_cons.mp nd).2 (by simpa using h1) (by simpa using h2) hk
theorem J5Z {kindOf : Str → Option NameKind} {x : Str} {v : Value} : ∀ {P : List Str} {vs : List Value} {i : Nat} {m : Str → Option Value},P.Nodup → P[i]? = some x → vs[i]? = some v → kindOf x ≠ some .local →
  bindC kindOf (P.zip vs) m x = some v
 | [],_,_,_,_,h,_,_=>by simp at h
 | _ :: _,[],_,_,_,_,h,_=>by simp at h
 | p :: P,w :: vs,0,m,nd,h1,h2,hk=>by
  simp at h1 h2; subst h1; subst h2
  show bindC kindOf ((p,w) :: P.zip vs) m p = _
  unfold bindC
  rw [J61 fun v hv=>(List.nodup_cons.mp nd).1 (List.of_mem_zip hv).1,if_neg hk]
  simp
 | p :: P,w :: vs,i + 1,m,nd,h1,h2,hk=>by
  show bindC kindOf ((p,w) :: P.zip vs) m x = _
  unfold bindC
  exact J5Z (i:=i) (List.nodup_cons.mp nd).2 (by simpa using h1) (by simpa using h2) hk
noncomputable def start (N : List Str) (vs : List V) : St:=vs.map some ++ List.replicate (N.length - vs.length) none
noncomputable def cxOf (CX : CXT) (P : Program) (w : World) (K : PySem.W.Frag) (mg : Str → Option Value) (base : Heap) (N : List Str) (qual : Str) (scope : Scope) (f : Addr) (cd : Value) (A : Around) (outer : List Env) (s : Shared) (H : Hp) (E : XK) : Cx where
 prog:=P
 w:=w
 K:=K
 mg:=mg
 base:=base
 A:=A.deeper (envOfC qual scope s.heap.objs.size f cd)
 N:=N
 s₀:=s
 H₀:=H
 env:=envOfC qual scope s.heap.objs.size f cd
 outer:=outer
 stack:=envOfC qual scope s.heap.objs.size f cd :: outer
 ex:=[]
 calm:=true
 fn:=fun _=>true
 pn:=[]
 xe:=fun e s'=>wpAny (model P w) (A.deeper (envOfC qual scope s.heap.objs.size f cd)) (leaving (envOfC qual scope s.heap.objs.size f cd) e) (fun _ s''=>CX outer H s E e s'') (fun e' s''=>CX outer H s E e' s'') s'
theorem J7S {sc : Scope} {n : Nat} {x : Str} (h : sc.names.lookup x = some .cell) : ∃ c,(cellsFrom n sc.names []).lookup x = some c:=by
 have q:=PySem.W.cellsFrom_some sc.names n [] (.inl h)
 exact Option.isSome_iff_exists.mp q
theorem J9r {CX : CXT} {P : Program} {w : World} {K : PySem.W.Frag} {mg : Str → Option Value} {base : Heap} {N ps : List Str} {qual : Str} {scope : Scope} {f : Addr} {cd : Value} {A : Around} {outer : List Env} {s s1 : Shared} {H : Hp} {E : XK} {us : List Value} {vs : List V}
  (S : Jw N ps scope) (hd : A.handled = none) (e0 : Env0 P w K mg base A outer s H) (hl : vs.length = ps.length) (r : Vals vs us)
  (x : InCallC s s.heap.objs.size (bindL (envOfC qual scope s.heap.objs.size f cd).kindOf (ps.zip us) fun _=>none) (cellsFrom (s.heap.objs.size + 1) scope.names []) (bindC (envOfC qual scope s.heap.objs.size f cd).kindOf (ps.zip us) fun _=>none) s1) :
  Inv (cxOf CX P w K mg base N qual scope f cd A outer s H E) [] (start N vs) H s1:=by
 have hpl : ps.length ≤ N.length:=by have:=congrArg List.length S.pre; rw [List.length_take] at this; omega
 obtain ⟨h1,tk,rfl,hk⟩:=x.done
 have noA : ∀ b : Addr,b ∉ (cxOf CX P w K mg base N qual scope f cd A outer s H E).ex:=fun b z=>absurd (show b ∈ ([] : List Addr) from z) (by simp)
 refine ⟨⟨e0.mod,S.kind,rfl,rfl,Nat.le_refl _,fun y z c h1 h2=>?_,fun y hy=>?_,fun y c _ h=>?_,fun _=>hd,Around.frames_deeper e0.frames,.inr ⟨rfl,rfl⟩,fun b z=>absurd z (noA b),e0.bs,e0.bsz,fun b _ _=>noA b,fun b z=>absurd z (noA b),e0.funs,e0.frf⟩,
  rfl,e0.bare,Un.kept hk,⟨_,x.toInCall.ns,fun i y v h1 h2 h3=>?_⟩,fun y c h=>⟨_,x.cell y c h⟩,e0.hok.fresh (Nat.le_refl _),fun y c h=>?_,fun p hp=>absurd (show p ∈ ([] : List (Addr × Obj)) from hp) (by simp),e0.hok.kept hk,?_⟩
 ·exact name_of_addr x.apart (PySem.mem_of_lookup h1) (PySem.mem_of_lookup h2)
 ·have hy : scope.names.lookup y = some .cell ∨ scope.names.lookup y = some .free:=hy
  rcases hy with hy | hy
  ·exact J7S hy
  ·exact absurd rfl (S.nofree _ (PySem.mem_of_lookup hy))
 ·exact Nat.le_of_lt (x.above y c (PySem.mem_of_lookup h))
 ·have hi : i < vs.length:=by
   unfold start at h2
   by_cases hi : i < vs.length
   ·exact hi
   ·rw [List.getElem?_append_right (by simpa using hi)] at h2
    rw [List.getElem?_replicate] at h2
    split at h2 <;> cases h2
  have ha : vs[i]? = some v:=by
   unfold start at h2
   rw [List.getElem?_append_left (by simpa using hi),List.getElem?_map] at h2
   cases e : vs[i]? with
   | none=>rw [e] at h2; cases h2
   | some a=>rw [e] at h2; cases h2; rfl
  obtain ⟨u,hu,rv⟩:=r.get ha
  have hp : ps[i]? = some y:=by
   rw [← S.pre,List.getElem?_take_of_lt (by omega)]; exact h1
  have ndP : ps.Nodup:=by rw [← S.pre]; exact S.nd.sublist (List.take_sublist _ _)
  refine ⟨u,rv,?_⟩
  rcases S.par y (List.mem_of_getElem? hp) with k | k
  ·exact .inl ⟨k,J60 ndP hp hu k⟩
  ·obtain ⟨c,e⟩:=J7S (n:=s.heap.objs.size + 1) k
   refine .inr ⟨.inl k,c,e,?_⟩
   have q:=x.cell y c e
   rw [J5Z ndP hp hu (by show scope.names.lookup y ≠ _; rw [k]; decide)] at q
   exact q
 ·exact e0.hok.fresh (Nat.le_of_lt (x.above y c (PySem.mem_of_lookup h)))
 ·unfold start
  show _ = N.length
  rw [List.length_append,List.length_map,List.length_replicate]
  omega
theorem JbX {CX : CXT} {P : Program} {w : World} {K : PySem.W.Frag} {mg : Str → Option Value} {base : Heap} {k : Nat} {f : Addr} {name qual : Str} {params : Arguments} {body : List Stmt} {scope : Scope} {dV kV doc pm cdv ct oc : Value} {an od : Option Addr}
  {osl : Array (Option Value)} {N ps : List Str} {sp : Sp} (lk : K.lookup f = some ⟨oc,od,.func (PySem.W.fnOf name qual params body scope dV kV doc pm an cdv ct),osl⟩) (hcd : PySem.W.codeIn K cdv qual = true) (S : Jw N ps scope)
  (len : ∀ vs H Q E,sp vs H Q E → vs.length = ps.length)
  (hbody : ∀ (A : Around) (outer : List Env) (s : Shared) (H : Hp) (vs : List V) (Q : VK) (E : XK),Room k (A.deeper (envOfC qual scope s.heap.objs.size f cdv)) → sp vs H Q E →
   ∃ t,PSs (cxOf CX P w K mg base N qual scope f cdv A outer s H E) body t ∧ t { nx:=fun _ H'=>Q .non H',rt:=Q } (start N vs) H) :
  FnOk P w K mg base CX (k + 1) f (PySem.W.fnOf name qual params body scope dV kV doc pm an cdv ct) ps sp:=by
 refine ⟨len,fun A outer s H args us vs Q E hr e0 hb r hsp=>?_⟩
 have hl:=len _ _ _ _ hsp
 have KX : K.In s.heap:=e0.mod.kin.keeps fun b o e=>(e0.bs b o e).1
 have lim : s.heap.NoLimit:=e0.mod.nolimit.keeps fun b o e=>(e0.bs b o e).1
 have hkind : ∀ y ∈ ps.zip us,scope.names.lookup y.1 = some .local ∨ (scope.names.lookup y.1 = some .cell ∧ ((cellsFrom (s.heap.objs.size + 1) scope.names []).lookup y.1).isSome = true):=fun ⟨n,v⟩ hy=>by
  rcases S.par n (List.of_mem_zip hy).1 with q | q
  ·exact .inl q
  ·exact .inr ⟨q,PySem.W.cellsFrom_some _ _ _ (.inl q)⟩
 refine codeAny_call_function hr.depth (KX _ _ lk) rfl S.co S.gen rfl (PySem.W.codeRec_of KX hcd) (hb _ _ _ _ ?_)
 refine wpAny_newFunctionEnv_cells S.kind hkind fun env he s1 x=>?_
 subst he
 refine ⟨lim.keeps x.toInCall.keep,codeAny_func ?_⟩
 obtain ⟨t,ht,hq⟩:=hbody A outer s H vs Q E (hr.deeper _) hsp
 have I : Inv (cxOf CX P w K mg base N qual scope f cdv A outer s H E) [] (start N vs) H s1:=J9r S hr.hd e0 hl r x
 refine wpAny_mono (ht [] s1 (start N vs) H _ I hq) (fun fl s' hs=>?_) fun e s' hs=>hs
 have fin : ∀ {σ' : St} {H' : Hp} {v : V} {u : Value},Inv (cxOf CX P w K mg base N qual scope f cdv A outer s H E) [] σ' H' s' → RelV v u → Q v H' → CE outer P w H s Q u s' :=
  fun {σ' H' v u} J rv q=>⟨v,H',J.os,J.bare,J.base,J.hok,rv,q⟩
 cases fl with
 | ret u =>
  obtain ⟨v,σ',H',J,rv,q⟩:=hs
  exact fin J rv q
 | next =>
  obtain ⟨σ',H',J,q⟩:=hs
  exact fin (v:=V.non) (u:=Value.none) J rfl q
 | brk =>
  obtain ⟨_,_,_,q⟩:=hs
  exact False.elim q
 | cont =>
  obtain ⟨_,_,_,q⟩:=hs
  exact False.elim q
end L2
namespace L2
open PySem PySem.Spec PyProof.Rows
section
variable {X : Cx} {x : Str} {p pos : Pos} {e : Expr} {es : List Expr} {t : TA} {id T : String} {r : List V → Hp → VK → Prop}
noncomputable def tCB (r : List V → Hp → VK → Prop) (t : TA) : TE:=fun σ H Q=>t σ H fun vs H1=>r vs H1 Q
theorem Jz (hc : J1X X (.builtin id) r) (hg : Gl X x) (hm : X.mg x = none) (hv : bootBuiltins x = some (.builtin id)) (ha : PA X (e :: es) t) (hn : x ≠ "__name__":=by decide) (hdb : (x == ("__debug__" : Str)) = false:=by decide)
  (he : starEach (e :: es) X.env = (false,eval e X.env) :: starEach es X.env:=by rfl) (hpl : (backTo pos (starEach es X.env)).any (·.1) = false:=by rfl) : PE X (.Call (.Name x p) (e :: es) [] pos) (tCB r t):=by
 intro pins s σ H Q I h
 refine wpAny_Call_Name_kw (J4k I hg hm hv ?_ hn hdb)
 exact PyProof.Rows.callWith_builtin1 (thn (ha pos pins s σ H _ I h) fun us s1 ⟨vs,H1,I1,r1,q1⟩=>hc pins s1 σ H1 vs us Q I1 r1 q1) he hpl
theorem J1p (hc : J1X X (.type T) r) (hg : Gl X x) (hm : X.mg x = none) (hv : bootBuiltins x = some (.type T)) (ha : PA X (e :: es) t) (hn : x ≠ "__name__":=by decide) (hdb : (x == ("__debug__" : Str)) = false:=by decide)
  (he : starEach (e :: es) X.env = (false,eval e X.env) :: starEach es X.env:=by rfl) (hpl : (backTo pos (starEach es X.env)).any (·.1) = false:=by rfl) : PE X (.Call (.Name x p) (e :: es) [] pos) (tCB r t):=by
 intro pins s σ H Q I h
 refine wpAny_Call_Name_kw (J4k I hg hm hv ?_ hn hdb)
 exact PyProof.Rows.callWith_type1 (thn (ha pos pins s σ H _ I h) fun us s1 ⟨vs,H1,I1,r1,q1⟩=>hc pins s1 σ H1 vs us Q I1 r1 q1) he hpl
end
end L2
namespace HT
open PySem PyProof.Rows
section
open PySem.SeqAt
open PySem.AutoSeq1 (wpAny_loadPart')
open PySem.MeetsSeq PySem.MeetsSeq2 PySem.MeetsSeq3
end
section
variable {prog : Program} {w : World} {A : Around} {E : Value → Shared → Prop} {s : Shared}
noncomputable def sIx (n d : Nat) : Option Int → Nat
 | none=>d
 | some v=>if v < 0 then (v + (n : Int)).toNat else min v.toNat n
theorem sIx_none (n d : Nat) : sIx n d none = d:=rfl
theorem sIx_le (n d : Nat) (hd : d ≤ n) (o : Option Int) : sIx n d o ≤ n:=by
 cases o with
 | none=>exact hd
 | some v =>
  show (if v < 0 then (v + (n : Int)).toNat else min v.toNat n) ≤ n
  by_cases hv : v < 0
  ·rw [if_pos hv]; omega
  ·rw [if_neg hv]; exact Nat.min_le_right _ _
end
end HT
namespace L2
open PySem PySem.Spec PyProof.Rows
noncomputable abbrev TO:=St → Hp → (Option Int → Hp → Prop) → Prop
noncomputable def PO (X : Cx) (e : Option Expr) (t : TO) : Prop :=
 ∀ (pins : List (Addr × Obj)) (s : Shared) (σ : St) (H : Hp) (Q : Option Int → Hp → Prop),Inv X pins σ H s → t σ H Q →
  wpAny (model X.prog X.w) X.A (evalPart e X.env) (fun u s'=>∃ o H',Inv X pins σ H' s' ∧ IsPart u o ∧ Q o H') X.xe s
noncomputable def Jbg : TO:=fun _ H Q=>Q none H
noncomputable def Jd4 (t : TE) : TO:=fun σ H Q=>t σ H fun x H1=>∃ i,x = .int i ∧ Q (some i) H1
section
variable {X : Cx} {e : Expr} {te : TE} {lo hi : Option Expr} {tl th : TO} {pos p2 : Pos}
theorem JD : PO X none Jbg:=by
 intro pins s σ H Q I h
 rw [evalPart_none]
 exact wpAny_pure ⟨none,H,I,.none,h⟩
theorem JB (h : PE X e te) : PO X (some e) (Jd4 te):=by
 intro pins s σ H Q I hw
 rw [evalPart_some]
 refine thn (h pins s σ H _ I hw) fun u s1 ⟨x,H1,I1,r1,q1⟩=>?_
 obtain ⟨i,rfl,q⟩:=q1
 obtain ⟨t,rfl⟩:=r1
 exact ⟨some i,H1,I1,.int i t,q⟩
noncomputable def SlR (X : Cx) (r : V → Option Int → Option Int → Hp → VK → Prop) : Prop :=
 ∀ (pins : List (Addr × Obj)) (s : Shared) (σ : St) (H : Hp) (x : V) (v vl vu : Value) (lo hi : Option Int) (sl : Addr) (Q : VK),Inv X pins σ H s → RelV x v → s.heap.IsSliceOf sl vl vu .none → IsPart vl lo → IsPart vu hi → r x lo hi H Q →
  ∃ T id,typeLookup (.type T) "__getitem__" = pure (some (.builtin id)) ∧ s.TypeIs v T ∧ wpAny (model X.prog X.w) X.A (getItem v (.ref sl)) (EP X pins σ Q) X.xe s
noncomputable def tSl (r : V → Option Int → Option Int → Hp → VK → Prop) (te : TE) (tl th : TO) : TE:=fun σ H Q=>te σ H fun x H1=>tl σ H1 fun l H2=>th σ H2 fun u H3=>r x l u H3 Q
theorem Jy {r : V → Option Int → Option Int → Hp → VK → Prop} (hr : SlR X r) (he : PE X e te) (hl : PO X lo tl) (hu : PO X hi th) : PE X (.Subscript e (.Slice lo hi none p2) pos) (tSl r te tl th):=by
 intro pins s σ H Q I h
 refine Subscript_ (thn (he pins s σ H _ I h) fun v s1 ⟨x,H1,I1,r1,q1⟩=>?_)
 refine wpAny_Slice (thn (hl pins s1 σ H1 _ I1 q1) fun vl s2 ⟨l,H2,I2,pl,q2⟩=>thn (hu pins s2 σ H2 _ I2 q2) fun vu s3 ⟨u,H3,I3,pu,q3⟩=>?_)
 rw [evalPart_none]
 refine wpAny_pure ?_
 have I4 : Inv X pins σ H3 { s3 with heap:=s3.heap.push { cls:=.type "slice",data:=.fields #[vl,vu,.none] } }:=I3.kept (t':=s3.toks) fun b ob q=>Heap.get?_push_of_some _ q
 obtain ⟨T,id,hT,ht,hg⟩:=hr pins { s3 with heap:=s3.heap.push { cls:=.type "slice",data:=.fields #[vl,vu,.none] } } σ H3 x v vl vu l u s3.heap.objs.size Q I4 r1 (Heap.IsSliceOf.new ..) pl pu q3
 show wpAny (model X.prog X.w) X.A (subscriptTail e (.Slice lo hi none p2) v (.ref s3.heap.objs.size)) (EP X pins σ Q) X.xe { s3 with heap:=s3.heap.push { cls:=.type "slice",data:=.fields #[vl,vu,.none] } }
 exact tail_any (ops:=[.ref s3.heap.objs.size,v]) ht hT hg (by with_unfolding_all rfl)
noncomputable def cutV (xs : List V) (lo hi : Option Int) : List V:=(xs.drop (HT.sIx xs.length 0 lo)).take (HT.sIx xs.length xs.length hi - HT.sIx xs.length 0 lo)
theorem J7N (xs : List V) (lo hi : Option Int) : (cutV xs lo hi).length ≤ xs.length:=by
 unfold cutV
 rw [List.length_take,List.length_drop]
 omega
end
end L2
namespace L2
open PySem PySem.Spec PyProof.Rows
noncomputable def ixN (n : Nat) (i : Int) : Option Nat:=if 0 ≤ i then (if i < n then some i.toNat else none) else if -(n : Int) ≤ i then some (i + n).toNat else none
noncomputable def atI {α : Type} (xs : List α) (i : Int) : Option α:=(ixN xs.length i).bind fun j=>xs[j]?
theorem J8M {n : Nat} {i : Int} {j : Nat} (h : ixN n i = some j) : seqIndex? i n = some j ∧ j < n ∧ -(n : Int) ≤ i ∧ i < n:=by
 unfold ixN at h
 by_cases h0 : 0 ≤ i
 ·rw [if_pos h0] at h
  by_cases h1 : i < n
  ·rw [if_pos h1] at h
   have e : i.toNat = j:=Option.some.inj h
   exact ⟨by rw [seqIndex_of h0 h1,e],by omega,by omega,h1⟩
  ·rw [if_neg h1] at h; cases h
 ·rw [if_neg h0] at h
  by_cases h1 : -(n : Int) ≤ i
  ·rw [if_pos h1] at h
   have e : (i + n).toNat = j:=Option.some.inj h
   exact ⟨by rw [seqIndex_neg (by omega) h1,e],by omega,h1,by omega⟩
  ·rw [if_neg h1] at h; cases h
theorem J8O {α : Type} {xs : List α} {i : Int} {v : α} (h : atI xs i = some v) : ∃ j,seqIndex? i xs.length = some j ∧ xs[j]? = some v ∧ j < xs.length ∧ -(xs.length : Int) ≤ i ∧ i < xs.length:=by
 unfold atI at h
 cases e : ixN xs.length i with
 | none=>rw [e] at h; cases h
 | some j =>
  rw [e] at h
  obtain ⟨h1,h2,h3,h4⟩:=J8M e
  exact ⟨j,h1,h,h2,h3,h4⟩
theorem J3W {α : Type} {xs : List α} {j : Nat} {v : α} (h : xs[j]? = some v) : atI xs (j : Int) = some v:=by
 have hj : j < xs.length:=(List.getElem?_eq_some_iff.mp h).1
 have e : ixN xs.length (j : Int) = some j:=by
  unfold ixN
  rw [if_pos (by omega),if_pos (by omega)]; simp
 unfold atI; rw [e]; exact h
noncomputable def Jbd (b : Expr) : Prop:=∀ o i,subscripted b false o i = operate [o,i] (getItem o i)
noncomputable def IxR (X : Cx) (r : R2) : Prop :=
 ∀ (value slice : Expr) (pins : List (Addr × Obj)) (s : Shared) (σ : St) (H : Hp) (x y : V) (v u : Value) (Q : VK),Inv X pins σ H s → RelV x v → RelV y u → r x y H Q →
  subscripted slice false v u = operate [v,u] (getItem v u) → wpAny (model X.prog X.w) X.A (subscriptTail value slice v u) (EP X pins σ Q) X.xe s
noncomputable def MtR (X : Cx) (id : String) (r : V → List V → Hp → VK → Prop) : Prop :=
 ∀ (pins : List (Addr × Obj)) (s : Shared) (σ : St) (H : Hp) (x : V) (xs : List V) (v : Value) (us : List Value) (Q : VK),Inv X pins σ H s → RelV x v → Vals xs us → r x xs H Q →
  wpAny (model X.prog X.w) X.A (call (.builtin id) (v :: us)) (EP X pins σ Q) X.xe s
section
variable {X : Cx} {a b : Expr} {ta tb : TE} {pos : Pos}
theorem JL {r : R2} (hr : IxR X r) (ha : PE X a ta) (hb : PE X b tb) (hs : Jbd b) : PE X (.Subscript a b pos) (tOp r ta tb):=by
 intro pins s σ H Q I h
 exact Subscript_ (binT ha hb I h fun v u s2 x y H2 I2 rx ry q=>hr a b pins s2 σ H2 x y v u Q I2 rx ry q (hs _ _))
noncomputable def rIxL (K : PySem.W.Frag) : R2:=fun x y H Q=>∃ p xs i v,x = .ref p ∧ y = .int i ∧ SqL K H p xs ∧ atI xs i = some v ∧ Q v H
noncomputable def rIxS : R2:=fun x y H Q=>∃ z i c,x = .str z ∧ y = .int i ∧ z.length ≤ sizeLine ∧ atI z.cps.toList i = some c ∧ Q (.str ⟨#[c]⟩) H
theorem Jbw : IxR X (rIxL X.K):=by
 intro value slice pins s σ H x y v u Q I rx ry h hs
 obtain ⟨p,xs,i,z,rfl,rfl,hq,he,q⟩:=h
 cases rx
 obtain ⟨t,rfl⟩:=ry
 obtain ⟨its,r,pl,hz⟩:=I.list hq
 obtain ⟨j,h1,h2,h3,h4,h5⟩:=J8O he
 obtain ⟨w,ew,rw'⟩:=r.get h2
 have hl:=r.length
 have hn:=J5v
 have fin : EP X pins σ Q w s:=⟨z,H,I,rw',q⟩
 by_cases h0 : 0 ≤ i
 ·have hj : i.toNat = j:=by
   rw [seqIndex_of h0 h5] at h1
   exact Option.some.inj h1
  exact item_listR pl.isList h0 (by omega) (by rw [hj]; simpa using ew) fin hs
 ·have hj : (i + (its.toArray.size : Int)).toNat = j:=by
   rw [seqIndex_neg (by omega) h4] at h1
   rw [List.size_toArray,← hl]
   exact Option.some.inj h1
  exact subscriptTail_builtinR (x:=w) pl.isList.typeIs slot_list_getitem.lookup
   (wpAny_getItem_list_neg (Q:=fun r s'=>r = w ∧ EP X pins σ Q r s') pl.isList (by omega) (by rw [List.size_toArray] <;> omega) (by omega) (by rw [hj]; simpa using ew) ⟨rfl,fin⟩) hs
theorem Jcr : IxR X rIxS:=by
 intro value slice pins s σ H x y v u Q I rx ry h hs
 obtain ⟨z,i,c,rfl,rfl,hz,he,q⟩:=h
 obtain ⟨t,rfl⟩:=rx
 obtain ⟨t',rfl⟩:=ry
 obtain ⟨j,h1,h2,h3,h4,h5⟩:=J8O he
 have hl : z.cps.toList.length = z.length:=by simp [Str.length]
 rw [hl] at h1 h4 h5
 have hn:=J5v
 exact tail_any (typeIs_str s z t) slot_str_getitem.lookup (getItem_str (c:=c) (by
  have e1 : decide (i < -(2 ^ 63 : Int)) = false:=decide_eq_false (by omega)
  have e2 : decide (i ≥ 2 ^ 63) = false:=decide_eq_false (by omega)
  rw [e1,e2,Bool.or_false]) (by rw [h1]; simpa using h2) ⟨.str ⟨#[c]⟩,H,I.tok _,⟨_,rfl⟩,q⟩) hs
theorem J8E (its : List Value) (n j : Nat) (u : Value) : Obj.mapSeq (·.setIfInBounds j u) { cls:=.type "list",data:=.seq its.toArray n } = { cls:=.type "list",data:=.seq (its.set j u).toArray n }:=by
 simp [Obj.mapSeq]
theorem Inv.lst {pins : List (Addr × Obj)} {σ : St} {H : Hp} {s : Shared} {p : Addr} {xs : List V} (I : Inv X pins σ H s) (h : H p = some (.lst xs)) :
  ∃ (its : List Value) (n : Nat),Vals xs its ∧ s.heap.get? p = some { cls:=.type "list",data:=.seq its.toArray n } ∧ xs.length ≤ sizeLine:=by
 obtain ⟨z,its,n,r,e⟩:=I.hok p _ h
 exact ⟨its,n,r,e,z⟩
theorem Inv.lstUpd {pins : List (Addr × Obj)} {σ : St} {H : Hp} {s : Shared} {p : Addr} {xs ys : List V} {its its' : List Value} {n n' : Nat} {f : Obj → Obj} (I : Inv X pins σ H s) (h : H p = some (.lst xs))
  (ho : s.heap.get? p = some { cls:=.type "list",data:=.seq its.toArray n }) (hf : f { cls:=.type "list",data:=.seq its.toArray n } = { cls:=.type "list",data:=.seq its'.toArray n' }) (r : Vals ys its') (hz : ys.length ≤ sizeLine) (t : Nat) :
  Inv X pins σ (upd H p (.lst ys)) { s with heap:=s.heap.update p f,toks:=t }:=by
 have e : (s.heap.update p f).get? p = some { cls:=.type "list",data:=.seq its'.toArray n' }:=by
  rw [Heap.get?_update_self f ho (by rw [hf] <;> rfl),hf]
 refine I.write (x:=p) (e:=p) (by rw [h]; trivial) (.inl rfl) (fun b u hb q=>(Heap.get?_update_other _ _ (Ne.symm hb)).trans q) ⟨_,e⟩ ?_
 exact ⟨hz,its',n',r,e⟩
noncomputable def Jd8 : V → V → V → Hp → (Hp → Prop) → Prop:=fun o i v H Q=>∃ p xs k j,o = .ref p ∧ i = .int k ∧ H p = some (.lst xs) ∧ ixN xs.length k = some j ∧ Q (upd H p (.lst (xs.set j v)))
theorem J5s : PSet X Jd8:=by
 intro pins s σ H o i v ov iv u Q I ro ri rv h
 obtain ⟨p,xs,k,j,rfl,rfl,hp,hj,q⟩:=h
 cases ro
 obtain ⟨t,rfl⟩:=ri
 obtain ⟨its,n,r,ho,hz⟩:=I.lst hp
 obtain ⟨h1,h2,h3,h4⟩:=J8M hj
 have hl:=r.length
 have hn:=J5v
 have I' : Inv X pins σ (upd H p (.lst (xs.set j v))) { s with heap:=s.heap.update p (Obj.mapSeq (·.setIfInBounds j u)) } :=
  I.lstUpd hp ho (J8E its n j u) (r.set rv j) (by rw [List.length_set]; exact hz) s.toks
 by_cases h0 : 0 ≤ k
 ·have hk : k.toNat = j:=by
   rw [seqIndex_of h0 h4] at h1
   exact Option.some.inj h1
  exact PySem.W.ki_setAt ho h0 (by omega) (by rw [List.size_toArray,← hl]; exact h4) (by rw [hk]; exact ⟨_,I',q⟩)
 ·have hk : (k + (its.toArray.size : Int)).toNat = j:=by
   rw [seqIndex_neg (by omega) h3] at h1
   rw [List.size_toArray,← hl]
   exact Option.some.inj h1
  exact PySem.W.ki_setBack ho (by omega) (by rw [List.size_toArray,← hl]; exact h3) (by omega) (by rw [hk]; exact ⟨_,I',q⟩)
theorem J6V (lo hi : Option Int) (n : Nat) : (sliceBounds lo hi none n).1 = ((HT.sIx n 0 lo : Nat) : Int) ∧ (sliceBounds lo hi none n).2.1 = ((HT.sIx n n hi : Nat) : Int) ∧ (sliceBounds lo hi none n).2.2 = 1:=by
 refine ⟨?_,?_,rfl⟩
 ·cases lo with
  | none=>simp [sliceBounds,HT.sIx]
  | some i =>
   simp only [sliceBounds,HT.sIx,Option.getD_none,show (1 : Int) > 0 by decide,if_true]
   by_cases h : i < 0
   ·simp only [h,if_true] <;> omega
   ·simp only [h,if_false] <;> omega
 ·cases hi with
  | none=>simp [sliceBounds,HT.sIx]
  | some i =>
   simp only [sliceBounds,HT.sIx,Option.getD_none,show (1 : Int) > 0 by decide,if_true]
   by_cases h : i < 0
   ·simp only [h,if_true] <;> omega
   ·simp only [h,if_false] <;> omega
theorem J5V (its : List Value) (lo hi : Option Int) : slicePick its.toArray lo hi none = ((its.drop (HT.sIx its.length 0 lo)).take (HT.sIx its.length its.length hi - HT.sIx its.length 0 lo)).toArray:=by
 obtain ⟨h1,h2,h3⟩:=J6V lo hi its.toArray.size
 unfold slicePick
 rw [h1,h2,h3]
 simp only [sliceRange_one,pick_run,List.size_toArray] <;> rfl
noncomputable def rSlL (K : PySem.W.Frag) : V → Option Int → Option Int → Hp → VK → Prop:=fun x lo hi H Q=>∃ a xs,x = .ref a ∧ SqL K H a xs ∧ ∀ p,H p = none → Q (.ref p) (upd H p (.lst (cutV xs lo hi)))
theorem Jbm : SlR X (rSlL X.K):=by
 intro pins s σ H x v vl vu lo hi sl Q I rx hs pl pu h
 obtain ⟨a,xs,rfl,hx,q⟩:=h
 cases rx
 obtain ⟨its,r,ht,hz⟩:=I.list hx
 have hlen:=r.length
 refine ⟨"list",_,slot_list_getitem.lookup,ht.isList.typeIs,?_⟩
 refine wpAny_getItem_list_slice ht.isList hs pl pu .none (by simp) ?_ (by rw [List.size_toArray] <;> omega)
 rw [J5V,← hlen]
 refine ⟨.ref s.heap.objs.size,_,I.laid (t':=s.toks) (o:=.lst (cutV xs lo hi)) (fun b ob q=>Heap.get?_push_of_some _ q) (Nat.le_refl _) ?_,rfl,q _ (I.hok.fresh (Nat.le_refl _))⟩
 exact ⟨Nat.le_trans (J7N xs lo hi) hz,_,0,(r.drop (HT.sIx xs.length 0 lo)).take (HT.sIx xs.length xs.length hi - HT.sIx xs.length 0 lo),Heap.get?_push_size _ rfl⟩
noncomputable def J3t : V → Bool
 | .non=>true
 | .bl _=>true
 | .int _=>true
 | .str _=>true
 | _=>false
noncomputable def eqV : V → V → Bool
 | .non,.non=>true
 | .bl a,.bl b=>a == b
 | .bl a,.int b=>(if a then 1 else 0) == b
 | .int a,.bl b=>a == (if b then 1 else 0)
 | .int a,.int b=>a == b
 | .str a,.str b=>a == b
 | _,_=>false
theorem Jcd {A : Around} {s : Shared} {y x : V} {u v : Value} (ry : RelV y u) (rx : RelV x v) (fy : J3t y = true) (fx : J3t x = true) : SeqAt.EqAt A s u v (eqV y x):=by
 cases y with
 | non =>
  cases ry
  cases x with
  | non=>cases rx; exact SeqAt.EqAt.same _
  | bl b=>cases rx; exact SeqAt.EqAt.none_bool b
  | int b=>obtain ⟨t,rfl⟩:=rx; exact SeqAt.EqAt.none_int b t
  | str b=>obtain ⟨t,rfl⟩:=rx; exact SeqAt.EqAt.none_str b t
  | _=>exact absurd (show false = true from fx) Bool.false_ne_true
 | bl a =>
  cases ry
  cases x with
  | non=>cases rx; exact SeqAt.EqAt.bool_none a
  | bl b=>cases rx; exact SeqAt.EqAt.bool_bool a b
  | int b=>obtain ⟨t,rfl⟩:=rx; exact SeqAt.EqAt.bool_int a b t
  | str b=>obtain ⟨t,rfl⟩:=rx; exact SeqAt.EqAt.bool_str a b t
  | _=>exact absurd (show false = true from fx) Bool.false_ne_true
 | int a =>
  obtain ⟨t',rfl⟩:=ry
  cases x with
  | non=>cases rx; exact SeqAt.EqAt.int_none a t'
  | bl b=>cases rx; exact SeqAt.EqAt.int_bool a t' b
  | int b=>obtain ⟨t,rfl⟩:=rx; exact SeqAt.EqAt.int_int a t' b t
  | str b=>obtain ⟨t,rfl⟩:=rx; exact SeqAt.EqAt.int_str a t' b t
  | _=>exact absurd (show false = true from fx) Bool.false_ne_true
 | str a =>
  obtain ⟨t',rfl⟩:=ry
  cases x with
  | non=>cases rx; exact SeqAt.EqAt.str_none a t'
  | bl b=>cases rx; exact SeqAt.EqAt.str_bool a t' b
  | int b=>obtain ⟨t,rfl⟩:=rx; exact SeqAt.EqAt.str_int a t' b t
  | str b=>obtain ⟨t,rfl⟩:=rx; exact SeqAt.EqAt.str_str a t' b t
  | _=>exact absurd (show false = true from fx) Bool.false_ne_true
 | _=>exact absurd (show false = true from fy) Bool.false_ne_true
theorem J6P : J1X X (.builtin "len") (fun xs H Q=>∃ p ys,xs = [.ref p] ∧ (SqL X.K H p ys ∨ SqT X.K H p ys) ∧ Q (.int ys.length) H):=by
 intro pins s σ H xs us Q I r h
 obtain ⟨p,ys,rfl,hq,q⟩:=h
 obtain ⟨u,rfl,rx⟩:=J83 r
 cases rx
 have hn:=J5v
 rcases hq with hq | hq
 ·obtain ⟨its,r',pl,hz⟩:=I.list hq
  have hlen:=r'.length
  exact Calls.call_len_list pl.isList (by simp only [List.size_toArray] <;> omega) ⟨.int ys.length,H,I.tok _,⟨s.toks + 1,by rw [List.size_toArray,hlen]⟩,q⟩
 ·obtain ⟨its,r',pl,hz⟩:=I.tuple hq
  have hlen:=r'.length
  exact len_tuple pl (by simp only [List.size_toArray] <;> omega) ⟨.int ys.length,H,I.tok _,⟨s.toks + 1,by rw [List.size_toArray,hlen]⟩,q⟩
theorem J6W : J1X X (.builtin "len") (fun xs H Q=>∃ z,xs = [.str z] ∧ z.length ≤ sizeLine ∧ Q (.int z.length) H):=by
 intro pins s σ H xs us Q I r h
 obtain ⟨z,rfl,hz,q⟩:=h
 obtain ⟨u,rfl,t,rfl⟩:=J83 r
 have hn:=J5v
 exact len_str (by omega) ⟨.int z.length,H,I.tok _,⟨_,rfl⟩,q⟩
noncomputable def tyV (K : PySem.W.Frag) (T : String) (x : V) (H : Hp) : Prop:=match x with
 | .str _=>T = "str"
 | .int _=>T = "int"
 | .ref p=>(T = "list" ∧ ∃ xs,SqL K H p xs) ∨ (T = "tuple" ∧ ∃ o,K.lookup p = some o ∧ o.cls = .type "tuple" ∧ o.dict = none) ∨
   (T = "dict" ∧ ((∃ kvs,H p = some (.dK kvs)) ∨ ∃ kvs,H p = some (.dT kvs))) ∨ (T = "set" ∧ ∃ S n,H p = some (.set S n))
 | _=>False
theorem Jal {pins : List (Addr × Obj)} {σ : St} {H : Hp} {s : Shared} {T : String} {x : V} {v : Value} (I : Inv X pins σ H s) (r : RelV x v) (ty : tyV X.K T x H) :
  s.TypeIs v T ∧ ∀ a,v = .ref a → ∃ ob,s.heap.get? a = some ob ∧ ob.dict = none:=by
 cases x with
 | str z =>
  obtain ⟨t,rfl⟩:=r
  cases (show T = "str" from ty)
  exact ⟨typeIs_str s z t,fun _ e=>nomatch e⟩
 | int i =>
  obtain ⟨t,rfl⟩:=r
  cases (show T = "int" from ty)
  exact ⟨typeIs_int s i t,fun _ e=>nomatch e⟩
 | ref p =>
  cases r
  rcases ty with ⟨rfl,xs,hq⟩ | ⟨rfl,o,hk,hc,hd⟩ | ⟨rfl,hk⟩ | ⟨rfl,S,n,hk⟩
  ·obtain ⟨its,_,pl,_⟩:=I.list hq
   refine ⟨pl.isList.typeIs,fun a e=>?_⟩
   cases e
   obtain ⟨o,n,e,c,hd,_⟩:=pl
   exact ⟨o,e,hd⟩
  ·refine ⟨⟨o,I.kIn p o hk,hc⟩,fun a e=>?_⟩
   cases e
   exact ⟨o,I.kIn _ o hk,hd⟩
  ·have z : ∃ o,s.heap.get? p = some o ∧ o.ExactDict:=by
    rcases hk with ⟨kvs,hk⟩ | ⟨kvs,hk⟩
    ·obtain ⟨_,_,_,_,o,_,_,e,ex,_⟩:=I.hok p _ hk
     exact ⟨o,e,ex⟩
    ·obtain ⟨_,_,_,_,o,_,_,e,ex,_⟩:=I.hok p _ hk
     exact ⟨o,e,ex⟩
   obtain ⟨o,e,ex⟩:=z
   refine ⟨⟨o,e,ex.1⟩,fun a e2=>?_⟩
   cases e2
   exact ⟨o,e,ex.2.1⟩
  ·obtain ⟨o,_,_,_,e,ex,_⟩:=I.hok p _ hk
   refine ⟨⟨o,e,ex.1⟩,fun a e2=>?_⟩
   cases e2
   exact ⟨o,e,ex.2.1⟩
 | _=>exact False.elim ty
noncomputable def tBM0 (K : PySem.W.Frag) (T : String) (r : V → List V → Hp → VK → Prop) (to : TE) : TE:=fun σ H Q=>to σ H fun x H1=>tyV K T x H1 ∧ r x [] H1 Q
noncomputable def tBM (K : PySem.W.Frag) (T : String) (r : V → List V → Hp → VK → Prop) (to : TE) (t : TA) : TE:=fun σ H Q=>to σ H fun x H1=>tyV K T x H1 ∧ t σ H1 fun xs H2=>r x xs H2 Q
variable {o e : Expr} {es : List Expr} {to : TE} {t : TA} {name : Str} {apos cpos : Pos} {T id : String} {r : V → List V → Hp → VK → Prop}
theorem Jcg (pa : PlainAttrs T) (slot : Slot T name id) (hty : typeOf (.builtin id) = pure (.type "method_descriptor")) (hm : MtR X id r) (ho : PE X o to)
  (hbase : attributeBase o name X.env (eval o X.env) = eval o X.env:=by rfl) (hline : (apos.endLine == cpos.line) = true:=by rfl) : PE X (.Call (.Attribute o name apos) [] [] cpos) (tBM0 X.K T r to):=by
 intro pins s σ H Q I h
 refine wpAny_Call_method0_late hbase hline (thn (ho pins s σ H _ I h) fun v s1 ⟨x,H1,I1,r1,ty,q1⟩=>?_)
 obtain ⟨h1,h2⟩:=Jal I1 r1 ty
 exact ⟨T,id,pa,slot,hty,h1,h2,Calls.callWith_builtin rfl (PySem.evalArgs_none (hm pins s1 σ H1 x [] v [] Q I1 r1 .nil q1))⟩
theorem J64 (pa : PlainAttrs T) (slot : Slot T name id) (hty : typeOf (.builtin id) = pure (.type "method_descriptor")) (hm : MtR X id r) (ho : PE X o to) (ha : PA X (e :: es) t)
  (hbase : attributeBase o name X.env (eval o X.env) = eval o X.env:=by rfl)
  (hfew : ((backTo cpos (starEach (e :: es) X.env)).all (fun x=>!x.1) && (backToKw cpos (keywordEach [] X.env)).all (fun x=>x.1.isSome)
   && decide ((e :: es).length + ([] : List Keyword).length + (if ([] : List Keyword).isEmpty then 0 else 1) < 30)) = true:=by rfl)
  (hline : (apos.endLine == cpos.line) = true:=by rfl) (hs : starEach (e :: es) X.env = (false,eval e X.env) :: starEach es X.env:=by rfl) (hplain : (backTo cpos (starEach es X.env)).any (·.1) = false:=by rfl) :
  PE X (.Call (.Attribute o name apos) (e :: es) [] cpos) (tBM X.K T r to t):=by
 intro pins s σ H Q I h
 refine wpAny_Call_method_late hbase hfew hline rfl (thn (ho pins s σ H _ I h) fun v s1 ⟨x,H1,I1,r1,ty,q1⟩=>?_)
 obtain ⟨h1,h2⟩:=Jal I1 r1 ty
 refine ⟨T,id,pa,slot,hty,h1,h2,?_⟩
 have hA:=ha cpos pins s1 σ H1 _ I1 q1
 rw [hs] at hA ⊢
 refine Calls.callWith_builtin (by show (false || (backTo cpos (starEach es X.env)).any (·.1)) = false; rw [hplain] <;> rfl) (Calls.evalArgs_plain ?_)
 exact thn hA fun us s2 ⟨vs,H2,I2,r2,q2⟩=>hm pins s2 σ H2 x vs v us Q I2 r1 r2 q2
end
end L2
namespace L2
open PySem PySem.Spec PyProof.Rows
noncomputable def MtM (X : Cx) (id : String) (r : V → List V → Hp → VK → Prop) : Prop :=
 ∀ (pins : List (Addr × Obj)) (s : Shared) (σ : St) (H : Hp) (x : V) (xs : List V) (v : Value) (us : List Value) (Q : VK),Inv X pins σ H s → RelV x v → Vals xs us → r x xs H Q →
  wpAny (model X.prog X.w) X.A (call (.builtin id) (v :: us)) (EP X pins σ Q) X.xe s
theorem Vals.one : ∀ {x : V} {us : List Value},Vals [x] us → ∃ u,us = [u] ∧ RelV x u
 | _,_,.cons r .nil=>⟨_,rfl,r⟩
theorem Vals.two : ∀ {x y : V} {us : List Value},Vals [x,y] us → ∃ u v,us = [u,v] ∧ RelV x u ∧ RelV y v
 | _,_,_,.cons r (.cons q .nil)=>⟨_,_,rfl,r,q⟩
section
variable {X : Cx} {pins : List (Addr × Obj)} {σ : St} {H : Hp} {s : Shared} {l b : Addr} {xs ys zs : List V}
theorem Inv.lset {its its' : List Value} {n : Nat} {f : Array Value → Array Value} {t' : Nat} (I : Inv X pins σ H s) (hH : H l = some (.lst xs))
  (e : s.heap.get? l = some { cls:=.type "list",data:=.seq its.toArray n }) (hf : f its.toArray = its'.toArray) (hv : Vals ys its') (hz : ys.length ≤ sizeLine) :
  Inv X pins σ (upd H l (.lst ys)) { s with heap:=s.heap.update l (Obj.mapSeq f),toks:=t' }:=by
 have q:=PySem.IsL.update e f
 rw [hf] at q
 refine I.write (x:=l) (e:=l) (by rw [hH]; exact trivial) (.inl rfl) (fun b' u hb hu=>(Heap.get?_update_other s.heap (Obj.mapSeq f) (Ne.symm hb)).trans hu) ⟨_,q⟩ ?_
 exact ⟨hz,its',_,hv,q⟩
theorem Inv.lnew {its : List Value} {t' : Nat} (I : Inv X pins σ H s) (hv : Vals ys its) (hz : ys.length ≤ sizeLine) :
  Inv X pins σ (upd H s.heap.objs.size (.lst ys)) { s with heap:=s.heap.push { cls:=.type "list",data:=.seq its.toArray },toks:=t' } :=
 I.laid (fun _ _ q=>Heap.get?_push_of_some _ q) (Nat.le_refl _) ⟨hz,its,0,hv,Heap.get?_push_size _ rfl⟩
theorem Inv.fresh (I : Inv X pins σ H s) : H s.heap.objs.size = none:=I.hok.fresh (Nat.le_refl _)
theorem Inv.lstM (I : Inv X pins σ H s) (hH : H l = some (.lst xs)) : xs.length ≤ sizeLine ∧ ∃ (its : List Value) (n : Nat),Vals xs its ∧ xs.length = its.length ∧ s.heap.get? l = some { cls:=.type "list",data:=.seq its.toArray n }:=by
 obtain ⟨z,its,n,r,e⟩:=I.hok l _ hH
 exact ⟨z,its,n,r,r.length,e⟩
end
section
variable {X : Cx}
noncomputable def Jba : V → List V → Hp → VK → Prop:=fun x vs H Q=>∃ l xs y,x = .ref l ∧ vs = [y] ∧ H l = some (.lst xs) ∧ xs.length < sizeLine ∧ Q .non (upd H l (.lst (xs ++ [y])))
theorem J3l : MtM X "list.append" Jba:=by
 intro pins s σ H x vs v us Q I rx rv h
 obtain ⟨l,xs,y,rfl,rfl,hH,hz,q⟩:=h
 cases rx
 obtain ⟨u,rfl,ru⟩:=rv.one
 obtain ⟨z,its,n,r,hl,e⟩:=I.lstM hH
 refine call_meets F.slot_list_append ⟨_,e,rfl⟩ F.entry_list_append (F.args_list_append_2 _ _) (PySem.list_append l its.toArray n u (by rw [List.size_toArray]; omega)) ⟨e,?_⟩
 refine ⟨.non,_,I.lset (its':=its ++ [u]) hH e (by simp) (r.append (.cons ru .nil)) ?_,rfl,q⟩
 rw [List.length_append,List.length_singleton]
 omega
noncomputable def rCat : R2:=fun x y H Q=>∃ l b xs zs,x = .ref l ∧ y = .ref b ∧ H l = some (.lst xs) ∧ H b = some (.lst zs) ∧ xs.length + zs.length ≤ sizeLine ∧ ∀ p,H p = none → Q (.ref p) (upd H p (.lst (xs ++ zs)))
theorem J2l : OpR X (binaryOp .Add) rCat:=by
 intro pins s σ H x y v u Q I rx ry h
 obtain ⟨l,b,xs,zs,rfl,rfl,hH,hB,hz,q⟩:=h
 cases rx
 cases ry
 obtain ⟨z,its,n,r,hl,e⟩:=I.lstM hH
 obtain ⟨z2,its2,n2,r2,hl2,e2⟩:=I.lstM hB
 refine PySem.P.add_list e e2 ?_ (by rw [List.size_toArray,List.size_toArray]; omega)
 have ea : its.toArray ++ its2.toArray = (its ++ its2).toArray:=by simp
 rw [ea]
 exact ⟨.ref _,_,I.lnew (t':=s.toks) (r.append r2) (by rw [List.length_append]; omega),rfl,q _ I.fresh⟩
end
section
variable {prog : Program} {w : World} {A : Around} {E : Value → Shared → Prop} {s : Shared}
end
section
variable {X : Cx}
end
end L2
namespace Att
open PySem PySem.W PySem.Calls PyProof.Rows
theorem J4J {P : Params} {h : Heap} : ∀ (ns : List Int) (vs : List Value),WellAll P h vs (ns.map WData.int) → IntsAre vs ns:=by
 intro ns
 induction ns with
 | nil =>
  intro vs w
  rw [List.map_nil] at w
  cases w
  exact .nil
 | cons n ns ih =>
  intro vs w
  rw [List.map_cons] at w
  cases w with
  | cons a b =>
   cases a
   exact .cons _ _ (ih _ b)
theorem J9v {l : OpenLaw} {n : Nat} (hn : l.most = some n) {P : Params} {h : Heap} {args : List WData} {vals : List Value}
  (hpre : l.row.toRowW.claim.pre args = true) (hwl : WellAll P h vals args) :
  ∃ a vs ns,vals = [Value.ref a] ∧ args = [WData.list (ns.map WData.int)] ∧ h.get? a = some { cls:=.type "list",data:=.seq vs.toArray } ∧ IntsAre vs ns ∧ ns.length ≤ n:=by
 have hsh : WShape.hasAll [] args [.list .int] = true:=(pre_splitW hpre).1
 have hc : l.pre.holds [] { args:=args } = true:=(pre_splitW hpre).2
 obtain ⟨d,r,rfl,h1,h2⟩:=hasAllW_cons hsh
 obtain rfl:=hasAllW_nil h2
 obtain ⟨xs,rfl,h3⟩:=hasW_list h1
 obtain ⟨ns,rfl⟩:=items_int h3
 have hlen : ns.length ≤ n:=by
  unfold OpenLaw.pre at hc
  have h4 : (WTm.not (.lt (.lit (.int (n : Int))) (.len (.arg 0)))).holds [] { args:=[.list (ns.map .int)] } = true:=by
   have h4:=(holds_andW hc).1
   rw [hn] at h4
   exact h4
  have h5:=condW_of h4 (w_not (w_lt w_lit (w_len_list (w_arg rfl))))
  rw [List.length_map] at h5
  refine Nat.le_of_not_lt fun q=>?_
  have q' : (n : Int) < ((ns.length : Nat) : Int):=by omega
  first
   | (rw [decide_eq_true q'] at h5; exact absurd h5 (by decide))
   | (simp at h5; omega)
 cases hwl with
 | cons w1 w2 =>
  cases w2
  cases w1 with
  | list ho hall=>exact ⟨_,_,ns,rfl,rfl,ho,J4J ns _ hall,hlen⟩
theorem J9q (l : OpenLaw) (args : List WData) : l.row.toRowW.claim.post args (.bool true) args = true :=
 postW_of (r:=l.row.toRowW) (X:=(true == true))
  (show WShape.has [] (.bool true) .bool = true by first | rfl | decide | simp [WShape.has,WShape.arms,WShape.armsAll])
  (show (WTm.eq .res (.lit (.bool true))).value [] { args:=args,res:=some (.bool true),after:=args } = some (.bool (true == true)) from w_eq_bool (w_res rfl) w_lit) rfl
theorem attach_call {l : OpenLaw} {n : Nat} {q : Program} {loose : List Str} {XP : (Str → Option Value) → Heap → Prop} {YP : World → Heap → Prop} {d : DefRec}
  (hn : l.most = some n) (hdf : d.params.defaults = [])
  (call : ∀ (w : World) (s₀ s₁ : Shared) (mg mb : Str → Option Value) (fa : Addr) (o : Obj) (pm cd doc : Value) (a : Addr) (vs : List Value) (ns : List Int),
   Ground q loose [] XP w s₀ mg mb s₁.heap → YP w s₁.heap →
   s₁.heap.get? fa = some o → o.data = .func (docDef d.name d.params d.body d.scope pm cd doc) → s₁.heap.CodeRec cd d.name → mg d.name = some (.ref fa) →
   s₁.heap.get? a = some { cls:=.type "list",data:=.seq vs.toArray } → IntsAre vs ns → ns.length ≤ n → s₁.gens = #[] →
   codeAny (model l.prog w) callerA (.call (.ref fa) ⟨[.ref a],[]⟩) (fun r s'=>r = .ok (.ret (.bool true)) ∧ OldK s₁.heap s'.heap ∧ s'.os = s₁.os ∧ AllBare s'.gens) s₁) :
  WalkO q loose XP YP l.row.toRowW d [] (fun f vs=>PySem.call f vs):=by
 intro w s₀ s₁ mg mb G Y fa o pm cd doc dV kV ho hd hcd hD hmg hg args vals as hpre hlay hrd hwl hlo
 obtain rfl : dV = .none:=Dflts.none hD hdf
 obtain rfl : kV = .none:=Dflts.noKw hD
 obtain ⟨a,vs,ns,rfl,rfl,hobj,hints,hlen⟩:=J9v hn hpre hwl
 refine enter_call (codeAny_mono (call w s₀ s₁ mg mb fa o pm cd doc a vs ns G Y ho (fd_plain hd) hcd hmg hobj hints hlen hg) fun r s' hq=>?_)
 obtain ⟨rfl,h2,h3,h4⟩:=hq
 exact ⟨.inl ⟨.bool true,.bool true,[],rfl,fun _=>rfl,.bool true,J9q l _,fun _=>⟨List.Pairwise.nil,fun _ hm=>(nomatch hm)⟩⟩,h2,h3,h4⟩
section
variable {prog : Program} {w : World} {A : Around} {E : Value → Shared → Prop} {s : Shared} {K : Frag}
end
end Att
namespace L2
open PySem PySem.Spec PyProof.Rows
theorem J66 : ∀ {vs : List Value} {ns : List Int},IntsAre vs ns → Vals (ns.map V.int) vs
 | _,_,.nil=>.nil
 | _,_,.cons n t h=>.cons ⟨t,rfl⟩ (J66 h)
noncomputable def Only (H : Hp) : Prop:=∀ b,H b = none ∨ ∃ o xs,H b = some (.frz o (.lst xs))
theorem JaF {P : Program} {w : World} {K : PySem.W.Frag} {mg mb : Str → Option Value} {CX : CXT} {k : Nat} {fa a : Addr} {fd : FuncData} {x : Str} {sp : Sp} {s₁ : Shared} {vs : List Value} {ns : List Int}
  (KX : K.In s₁.heap) (hns : s₁.heap.Ns mainGlobals mg) (hb : s₁.heap.Ns builtinsNs mb) (hbb : ∀ x : Str,x ≠ "__name__" → mb x = bootBuiltins x) (hlim : s₁.heap.NoLimit) (hg : s₁.gens = #[])
  (ha : s₁.heap.get? a = some { cls:=.type "list",data:=.seq vs.toArray }) (hi : IntsAre vs ns) (hl : ns.length ≤ sizeLine) (hr : Room k callerA)
  (F : ∀ base : Heap,K.In base → base.Ns mainGlobals mg → FnOk P w K mg base CX k fa fd [x] sp) (hbind : ∀ (s : Shared) (u : Value),BindsTo s fd ⟨[u],[]⟩ [(x,u)])
  (hsp : ∀ H : Hp,Only H → SqL K H a (ns.map V.int) → sp [.ref a] H (fun v _=>v = .bl true) fun _ _ _=>False)
  (hCX : ∀ H e s',CX [] H s₁ (fun _ _ _=>False) e s' → False) :
  codeAny (model P w) callerA (.call (.ref fa) ⟨[.ref a],[]⟩) (fun r s'=>r = .ok (.ret (.bool true)) ∧ OldK s₁.heap s'.heap ∧ s'.os = s₁.os ∧ AllBare s'.gens) s₁:=by
 have rv:=J66 hi
 have lenV:=hi.length
 have core : ∀ H : Hp,Only H → SqL K H a (ns.map V.int) → HOk P w H s₁.heap → (∀ b,H b ≠ none → b = a) → (H a ≠ none → K.lookup a = none) →
   codeAny (model P w) callerA (.call (.ref fa) ⟨[.ref a],[]⟩) (fun r s'=>r = .ok (.ret (.bool true)) ∧ OldK s₁.heap s'.heap ∧ s'.os = s₁.os ∧ AllBare s'.gens) s₁:=by
  intro H hO hS hok hA hK
  have base_of : ∀ {b : Addr} {o : Obj},s₁.heap.get? b = some o → H b = none → (hidT s₁.heap H).get? b = some o:=fun e n=>Jau e n
  have noA : ∀ {b : Addr} {o : Obj} {es : Array DictEntry} {ep : Nat},s₁.heap.get? b = some o → o.data = .dict es ep → H b = none:=fun {b o es ep} e d=>by
   cases q : H b with
   | none=>rfl
   | some u =>
    have e' : b = a:=hA b (by rw [q]; simp)
    subst e'
    rw [ha] at e; cases e
    have d' : Data.seq vs.toArray _ = Data.dict es ep:=d
    cases d'
  have nsK : ∀ {b : Addr} {m : Str → Option Value},s₁.heap.Ns b m → (hidT s₁.heap H).Ns b m:=fun {b m} ⟨o,es,ep,e,d,r⟩=>⟨o,es,ep,base_of e (noA e d),d,r⟩
  have hKb : K.In (hidT s₁.heap H):=fun b o e=>base_of (KX b o e) (by
   cases q : H b with
   | none=>rfl
   | some u =>
    have e' : b = a:=hA b (by rw [q]; simp)
    subst e'
    rw [hK (by rw [q]; simp)] at e; cases e)
  have hM : Mod K mg (hidT s₁.heap H):=⟨hKb,nsK hns,⟨mb,nsK hb,hbb⟩,let ⟨mc,h1,h2⟩:=hlim; ⟨mc,nsK h1,h2⟩⟩
  have e0 : Env0 P w K mg (hidT s₁.heap H) callerA [] s₁ H:=⟨rfl,hM,fun b o e=>Jbp e,Nat.le_of_eq (J9A _ _),trivial,fun b hb=>absurd (show b ∈ ([] : List Addr) from hb) (by simp),hok,.of_eq hg⟩
  refine codeAny_mono ((F _ hKb (nsK hns)).run callerA [] s₁ H ⟨[.ref a],[]⟩ [.ref a] [.ref a] _ _ hr e0 (hbind s₁ (.ref a)) (.cons rfl .nil) (hsp H hO hS)) fun r s' h=>?_
  cases r with
  | error e=>exact (hCX H e s' h).elim
  | ok fl =>
   cases fl with
   | next=>exact False.elim h
   | brk=>exact False.elim h
   | cont=>exact False.elim h
   | ret u =>
    obtain ⟨v,H',os,bare,un,hok',r',q⟩:=h
    have q' : v = .bl true:=q
    subst q'
    obtain rfl : u = Value.bool true:=r'
    refine ⟨rfl,OldK.of_keep fun b o e=>?_,os,bare⟩
    cases q : H b with
    | none=>exact un.keep b o e q (by intro z; exact absurd (show b ∈ ([] : List Addr) from z) (by simp)) (by simp)
    | some u =>
     rcases hO b with z | ⟨ob,xs,z⟩
     ·rw [q] at z; cases z
     ·have z2:=un.frzs b ob _ z
      obtain ⟨e1,_⟩:=hok b _ z
      obtain ⟨e2,_⟩:=hok' b _ z2
      rw [e] at e1; cases e1
      exact e2
 cases hk : K.lookup a with
 | some o =>
  have e:=KX a o hk
  rw [ha] at e
  cases e
  refine core (fun _=>none) (fun _=>.inl rfl) (.inr ⟨_,vs.toArray,_,hk,rfl,rfl,rfl,by rw [List.size_toArray,lenV]; exact hl,by simpa using rv⟩) (fun b u z=>by have z' : (none : Option HO) = some u:=z; cases z') (fun b z=>absurd rfl z) fun z=>absurd rfl z
 | none =>
  refine core (fun b=>if b = a then some (.frz { cls:=.type "list",data:=.seq vs.toArray } (.lst (ns.map V.int))) else none) (fun b=>?_) (.inl (.inr ⟨{ cls:=.type "list",data:=.seq vs.toArray },if_pos rfl⟩)) (fun b u z=>?_) (fun b z=>?_) fun _=>hk
  ·by_cases hb : b = a
   ·exact .inr ⟨_,_,if_pos hb⟩
   ·exact .inl (if_neg hb)
  ·by_cases hb : b = a
   ·have z':=(if_pos hb).symm.trans z
    cases z'
    subst hb
    exact ⟨ha,by rw [List.length_map]; exact hl,vs,_,rv,ha⟩
   ·have z':=(if_neg hb).symm.trans z
    cases z'
  ·by_cases hb : b = a
   ·exact hb
   ·exact absurd (if_neg hb) z
end L2
namespace L2
open PySem PySem.Spec PyProof.Rows
theorem walk_of {l : PySem.W.OpenLaw} {n k : Nat} {q : Program} {loose : List Str} {XP : (Str → Option Value) → Heap → Prop} {YP : World → Heap → Prop} {d : DefRec} {K : Params → PySem.W.Frag} {CX : World → CXT} {sp : World → Sp} {x : Str}
  (hn : l.most = some n) (hn2 : n ≤ sizeLine) (hdf : d.params.defaults = []) (hr : Room k callerA)
  (hY : ∀ (w : World) (h : Heap),YP w h → (K w.params).In h)
  (F : ∀ (w : World) (mg : Str → Option Value) (fa : Addr) (h : Heap),(K w.params).In h → h.Ns mainGlobals mg → mg d.name = some (.ref fa) →
   ∃ fd : FuncData,(∀ (s : Shared) (u : Value),BindsTo s fd ⟨[u],[]⟩ [(x,u)]) ∧
    ∀ base : Heap,(K w.params).In base → base.Ns mainGlobals mg → FnOk l.prog w (K w.params) mg base (CX w) k fa fd [x] (sp w))
  (hsp : ∀ (w : World) (H : Hp) (a : Addr) (ns : List Int),ns.length ≤ n → Only H → SqL (K w.params) H a (ns.map V.int) → sp w [.ref a] H (fun v _=>v = .bl true) fun _ _ _=>False)
  (hCX : ∀ (w : World) (H : Hp) (s : Shared) (e : Value) (s' : Shared),CX w [] H s (fun _ _ _=>False) e s' → False) :
  PySem.W.WalkO q loose XP YP l.row.toRowW d [] (fun f vs=>PySem.call f vs):=by
 refine Att.attach_call hn hdf fun w s₀ s₁ mg mb fa o pm cd doc a vs ns G Y ho hd hcd hmg hobj hints hlen hg=>?_
 have KX:=hY w _ Y
 obtain ⟨fd,hb,hF⟩:=F w mg fa _ KX G.T.g hmg
 exact JaF KX G.T.g G.T.b G.T.builtins G.T.nolimit hg hobj hints (Nat.le_trans hlen hn2) hr hF hb (fun H hO hS=>hsp w H a ns hlen hO hS) fun H e s'=>hCX w H s₁ e s'
end L2
namespace L2
open PySem PySem.Spec PyProof.Rows
noncomputable def J12 (s : Stmt) (j : Nat) : Stmt:=match s with
 | .ClassDef _ _ _ body _ _ _ _ _ _ _=>body.getD j (.Pass ⟨0,0,0,0⟩)
 | _=>.Pass ⟨0,0,0,0⟩
noncomputable def Jv (s : Stmt) : Arguments:=match s with
 | .FunctionDef _ a _ _ _ _ _ _ _ _=>a
 | _=>{ posonlyargs:=[],args:=[],vararg:=none,kwonlyargs:=[],kw_defaults:=[],kwarg:=none,defaults:=[] }
noncomputable def Jt (s : Stmt) : List Stmt:=match s with
 | .FunctionDef _ _ b _ _ _ _ _ _ _=>b
 | _=>[]
noncomputable def J8 (s : Stmt) : Scope:=match s with
 | .FunctionDef _ _ _ _ _ _ sc _ _ _=>sc
 | _=>{ kind:=.function,names:=[],isGenerator:=false,isCoroutine:=false }
noncomputable abbrev CX0 : CXT:=fun _ _ _ _ _ _=>False
noncomputable abbrev E0 : XK:=fun _ _ _=>False
theorem Jaf {X : Cx} : J3A CX0 X E0:=fun _ _ _ _ _ _ _ h=>h.elim
structure Fun (K : PySem.W.Frag) (x qual : Str) (st : Stmt) (f : Addr) (fd : FuncData) : Prop where
 ex : ∃ (oc : Value) (od : Option Addr) (kV doc pm : Value) (an : Option Addr) (cdv ct : Value) (osl : Array (Option Value)),
  fd = PySem.W.fnOf x qual (Jv st) (Jt st) (J8 st) .none kV doc pm an cdv ct ∧ K.lookup f = some ⟨oc,od,.func fd,osl⟩ ∧ PySem.W.codeIn K cdv qual = true
 kp : PySem.W.keepIn K (.ref f) = true
section
variable {P : Program} {w : World} {K : PySem.W.Frag} {mg : Str → Option Value} {base : Heap}
theorem Fun.ok {x qual : Str} {st : Stmt} {f : Addr} {fd : FuncData} {N ps : List Str} {k : Nat} {sp : Sp} (F : Fun K x qual st f fd) (S : Jw N ps (J8 st)) (len : ∀ vs H Q E,sp vs H Q E → vs.length = ps.length)
  (hbody : ∀ (cdv : Value) (A : Around) (outer : List Env) (s : Shared) (H : Hp) (vs : List V) (Q : VK) (E : XK),Room k (A.deeper (envOfC qual (J8 st) s.heap.objs.size f cdv)) → sp vs H Q E →
   ∃ t,PSs (cxOf CX0 P w K mg base N qual (J8 st) f cdv A outer s H E).nox (Jt st) t ∧ t { nx:=fun _ H'=>Q .non H',rt:=Q } (start N vs) H) : FnOk P w K mg base CX0 (k + 1) f fd ps sp:=by
 obtain ⟨oc,od,kV,doc,pm,an,cdv,ct,osl,rfl,lk,hcd⟩:=F.ex
 refine JbX lk hcd S len fun A outer s H vs Q E hr hsp=>?_
 obtain ⟨t,h,q⟩:=hbody cdv A outer s H vs Q E hr hsp
 exact ⟨t,h.nox,q⟩
theorem Fun.binds {x qual : Str} {st : Stmt} {f : Addr} {fd : FuncData} {ps : List Str} (F : Fun K x qual st f fd)
  (h : ∀ (kV doc pm : Value) (an : Option Addr) (cdv ct : Value) (us : List Value),us.length = ps.length → bindArgs (PySem.W.fnOf x qual (Jv st) (Jt st) (J8 st) .none kV doc pm an cdv ct) ⟨us,[]⟩ = pure (ps.zip us)) : J3s K fd ps []:=by
 obtain ⟨oc,od,kV,doc,pm,an,cdv,ct,osl,rfl,lk,hcd⟩:=F.ex
 exact .all (h kV doc pm an cdv ct)
theorem JG {x qual : Str} {st : Stmt} {f : Addr} {oc : Value} {od an : Option Addr} {osl : Array (Option Value)} {kV doc pm cdv ct : Value} (l : K.lookup f = some ⟨oc,od,.func (PySem.W.fnOf x qual (Jv st) (Jt st) (J8 st) .none kV doc pm an cdv ct),osl⟩)
  (c : PySem.W.codeIn K cdv qual = true) (k : PySem.W.keepIn K (.ref f) = true) : Fun K x qual st f (PySem.W.fnOf x qual (Jv st) (Jt st) (J8 st) .none kV doc pm an cdv ct):=⟨⟨oc,od,kV,doc,pm,an,cdv,ct,osl,rfl,l,c⟩,k⟩
end
section
variable {X : Cx}
theorem pv (i : Nat) {x : Str} {pos : Pos} (hN : X.N[i]? = some x:=by rfl) (hv : Vis X.env.scope x:=by first | exact Or.inl rfl | exact Or.inr (Or.inl rfl) | exact Or.inr (Or.inr rfl)) (hd : (x == ("__debug__" : Str)) = false:=by decide)
  (hcd : (x == ("__classdict__" : Str)) = false:=by decide) : PE X (.Name x pos) (tVar i):=JcJ hN hv hd hcd
end
theorem iteF {A B : Prop} (h : B) : if false = true then A else B:=by
 rw [if_neg Bool.false_ne_true]
 exact h
theorem iteT {A B : Prop} (h : A) : if true = true then A else B:=by
 rw [if_pos rfl]
 exact h
theorem ite2 {c A B : Prop} [Decidable c] (h1 : c → A) (h2 : ¬ c → B) : if c then A else B:=by
 by_cases h : c
 ·rw [if_pos h]
  exact h1 h
 ·rw [if_neg h]
  exact h2 h
noncomputable def Same (H H' : Hp) : Prop:=∀ b o,H b = some o → H' b = some o
theorem Same.refl (H : Hp) : Same H H:=fun _ _ h=>h
theorem Same.trans {H H1 H2 : Hp} (a : Same H H1) (b : Same H1 H2) : Same H H2:=fun c o h=>b c o (a c o h)
theorem Same.seq {K : PySem.W.Frag} {H H' : Hp} {a : Addr} {xs : List V} (e : Same H H') (h : SqL K H a xs) : SqL K H' a xs:=by
 rcases h with (h | ⟨o,h⟩) | h
 ·exact .inl (.inl (e _ _ h))
 ·exact .inl (.inr ⟨o,e _ _ h⟩)
 ·exact .inr h
end L2
set_option linter.all false
set_option maxRecDepth 100000
set_option maxHeartbeats 4000000
namespace L2
open PySem PySem.Spec PyProof.Rows
theorem J5W {scope : Scope} {env : Env} (h : ∀ y ∈ scope.names,y.2 = .free → ∃ c,env.cells.lookup y.1 = some c) :
  ∃ cl,closureFor scope env = pure cl ∧ (∀ y ∈ scope.names,y.2 = NameKind.free → cl.lookup y.1 = env.cells.lookup y.1) ∧ (∀ x c,cl.lookup x = some c → env.cells.lookup x = some c):=by
 have key : ∀ (names : List (Str × NameKind)) (acc : List (Str × Addr)) (f : Str × NameKind → List (Str × Addr) → Sem (ForInStep (List (Str × Addr)))),
   (∀ x cs,f x cs = if (x.2 == NameKind.free) = true then (cellOf env x.1 >>= fun a=>pure (ForInStep.yield ((x.1,a) :: cs))) else pure (ForInStep.yield cs)) →
   (∀ y ∈ names,y.2 = .free → ∃ c,env.cells.lookup y.1 = some c) → (∀ x c,acc.lookup x = some c → env.cells.lookup x = some c) →
   ∃ cl,forIn names acc f = pure cl ∧ (∀ x c,acc.lookup x = some c → cl.lookup x = env.cells.lookup x) ∧ (∀ y ∈ names,y.2 = NameKind.free → cl.lookup y.1 = env.cells.lookup y.1) ∧ (∀ x c,cl.lookup x = some c → env.cells.lookup x = some c):=by
  intro names
  induction names with
  | nil =>
   intro acc f _ _ ha
   exact ⟨acc,rfl,fun x c e=>by rw [e,ha x c e],fun _ h=>(nomatch h),ha⟩
  | cons y r ih =>
   intro acc f hf hn ha
   obtain ⟨n,k⟩:=y
   rw [List.forIn_cons,hf]
   by_cases hk : k = .free
   ·subst hk
    obtain ⟨c,hc⟩:=hn (n,.free) List.mem_cons_self rfl
    have hc' : cellOf env n = pure c:=by unfold cellOf; rw [hc]
    have ha' : ∀ x d,((n,c) :: acc).lookup x = some d → env.cells.lookup x = some d:=fun x d e=>by
     rw [List.lookup_cons] at e
     cases hx : x == n with
     | true =>
      rw [hx] at e
      have e' : c = d:=Option.some.inj e
      have hx' : x = n:=by simpa using hx
      rw [hx',hc,e']
     | false =>
      rw [hx] at e
      exact ha x d e
    obtain ⟨cl,e,h1,h2,h3⟩:=ih ((n,c) :: acc) f hf (fun y hy=>hn y (List.mem_cons_of_mem _ hy)) ha'
    refine ⟨cl,?_,fun x d ex=>?_,fun y hy hyf=>?_,h3⟩
    ·rw [if_pos (by rfl)]
     show ((cellOf env n >>= fun a=>pure (ForInStep.yield ((n,a) :: acc))) >>= _) = pure cl
     rw [hc',pure_bind,pure_bind]
     exact e
    ·by_cases hxn : x = n
     ·subst hxn
      exact h1 x c (by rw [List.lookup_cons,beq_self_eq_true])
     ·refine h1 x d ?_
      rw [List.lookup_cons,beq_eq_false_iff_ne.mpr hxn]
      exact ex
    ·rcases List.mem_cons.mp hy with rfl | hy
     ·exact h1 _ c (by rw [List.lookup_cons,beq_self_eq_true])
     ·exact h2 y hy hyf
   ·have hb : (k == NameKind.free) = false:=by simpa using hk
    obtain ⟨cl,e,h1,h2,h3⟩:=ih acc f hf (fun y hy=>hn y (List.mem_cons_of_mem _ hy)) ha
    refine ⟨cl,?_,h1,fun y hy hyf=>?_,h3⟩
    ·show ((if (k == NameKind.free) = true then _ else pure (ForInStep.yield acc)) >>= _) = pure cl
     rw [if_neg (by rw [hb]; exact Bool.false_ne_true),pure_bind]
     exact e
    ·rcases List.mem_cons.mp hy with rfl | hy
     ·exact absurd hyf hk
     ·exact h2 y hy hyf
 have z:=key scope.names [] (fun x cs=>if (x.2 == NameKind.free) = true then (cellOf env x.1 >>= fun a=>pure (ForInStep.yield ((x.1,a) :: cs))) else pure (ForInStep.yield cs)) (fun _ _=>rfl) h (fun _ _ e=>(nomatch e))
 obtain ⟨cl,e,_,h2,h3⟩:=z
 refine ⟨cl,?_,h2,h3⟩
 show (forIn scope.names [] _ >>= pure) = pure cl
 exact (congrArg (· >>= pure) e).trans (pure_bind _ _)
noncomputable abbrev J2W (X : Cx) (scope : Scope) (N : List Str) (s₀ : Shared) (H₀ : Hp) (cl : List (Str × Addr)) (C : Addr) (ex : List Addr) : Cx :=
 {prog:=X.prog,w:=X.w,K:=X.K,mg:=X.mg,base:=X.base,A:=X.A,N:=N,s₀:=s₀,H₀:=H₀,env:=compEnvC scope cl C X.env,
  outer:=X.stack,stack:=X.stack,ex:=ex,fn:=fun _=>false,calm:=X.calm,pn:=[],xe:=fun _ _=>False }
theorem J6S {prog : Program} {w : World} {A : Around} {R : Result → Shared → Prop} {s : Shared} {elt target iter : Expr} {ifs : List Expr} {scope : Scope} {pos : Pos} {it acc : Value} {env : Env} (I : Nat → Shared → Prop)
  (turn : ∀ n s,I n s → wpAny (model prog w) A (pyNext it) (fun r s₁=>match r with
   | none=>R (.ok .next) s₁
   | some v=>wpAny (model prog w) A (letOwnedTupleGo target it v) (fun _ s₁'=>wpAny (model prog w) A (assign target env v) (fun _ s₂ =>
     wpAny (model prog w) A (forIn ifs true fun c r=>if r = true then do let ok ← isTrue c env (eval c env); pure (ForInStep.yield ok) else pure (ForInStep.yield r)) (fun ok s₃ =>
      if ok = true then wpAny (model prog w) A (eval elt env) (fun x s₄ =>
       wpAny (model prog w) A (call (.builtin "list.append") [acc,x]) (fun _ s₅=>∃ m,m < n ∧ I m s₅) (fun _ _=>False) s₄) (fun _ _=>False) s₃
      else ∃ m,m < n ∧ I m s₃) (fun _ _=>False) s₂) (fun _ _=>False) s₁') (fun _ _=>False) s₁) (fun _ _=>False) s)
  (n : Nat) (h : I n s) :
  codeAny (model prog w) A (.compLoop (.ListComp elt [⟨target,iter,ifs,0⟩] scope pos) 0 it acc env) R s:=by
 refine codeAny_loop rfl I (fun n s hI=>?_) n h
 show wpAny _ A ((compTurn (.ListComp elt [⟨target,iter,ifs,0⟩] scope pos) 0 it acc env).onRaise (fun x=>do noteFrame x env; theTreesLotGoes x)) _ _ s
 refine wpAny_noted ?_
 rw [compTurn_list]
 refine wpAny_bind (wpAny_standAt (wpAny_bind (wpAny_mono (turn n s hI) (fun r s₁ h₁=>?_) fun _ _ z=>z.elim)))
 cases r with
 | none=>exact wpAny_pure h₁
 | some v =>
  refine wpAny_bind (wpAny_mono h₁ (fun _ s₁' h₁'=>?_) fun _ _ z=>z.elim)
  refine wpAny_bind (wpAny_mono h₁' (fun _ s₂ h₂=>wpAny_bind (wpAny_mono h₂ (fun ok s₃ h₃=>?_) fun _ _ z=>z.elim)) fun _ _ z=>z.elim)
  cases ok with
  | false=>exact wpAny_pure ⟨rfl,h₃⟩
  | true =>
   exact wpAny_bind (wpAny_bind (wpAny_mono h₃ (fun x s₄ h₄=>wpAny_bind (wpAny_mono h₄ (fun _ s₅ h₅=>wpAny_pure (wpAny_pure ⟨rfl,h₅⟩)) fun _ _ z=>z.elim)) fun _ _ z=>z.elim))
noncomputable def PIfs (X : Cx) (ifs : List Expr) (t : TT) : Prop :=
 ∀ (pins : List (Addr × Obj)) (s : Shared) (σ : St) (H : Hp) (Q : Bool → Hp → Prop),Inv X pins σ H s → t σ H Q →
  wpAny (model X.prog X.w) X.A (forIn ifs true fun c r=>if r = true then do let ok ← isTrue c X.env (eval c X.env); pure (ForInStep.yield ok) else pure (ForInStep.yield r)) (TP X pins σ Q) X.xe s
noncomputable def tYes : TT:=fun _ H Q=>Q true H
theorem J5r {X : Cx} : PIfs X [] tYes:=fun _ _ _ H _ I h=>wpAny_tests_nil ⟨H,I,h⟩
theorem JaN {X : Cx} {c : Expr} {t : TT} (hc : PT X c t) : PIfs X [c] t:=fun pins s σ H Q I h=>wpAny_tests_one (hc pins s σ H Q I h)
noncomputable def J94 (J : It) (H1 : Hp) (σ0 : St) (g : TG) (tc : TT) (te : TE) (Q : VK) : Prop:=∀ D,H1 D = none →
  ∃ W : Nat → Nat → St → List V → Hp → Prop,(∃ m,W 0 m σ0 [] (upd H1 D (.lst []))) ∧ ∀ i m σ1 ys H,W i m σ1 ys H →
    (J.stop i H ∧ Q (.ref D) H) ∨ (J.go i H ∧ ∀ x H',J.yld i H x H' → g x σ1 H' fun σ2 H2=>tc σ2 H2 fun b H3 =>
       if b = true then te σ2 H3 fun y H4=>H4 D = some (.lst ys) ∧ ys.length < sizeLine ∧ ∃ m',m' < m ∧ W (i + 1) m' σ2 (ys ++ [y]) (upd H4 D (.lst (ys ++ [y])))
       else ∃ m',m' < m ∧ W (i + 1) m' σ2 ys H3)
noncomputable def Jd5 (wi : TI) (sub : St → St) (g : TG) (tc : TT) (te : TE) : TE:=fun σ H Q=>wi σ H fun J H1=>J94 J H1 (sub σ) g tc te Q
noncomputable def subσ (js : List (Option Nat)) (σ : St) : St:=js.map fun o=>o.bind fun j=>(σ[j]?).join
theorem J22 {env : Env} : ∀ {names : List (Str × NameKind)} {x : Str},names.lookup x = some .free →
  (names.map fun (n,k)=>if (k == NameKind.free && env.scope.kind == .function && env.kindOf n == some .cell) then (n,NameKind.cell) else (n,k)).lookup x = some .cell ∨
  (names.map fun (n,k)=>if (k == NameKind.free && env.scope.kind == .function && env.kindOf n == some .cell) then (n,NameKind.cell) else (n,k)).lookup x = some .free
 | [],_,h=>by simp at h
 | (n,k) :: r,x,h=>by
  have ih:=@J22 env r x
  show List.lookup x ((if (k == NameKind.free && env.scope.kind == .function && env.kindOf n == some .cell) = true then (n,NameKind.cell) else (n,k)) :: _) = _ ∨ List.lookup x ((if (k == NameKind.free && env.scope.kind == .function && env.kindOf n == some .cell) = true then (n,NameKind.cell) else (n,k)) :: _) = _
  cases hx : x == n with
  | true =>
   simp only [List.lookup_cons,hx] at h
   cases h
   by_cases hc : (NameKind.free == NameKind.free && env.scope.kind == .function && env.kindOf n == some .cell) = true
   ·rw [if_pos hc]; left; simp only [List.lookup_cons,hx]
   ·rw [if_neg hc]; right; simp only [List.lookup_cons,hx]
  | false =>
   simp only [List.lookup_cons,hx] at h
   by_cases hc : (k == NameKind.free && env.scope.kind == .function && env.kindOf n == some .cell) = true
   ·rw [if_pos hc]; simp only [List.lookup_cons,hx]; exact ih h
   ·rw [if_neg hc]; simp only [List.lookup_cons,hx]; exact ih h
theorem J45 {env : Env} : ∀ {names : List (Str × NameKind)} {x : Str},(∀ y ∈ names,y.2 ≠ NameKind.cell) →
  ((names.map fun (n,k)=>if (k == NameKind.free && env.scope.kind == .function && env.kindOf n == some .cell) then (n,NameKind.cell) else (n,k)).lookup x = some .cell ∨
  (names.map fun (n,k)=>if (k == NameKind.free && env.scope.kind == .function && env.kindOf n == some .cell) then (n,NameKind.cell) else (n,k)).lookup x = some .free) → (x,NameKind.free) ∈ names
 | [],_,_,h=>by simp at h
 | (n,k) :: r,x,hn,h=>by
  have ih:=@J45 env r x fun y hy=>hn y (List.mem_cons_of_mem _ hy)
  have hk : k ≠ .cell:=hn (n,k) List.mem_cons_self
  change List.lookup x ((if (k == NameKind.free && env.scope.kind == .function && env.kindOf n == some .cell) = true then (n,NameKind.cell) else (n,k)) :: _) = _ ∨ List.lookup x ((if (k == NameKind.free && env.scope.kind == .function && env.kindOf n == some .cell) = true then (n,NameKind.cell) else (n,k)) :: _) = _ at h
  cases hx : x == n with
  | true =>
   have hx' : x = n:=by simpa using hx
   subst hx'
   by_cases hc : (k == NameKind.free && env.scope.kind == .function && env.kindOf x == some .cell) = true
   ·have : k = .free:=by
     have:=(Bool.and_eq_true _ _).mp ((Bool.and_eq_true _ _).mp hc).1
     simpa using this.1
    subst this
    exact List.mem_cons_self
   ·rw [if_neg hc] at h
    simp only [List.lookup_cons,beq_self_eq_true] at h
    rcases h with h | h
    ·exact absurd (Option.some.inj h) hk
    ·have:=Option.some.inj h
     subst this
     exact List.mem_cons_self
  | false =>
   by_cases hc : (k == NameKind.free && env.scope.kind == .function && env.kindOf n == some .cell) = true
   ·rw [if_pos hc] at h; simp only [List.lookup_cons,hx] at h; exact List.mem_cons_of_mem _ (ih h)
   ·rw [if_neg hc] at h; simp only [List.lookup_cons,hx] at h; exact List.mem_cons_of_mem _ (ih h)
section
variable {X : Cx} {elt tg iter : Expr} {ifs : List Expr} {scope : Scope} {pos : Pos} {N : List Str} {js : List (Option Nat)} {wi : TI} {g : TG} {tc : TT} {te : TE}
structure J4i (osc : Scope) (ON : List Str) (scope : Scope) (N : List Str) (js : List (Option Nat)) : Prop where
 kind : scope.kind = .function
 cell : ∀ y ∈ scope.names,y.2 ≠ .cell
 names : ∀ y ∈ scope.names,y.2 = .local → scope.names.lookup y.1 = some .local
 free : ∀ y ∈ scope.names,y.2 = .free → osc.names.lookup y.1 = some .cell ∨ osc.names.lookup y.1 = some .free
 len : js.length = N.length
 slots : (js.zip N).all (fun p=>match p.1 with | none=>true | some j=>decide (ON[j]? = some p.2) && decide (scope.names.lookup p.2 = some .free)) = true
theorem J4i.sub {osc : Scope} {ON : List Str} {scope : Scope} {N : List Str} {js : List (Option Nat)} (cs : J4i osc ON scope N js) : ∀ (i j : Nat),js[i]? = some (some j) → ∃ x,N[i]? = some x ∧ ON[j]? = some x ∧ scope.names.lookup x = some .free:=by
 intro i j h
 have hi : i < js.length:=(List.getElem?_eq_some_iff.mp h).1
 have hN : N[i]? = some (N[i]'(by rw [← cs.len]; exact hi)):=List.getElem?_eq_getElem _
 have hz : (js.zip N)[i]? = some (some j,N[i]'(by rw [← cs.len]; exact hi)):=by
  rw [List.getElem?_zip_eq_some]
  exact ⟨h,hN⟩
 have hm:=List.all_eq_true.mp cs.slots _ (List.mem_of_getElem? hz)
 have hm2:=(Bool.and_eq_true _ _).mp hm
 exact ⟨_,hN,of_decide_eq_true hm2.1,of_decide_eq_true hm2.2⟩
theorem mem_of_lookup {α : Type} : ∀ {l : List (Str × α)} {x : Str} {k : α},l.lookup x = some k → (x,k) ∈ l
 | [],_,_,h=>by simp at h
 | (n,v) :: r,x,k,h=>by
  rw [List.lookup_cons] at h
  cases hx : x == n with
  | true =>
   rw [hx] at h
   have hx' : x = n:=by simpa using hx
   have : v = k:=Option.some.inj h
   subst hx' this
   exact List.mem_cons_self
  | false =>
   rw [hx] at h
   exact List.mem_cons_of_mem _ (mem_of_lookup h)
theorem J4Y {osc : Scope} {ON : List Str} (cs : J4i osc ON scope N js) (ho : X.env.scope = osc) (hON : X.N = ON) (hc : X.calm = true) (hi : PI X tg iter wi)
    (hg : ∀ s₀ H₀ cl C ex,PG (J2W X scope N s₀ H₀ cl C ex) tg g) (hif : ∀ s₀ H₀ cl C ex,PIfs (J2W X scope N s₀ H₀ cl C ex) ifs tc) (he : ∀ s₀ H₀ cl C ex,PE (J2W X scope N s₀ H₀ cl C ex) elt te)
    (hs : ∀ x,foldedSetIterable iter X.env x = pure x:=by intro _; rfl) : PE X (.ListComp elt [⟨tg,iter,ifs,0⟩] scope pos) (Jd5 wi (subσ js) g tc te):=by
  intro pins s σ H Q I h
  subst ho hON
  obtain ⟨cl,hcl,cl1,cl2⟩:=J5W (scope:=scope) (env:=X.env) fun y hy hf=>I.ok.has y.1 (cs.free y hy hf)
  rw [eval_ListComp]
  refine wpAny_comprehension_free (use:=none) rfl hs hcl cs.kind cs.names ?_
  refine thn (hi pins s σ H _ I h) fun v s1 h1=>thn h1 fun itv s2 h2=>?_
  obtain ⟨it,fp,tn,J,H2,e,I2,T,st2,f2,hW⟩:=h2
  subst e
  have hD0 : H2 s2.heap.objs.size = none:=I2.hok.fresh (Nat.le_refl _)
  obtain ⟨W,⟨m0,w0⟩,turn⟩:=hW s2.heap.objs.size hD0
  have I3:=I2.lnew (t':=s2.toks) (ys:=[]) (its:=[]) .nil (Nat.zero_le _)
  refine wpAny_newObj_type (wpAny_newFunctionEnv cs.cell (by intro y hy; simp at hy) (fun h₁ hns₁ hsb₁=>?_) cs.kind)
  dsimp only at hns₁ hsb₁ ⊢
  obtain ⟨s3,hs3⟩ : ∃ s3 : Shared,s3 = { s2 with heap:=s2.heap.push { cls:=.type "list",data:=.seq ([] : List Value).toArray },toks:=s2.toks }:=⟨_,rfl⟩
  rw [← hs3] at I3
  have e3 : s3.heap = s2.heap.push { cls:=.type "list",dict:=none,data:=.seq ([] : List Value).toArray }:=by rw [hs3]
  have e3o : s3.os = s2.os:=by rw [hs3]
  have e3g : s3.gens = s2.gens:=by rw [hs3]
  rw [← e3] at hns₁ hsb₁ ⊢
  obtain ⟨H3,hH3⟩ : ∃ H3 : Hp,H3 = upd H2 s2.heap.objs.size (.lst []):=⟨_,rfl⟩
  rw [← hH3] at I3 w0
  have up1 : ∀ b o,s2.heap.get? b = some o → s3.heap.get? b = some o:=fun b o q=>by rw [e3]; exact Heap.get?_push_of_some _ q
  have up2 : ∀ b o,s3.heap.get? b = some o → h₁.get? b = some o:=fun b o q=>hsb₁.extBut b o (Nat.ne_of_lt (Heap.lt_size q)) (Heap.get?_push_of_some _ q)
  have fpo : ∀ b ∈ fp,∃ o,s3.heap.get? b = some o:=fun b hb=>by
    obtain ⟨o,ho,_⟩:=T.obj 0 _ st2 b hb
    exact ⟨o,up1 b o ho⟩
  have fr3 : ∀ b ∈ fp,H3 b = none:=fun b hb=>by
    obtain ⟨o,ho,_⟩:=T.obj 0 _ st2 b hb
    rw [hH3,JX (Nat.ne_of_lt (Heap.lt_size ho))]
    exact (f2 b hb).1
  have fpC : ∀ b ∈ fp,b ≠ s3.heap.objs.size:=fun b hb=>by
    obtain ⟨o,ho⟩:=fpo b hb
    exact Nat.ne_of_lt (Heap.lt_size ho)
  have fpS : ∀ b ∈ fp,b ∉ frs X.stack:=fun b hb hs'=>by
    rcases List.mem_cons.mp (I2.stkSub b hs') with z | z
    · exact (f2 b hb).2.1 z
    · exact (f2 b hb).2.2.1 z
  have ok' : (J2W X scope N s3 H3 cl s3.heap.objs.size fp).Ok:=by
    refine ⟨I.ok.mod,cs.kind,I.ok.glob,I.ok.blt,Nat.le_refl _,fun x y c e1 e2=>I.ok.inj x y c (cl2 x c e1) (cl2 y c e2),fun x hx=>?_,fun x c hf=>(nomatch hf),I.ok.hd,I.ok.frames,.inl rfl,fun b hb=>⟨fpC b hb,fun x c e=>(f2 b hb).2.2.2.2.1 x c (cl2 x c e)⟩,
      I3.bs,Nat.le_trans I.ok.bsz I3.sz,fun b o e hb=>?_,fun b hb=>fpS b hb,I3.stack,I3.stkFree⟩
    · have hm : (x,NameKind.free) ∈ scope.names:=J45 cs.cell hx
      obtain ⟨c,hc⟩:=I.ok.has x (cs.free _ hm rfl)
      exact ⟨c,(cl1 _ hm rfl).trans hc⟩
    · rcases (f2 b hb).2.2.2.1 with z | z
      · exact I.ok.noex b o e z
      · exact absurd (Nat.lt_of_lt_of_le (Heap.lt_size e) (Nat.le_trans I.ok.bsz z)) (Nat.lt_irrefl _)
  have cellK : ∀ c v,s3.heap.IsCell c v → h₁.IsCell c v:=fun c v ⟨o,ho,hd⟩=>⟨o,up2 c o ho,hd⟩
  have I4 : ∀ t : Nat,Inv (J2W X scope N s3 H3 cl s3.heap.objs.size fp) [] (subσ js σ) H3 { s2 with heap:=h₁,toks:=t }:=fun t=>by
    refine ⟨ok',e3o.symm,I2.bare,Un.kept up2,⟨_,hns₁,fun i x v hi hv hx=>?_⟩,fun x c e=>?_,I3.hok.fresh (Nat.le_refl _),fun x c e=>I3.freeC x c (cl2 x c e),fun p hp=>(nomatch hp),I3.hok.kept up2,?_⟩
    ·
      have hv' : ∃ j,js[i]? = some (some j) ∧ σ[j]? = some (some v):=by
        unfold subσ at hv
        rw [List.getElem?_map] at hv
        cases hj : js[i]? with
        | none=>rw [hj] at hv; cases hv
        | some o =>
          rw [hj] at hv
          cases o with
          | none=>cases hv
          | some j =>
            refine ⟨j,rfl,?_⟩
            have hv2 : (σ[j]?).join = some v:=Option.some.inj hv
            cases hs2 : σ[j]? with
            | none=>rw [hs2] at hv2; cases hv2
            | some u=>rw [hs2] at hv2; exact congrArg some hv2
      obtain ⟨j,hj,hσ⟩:=hv'
      obtain ⟨x',h1',h2',h3'⟩:=cs.sub i j hj
      have hxx : x = x':=Option.some.inj (hi.symm.trans h1')
      subst hxx
      have hm : (x,NameKind.free) ∈ scope.names:=mem_of_lookup h3'
      have hk:=cs.free _ hm rfl
      obtain ⟨m,hn,hl⟩:=id I3.loc
      obtain ⟨u,ru,lk⟩:=hl j x v h2' hσ (by rcases hk with z | z; exact .inr (.inl z); exact .inr (.inr z))
      refine ⟨u,ru,?_⟩
      rcases lk with ⟨k1,_⟩ | ⟨k1,c,e1,z⟩
      · rcases hk with z | z <;> (rw [show X.env.kindOf x = _ from z] at k1; cases k1)
      · exact .inr ⟨J22 h3',c,(cl1 _ hm rfl).trans e1,cellK c _ z⟩
    · obtain ⟨v,z⟩:=I3.cell x c (cl2 x c e)
      exact ⟨v,cellK c v z⟩
    · unfold subσ
      rw [List.length_map]
      exact cs.len
  have hst₁ : tn 0 h₁:=T.keep 0 _ _ st2 fun b hb o q=>up2 b o (up1 b o q)
  have stat : ∀ {H' : Hp},(∀ b ∈ fp,H' b = none) → ∀ b ∈ fp,FpOk (J2W X scope N s3 H3 cl s3.heap.objs.size fp) [] H' b:=fun hn b hb =>
    ⟨hn b hb,fpC b hb,fpS b hb,.inl hb,fun x c e=>(f2 b hb).2.2.2.2.1 x c (cl2 x c e),fun p hp=>(nomatch hp)⟩
  have loop : ∀ s4 : Shared,(∃ t,s4 = { s2 with heap:=h₁,toks:=t }) →
      codeAny (model X.prog X.w) X.A (.compLoop (.ListComp elt [⟨tg,iter,ifs,0⟩] scope pos) 0 (.ref it) (.ref s2.heap.objs.size) (compEnvC scope cl s3.heap.objs.size X.env))
        (compPost (model X.prog X.w) X.A X.xe none (EP X pins σ Q) (.ref s2.heap.objs.size) s3.heap.objs.size) s4:=by
    rintro s4 ⟨t,rfl⟩
    refine J6S (fun n s'=>∃ i σ' ys H',Inv (J2W X scope N s3 H3 cl s3.heap.objs.size fp) [] σ' H' s' ∧ tn i s'.heap ∧ (∀ b ∈ fp,H' b = none) ∧ W i n σ' ys H') ?_ m0 ⟨0,_,[],H3,I4 t,hst₁,fr3,w0⟩
    rintro n s5 ⟨i,σ5,ys,H5,I5,st5,fr5,w5⟩
    rcases turn i n σ5 ys H5 w5 with ⟨stop,qn⟩ | ⟨go,step⟩
    · refine thn (T.done (J2W X scope N s3 H3 cl s3.heap.objs.size fp) rfl rfl rfl hc i [] s5 σ5 H5 _ I5 (stat fr5) st5 stop) fun r s6 ⟨hr,I6⟩=>?_
      subst hr
      obtain ⟨m,hn,_⟩:=id I6.loc
      refine ⟨m,hn,fun h' hs'=>⟨.ref s2.heap.objs.size,H5,?_,rfl,qn⟩⟩
      have neC : ∀ b o,s3.heap.get? b = some o → b ≠ s3.heap.objs.size:=fun b o q=>Nat.ne_of_lt (Heap.lt_size q)
      have un : Un (frs X.stack) fp H3 H5 s3.heap h' :=
        ⟨fun b o q n1 hb hx=>(hs'.2 b (neC b o q)).trans (I6.base.keep b o q n1 hb hx),
         fun b o q n1 hb hx=>by
           obtain ⟨sl,e⟩:=I6.base.slot b o q n1 hb hx
           exact ⟨sl,(hs'.2 b (neC b o q)).trans e⟩,
         fun b o q n1 hx=>I6.base.free b o q n1 hx,
         fun b o q hx=>by
           obtain ⟨o',e⟩:=I6.base.there b o q hx
           exact ⟨o',(hs'.2 b (neC b o q)).trans e⟩,
         I6.base.tups,I6.base.frzs,I6.base.tbls⟩
      refine I3.call' (ch:=fp) (s':={ s6 with heap:=h' }) I6.os un (fun b ob e=>?_) I6.bare (fun b hb=>⟨(f2 b hb).2.2.2.1,(f2 b hb).2.1,(f2 b hb).2.2.2.2.1,(f2 b hb).2.2.2.2.2⟩)
      refine (I6.hok b ob e).stay (fun c w' hc' q=>(hs'.2 c ?_).trans q) (fun _ q=>q) fun _ _ q=>q
      rintro rfl
      have fC : H5 s3.heap.objs.size = none:=I6.free
      rcases hc' with z | z
      · rw [← z,fC] at e; cases e
      · rw [fC] at z; cases z
    · refine thn (T.item (J2W X scope N s3 H3 cl s3.heap.objs.size fp) rfl rfl rfl hc i [] s5 σ5 H5 _ I5 (stat fr5) st5 go) fun r s6 ⟨u,hr,h6⟩=>?_
      subst hr
      refine thn h6 fun _ s7 ⟨x,H7,I7,r7,y7,st7,fr7⟩=>?_
      have I7':=I7.pinned (stat fr7) (T.obj _ _ st7)
      refine thn (hg _ _ _ _ _ _ s7 σ5 H7 x u _ I7' r7 (step x H7 y7)) fun _ s8 ⟨σ8,H8,I8,q8⟩=>?_
      refine thn (hif _ _ _ _ _ _ s8 σ8 H8 _ I8 q8) fun ok s9 ⟨H9,I9,q9⟩=>?_
      have again : ∀ {σ' : St} {H' : Hp} {s' : Shared},Inv (J2W X scope N s3 H3 cl s3.heap.objs.size fp) ([] ++ J5x fp s7.heap) σ' H' s' →
          Inv (J2W X scope N s3 H3 cl s3.heap.objs.size fp) [] σ' H' s' ∧ tn (i + 1) s'.heap ∧ ∀ b ∈ fp,H' b = none:=fun {σ' H' s'} I'=>by
        refine ⟨I'.unpinned,T.keep _ _ _ st7 fun b hb o e=>(I'.pin (b,o) (List.mem_append_right _ (List.mem_append_right _ (J2S hb e)))).1,fun b hb=>?_⟩
        obtain ⟨o,e,d⟩:=T.obj _ _ st7 b hb
        exact (I'.pin (b,o) (List.mem_append_right _ (List.mem_append_right _ (J2S hb e)))).2.1
      cases ok with
      | false =>
        rw [if_neg Bool.false_ne_true] at q9 ⊢
        obtain ⟨m',hm,w9⟩:=q9
        obtain ⟨a1,a2,a3⟩:=again I9
        exact ⟨m',hm,i + 1,σ8,ys,H9,a1,a2,a3,w9⟩
      | true =>
        rw [if_pos rfl] at q9 ⊢
        refine thn (he _ _ _ _ _ _ s9 σ8 H9 _ I9 q9) fun yv s10 ⟨y,H10,I10,r10,q10⟩=>?_
        obtain ⟨hD,hz,m',hm,w10⟩:=q10
        refine thn (J3l (X:=J2W X scope N s3 H3 cl s3.heap.objs.size fp) _ s10 σ8 H10 (.ref s2.heap.objs.size) [y] (.ref s2.heap.objs.size) [yv] (fun v H'=>H' = upd H10 s2.heap.objs.size (.lst (ys ++ [y]))) I10 rfl (.cons r10 .nil)
          ⟨s2.heap.objs.size,ys,y,rfl,rfl,hD,hz,rfl⟩) fun _ s11 ⟨v11,H11,I11,_,e11⟩=>?_
        have e11' : H11 = upd H10 s2.heap.objs.size (.lst (ys ++ [y])):=e11
        subst e11'
        obtain ⟨a1,a2,a3⟩:=again I11
        exact ⟨m',hm,i + 1,σ8,ys ++ [y],_,a1,a2,a3,w10⟩
  exact codeAny_compStart_list (loop _ ⟨_,rfl⟩) (T.self X.A 0 _ _ _ hst₁ (loop _ ⟨_,rfl⟩))
end
structure J7J (J : It) (H0 : Hp) (xs : List V) : Prop where
 go : ∀ i H,Same H0 H → i < xs.length → J.go i H
 yld : ∀ i H x H',Same H0 H → i < xs.length → J.yld i H x H' → H' = H ∧ xs[i]? = some x
 stop : ∀ H,Same H0 H → J.stop xs.length H
theorem J4I {H : Hp} (lo : Int) (n : Nat) : J7J (Itr lo n) H ((List.range n).map fun i=>.int (lo + (i : Nat))) where
 go:=fun i H' s hi=>by rw [List.length_map,List.length_range] at hi; exact hi
 yld:=fun i H' x H'' s hi y=>by
  rw [List.length_map,List.length_range] at hi
  refine ⟨y.1,?_⟩
  rw [List.getElem?_map,List.getElem?_range hi]
  exact congrArg some y.2.symm
 stop:=fun H' s=>by rw [List.length_map,List.length_range]; exact Nat.le_refl _
theorem J0m {H : Hp} {p : Addr} (h : H p = none) (o : HO) : Same H (upd H p o):=fun b u q=>by rw [JX (J03 q h)]; exact q
theorem Same.upd {H H' : Hp} {p : Addr} {o : HO} (s : Same H H') (h : H p = none) : Same H (upd H' p o):=fun b u q=>by rw [JX (J03 q h)]; exact s b u q
theorem J90 {J : It} {H : Hp} {xs : List V} {σ0 : St} {k : Nat} {tc : TT} {te : TE} {Q : VK} (p : V → Bool) (f : V → V) (hJ : J7J J H xs) (hx : xs.length ≤ 1000000)
  (hc : ∀ x ∈ xs,∀ H',Same H H' → ∀ R : Bool → Hp → Prop,(∀ H'',Same H' H'' → R (p x) H'') → tc (σ0.set k (some x)) H' R)
  (he : ∀ x ∈ xs,p x = true → ∀ H',Same H H' → ∀ R : VK,(∀ H'',Same H' H'' → R (f x) H'') → te (σ0.set k (some x)) H' R)
  (hQ : ∀ D H',H D = none → Same H H' → H' D = some (.lst ((xs.filter p).map f)) → Q (.ref D) H') :
  J94 J H σ0 (J4z k) tc te Q:=by
 intro D hD
 refine ⟨fun i m σ1 ys H'=>m = xs.length - i ∧ i ≤ xs.length ∧ (σ1 = σ0 ∨ ∃ v,σ1 = σ0.set k v) ∧ ys = ((xs.take i).filter p).map f ∧ H' D = some (.lst ys) ∧ Same H H',⟨xs.length,by simp,Nat.zero_le _,.inl rfl,rfl,Jr,J0m hD _⟩,?_⟩
 rintro i m σ1 ys H' ⟨rfl,hi,hσ,rfl,hDD,hs⟩
 by_cases hlt : i < xs.length
 ·refine .inr ⟨hJ.go i H' hs hlt,fun x H'' hy=>?_⟩
  obtain ⟨e1,hx1⟩:=hJ.yld i H' x H'' hs hlt hy
  subst e1
  have hm : x ∈ xs:=List.mem_of_getElem? hx1
  have hset : σ1.set k (some x) = σ0.set k (some x):=by
   rcases hσ with rfl | ⟨v,rfl⟩
   ·rfl
   ·rw [List.set_set]
  show tc (σ1.set k (some x)) H'' _
  rw [hset]
  have tk : ((xs.take (i + 1)).filter p).map f = ((xs.take i).filter p).map f ++ (if p x = true then [f x] else []):=by
   rw [List.take_add_one,hx1,List.filter_append,List.map_append]
   cases hp : p x <;> simp [hp]
  refine hc x hm H'' hs _ fun H3 s3=>?_
  have s03 : Same H H3:=hs.trans s3
  have lenk : (((xs.take i).filter p).map f).length < sizeLine:=by
   have h1:=List.length_filter_le p (xs.take i)
   rw [List.length_take] at h1
   rw [List.length_map]
   have : (1000001 : Nat) ≤ sizeLine:=by decide
   omega
  refine ite2 (fun hp=>?_) (fun hp=>?_)
  ·refine he x hm hp H3 s03 _ fun H4 s4=>⟨s4 _ _ (s3 _ _ hDD),lenk,xs.length - (i + 1),by omega,rfl,hlt,.inr ⟨_,rfl⟩,?_,?_,?_⟩
   ·rw [tk,if_pos hp]
   ·exact Jr
   ·exact (s03.trans s4).upd hD
  ·refine ⟨xs.length - (i + 1),by omega,rfl,hlt,.inr ⟨_,rfl⟩,?_,s3 _ _ hDD,s03⟩
   rw [tk,if_neg hp,List.append_nil]
 ·have e : i = xs.length:=by omega
  subst e
  refine .inl ⟨hJ.stop H' hs,hQ D H' hD hs ?_⟩
  rw [hDD,List.take_length]
theorem Jae {J : It} {H : Hp} {xs : List V} {σ0 : St} {k : Nat} {te : TE} {Q : VK} (f : V → V) (hJ : J7J J H xs) (hx : xs.length ≤ 1000000)
  (he : ∀ x ∈ xs,∀ H',Same H H' → ∀ R : VK,(∀ H'',Same H' H'' → R (f x) H'') → te (σ0.set k (some x)) H' R)
  (hQ : ∀ D H',H D = none → Same H H' → H' D = some (.lst (xs.map f)) → Q (.ref D) H') :
  J94 J H σ0 (J4z k) tYes te Q :=
 J90 (fun _=>true) f hJ hx (fun x _ H' _ R hR=>hR H' (Same.refl _)) (fun x hm _=>he x hm) (fun D H' h1 h2 h3=>hQ D H' h1 h2 (by rw [h3,List.filter_eq_self.mpr fun _ _=>rfl]))
end L2
set_option linter.all false
set_option maxRecDepth 100000
set_option maxHeartbeats 4000000
namespace L2
open PySem PySem.Spec PyProof.Rows
noncomputable abbrev T (l : List Nat) : V:=.str ⟨l.toArray⟩
theorem J3v {a b : List Nat} (h : T a = T b) : a = b:=by
 have h1 : (⟨a.toArray⟩ : Str) = ⟨b.toArray⟩:=V.str.inj h
 have h2 : a.toArray = b.toArray:=congrArg Str.cps h1
 simpa using h2
theorem J2k (l : List Nat) : (⟨l.toArray⟩ : Str).length = l.length:=by simp [Str.length]
theorem J84 (a b : List Nat) : (⟨a.toArray⟩ : Str) ++ ⟨b.toArray⟩ = ⟨(a ++ b).toArray⟩:=by
 show (⟨a.toArray ++ b.toArray⟩ : Str) = _
 simp
section
variable {X : Cx}
theorem Jl {x : Str} {l : List Nat} {j pos} (h : x = ⟨l.toArray⟩) : PE X (.Constant (.str x) j pos) (tC (T l)):=by subst h; exact JcN
noncomputable def Jdp : R2:=fun x y H Q=>∃ a b,x = T a ∧ y = T b ∧ a.length + b.length ≤ sizeLine ∧ Q (T (a ++ b)) H
theorem Js : OpR X (binaryOp .Add) Jdp:=by
 intro pins s σ H x y v u Q I rx ry h
 obtain ⟨a,b,rfl,rfl,hz,q⟩:=h
 exact J8s pins s σ H _ _ v u Q I rx ry ⟨_,_,rfl,rfl,by rw [J2k,J2k]; exact hz,by rw [J84]; exact q⟩
noncomputable def Jd9 : R2:=fun x y H Q=>∃ l i c,x = T l ∧ y = .int i ∧ l.length ≤ sizeLine ∧ atI l i = some c ∧ Q (T [c]) H
theorem J8v : IxR X Jd9:=by
 intro value slice pins s σ H x y v u Q I rx ry h hs
 obtain ⟨l,i,c,rfl,rfl,hz,he,q⟩:=h
 exact Jcr value slice pins s σ H _ _ v u Q I rx ry ⟨_,i,c,rfl,rfl,by rw [J2k]; exact hz,by simpa using he,q⟩ hs
theorem JaJ : OpR X (compareOp .In) (fun x y H Q=>∃ c m,x = T [c] ∧ y = T m ∧ Q (.bl (decide (c ∈ m))) H):=by
 intro pins s σ H x y v u Q I rx ry h
 obtain ⟨c,m,rfl,rfl,q⟩:=h
 refine J9E pins s σ H _ _ v u Q I rx ry ⟨_,_,rfl,rfl,?_⟩
 have e:=StrLaws.found_one ⟨m.toArray⟩ c
 rw [show (!(Builtin.Str.occurrences ⟨m.toArray⟩ ⟨[c].toArray⟩ 0 (⟨m.toArray⟩ : Str).length 1).isEmpty) = decide (c ∈ m) from by simpa using e]
 exact q
theorem J9x : OpR X (compareOp .NotIn) (fun x y H Q=>∃ c m,x = T [c] ∧ y = T m ∧ Q (.bl (!decide (c ∈ m))) H):=by
 intro pins s σ H x y v u Q I rx ry h
 obtain ⟨c,m,rfl,rfl,q⟩:=h
 refine J6N pins s σ H _ _ v u Q I rx ry ⟨_,_,rfl,rfl,?_⟩
 have e:=StrLaws.found_one ⟨m.toArray⟩ c
 rw [show (!(Builtin.Str.occurrences ⟨m.toArray⟩ ⟨[c].toArray⟩ 0 (⟨m.toArray⟩ : Str).length 1).isEmpty) = decide (c ∈ m) from by simpa using e]
 exact q
theorem J2h : J1X X (.builtin "len") (fun xs H Q=>∃ l,xs = [T l] ∧ l.length ≤ sizeLine ∧ Q (.int l.length) H):=by
 intro pins s σ H xs us Q I r h
 obtain ⟨l,rfl,hz,q⟩:=h
 exact J6W pins s σ H _ us Q I r ⟨_,rfl,by rw [J2k]; exact hz,by rw [J2k]; exact q⟩
end
noncomputable def cutN {α : Type} (xs : List α) (lo hi : Option Int) : List α:=(xs.drop (HT.sIx xs.length 0 lo)).take (HT.sIx xs.length xs.length hi - HT.sIx xs.length 0 lo)
noncomputable def Jar (n : Nat) (d : Int) : Option Int → Int
 | none=>d
 | some i=>max 0 (min (if i < 0 then i + (n : Int) else i) (n : Int))
theorem J7X (n d : Nat) (o : Option Int) : Jar n (d : Int) o = ((HT.sIx n d o : Nat) : Int):=by
 cases o with
 | none=>rfl
 | some i =>
  show max 0 (min (if i < 0 then i + (n : Int) else i) (n : Int)) = (((if i < 0 then (i + (n : Int)).toNat else min i.toNat n) : Nat) : Int)
  by_cases hi : i < 0
  ·rw [if_pos hi,if_pos hi]; omega
  ·rw [if_neg hi,if_neg hi]; omega
theorem Jce (a b : Nat) : sliceRange (a : Int) (b : Int) 1 = (List.range (b - a)).map fun k=>a + k:=by
 unfold sliceRange
 simp only [show (1 : Int) > 0 by decide,if_true]
 have e1 : (if (a : Int) < (b : Int) then ((b : Int) - (a : Int) + 1 - 1) / 1 else 0).toNat = b - a:=by
  split <;> simp <;> omega
 rw [e1]
 refine List.map_congr_left fun k _=>?_
 omega
theorem J70 (lo hi : Option Int) (n : Nat) : Builtin.Str.strSliceIndices lo hi 1 n = (List.range (HT.sIx n n hi - HT.sIx n 0 lo)).map fun k=>HT.sIx n 0 lo + k:=by
 have e : Builtin.Str.strSliceIndices lo hi 1 n = sliceRange (Jar n ((0 : Nat) : Int) lo) (Jar n ((n : Nat) : Int) hi) 1:=by
  cases lo <;> cases hi <;> rfl
 rw [e,J7X,J7X,Jce]
theorem Jdk (l : List Nat) (i k : Nat) : ((List.range k).map fun m=>i + m).filterMap (fun j=>l.toArray[j]?) = (l.drop i).take k:=by
 induction k generalizing i with
 | zero=>simp
 | succ k ih =>
  rw [List.range_succ_eq_map,List.map_cons,List.filterMap_cons,List.map_map]
  have e : ((fun m=>i + m) ∘ Nat.succ) = fun m=>(i + 1) + m:=by funext m; simp; omega
  rw [e,ih (i + 1)]
  by_cases h : i < l.length
  ·have : l.toArray[i + 0]? = some l[i]:=by simp [h]
   rw [this,List.drop_eq_getElem_cons h,List.take_succ_cons]
  ·have : l.toArray[i + 0]? = none:=by simp; omega
   rw [this,List.drop_eq_nil_of_le (by omega),List.drop_eq_nil_of_le (by omega)]
   simp
theorem J9M {α : Type} {l : List α} {lo hi : Option Int} (h : (cutN l lo hi).length = l.length) : cutN l lo hi = l:=by
 unfold cutN at h ⊢
 rw [List.length_take,List.length_drop] at h
 have h2:=HT.sIx_le l.length l.length (Nat.le_refl _) hi
 by_cases h0 : l.length = 0
 ·have : l = []:=List.length_eq_zero_iff.mp h0
  subst this; simp
 ·have e0 : HT.sIx l.length 0 lo = 0:=by omega
  rw [e0,List.drop_zero]
  exact List.take_of_length_le (by omega)
theorem J9G (l : List Nat) (lo hi : Option Int) : Txt.slice ⟨l.toArray⟩ lo hi = ⟨(cutN l lo hi).toArray⟩:=by
 unfold Txt.slice
 rw [J2k,J70]
 have e:=Jdk l (HT.sIx l.length 0 lo) (HT.sIx l.length l.length hi - HT.sIx l.length 0 lo)
 have e2 : ((List.range (HT.sIx l.length l.length hi - HT.sIx l.length 0 lo)).map fun k=>HT.sIx l.length 0 lo + k).filterMap (fun x=>(⟨l.toArray⟩ : Str).cps[x]?) = cutN l lo hi:=e
 by_cases h : ((1 : Int) == 1 && ((List.range (HT.sIx l.length l.length hi - HT.sIx l.length 0 lo)).map fun k=>HT.sIx l.length 0 lo + k).length == l.length) = true
 ·rw [if_pos h]
  have h' : HT.sIx l.length l.length hi - HT.sIx l.length 0 lo = l.length:=by
   have:=((Bool.and_eq_true _ _).mp h).2
   simpa using this
  have : (cutN l lo hi).length = l.length:=by
   unfold cutN
   rw [List.length_take,List.length_drop]
   have:=HT.sIx_le l.length l.length (Nat.le_refl _) hi
   omega
  rw [J9M this]
 ·rw [if_neg h,e2]
section
variable {X : Cx}
noncomputable def rSlS : V → Option Int → Option Int → Hp → VK → Prop:=fun x lo hi H Q=>∃ l,x = T l ∧ l.length ≤ sizeLine ∧ Q (T (cutN l lo hi)) H
theorem J2R : SlR X rSlS:=by
 intro pins s σ H x v vl vu lo hi sl Q I rx hs pl pu h
 obtain ⟨l,rfl,hz,q⟩:=h
 obtain ⟨t,rfl⟩:=rx
 refine ⟨"str",_,F.slot_str_getitem.lookup,typeIs_str _ _ _,?_⟩
 have fin : ∀ t' k,EP X pins σ Q (.str (Txt.slice ⟨l.toArray⟩ lo hi) t') { s with toks:=k }:=fun t' k=>⟨T (cutN l lo hi),H,I.tok _,⟨t',by rw [J9G]⟩,q⟩
 have hlen : (Txt.slice ⟨l.toArray⟩ lo hi).length ≤ sizeLine:=Nat.le_trans (Txt.slice_le _ _ _) (by rw [J2k]; exact hz)
 cases pl with
 | none =>
  cases pu with
  | none=>exact wpAny_getItem_str_slice (l:=none) (u:=none) (st:=none) hs rfl (post_val_or_str ⟨hlen,fin⟩)
  | int j uj=>exact wpAny_getItem_str_slice (l:=none) (u:=some (j,uj)) (st:=none) hs rfl (post_val_or_str ⟨hlen,fin⟩)
 | int i ui =>
  cases pu with
  | none=>exact wpAny_getItem_str_slice (l:=some (i,ui)) (u:=none) (st:=none) hs rfl (post_val_or_str ⟨hlen,fin⟩)
  | int j uj=>exact wpAny_getItem_str_slice (l:=some (i,ui)) (u:=some (j,uj)) (st:=none) hs rfl (post_val_or_str ⟨hlen,fin⟩)
end
noncomputable def Its (l : List Nat) : It:=⟨fun i _=>i < l.length,fun i H x H'=>H' = H ∧ ∃ c,l[i]? = some c ∧ x = T [c],fun i _=>l.length ≤ i⟩
theorem Jah {P : Program} {w : World} {K : PySem.W.Frag} {tg : Expr} {it : Addr} {l : List Nat} {t : Tok} {nm : String} (hn : nm = "str_ascii_iterator" ∨ nm = "str_iterator") :
  Turn P w K tg (Its l) [it] it (fun i h=>h.IsStrIter it nm ⟨l.toArray⟩ t i) where
 mem:=by simp
 obj:=fun i h st b hb=>by
  have e : b = it:=by simpa using hb
  subst e
  obtain ⟨o,e,c,d⟩:=st
  exact ⟨o,e,fun v z=>by rw [d] at z; cases z⟩
 keep:=fun i h h' st k=>by
  obtain ⟨o,e,r⟩:=st
  exact ⟨o,k it (by simp) o e,r⟩
 item:=by
  intro X hP hw hK hc i pins s σ H E I hf st hg
  subst hP hw hK
  obtain ⟨f0,f1,f2,f3,f4,f5⟩:=hf it (by simp)
  have hi : i < l.length:=hg
  have hx : (⟨l.toArray⟩ : Str).cps[i]? = some l[i]:=by simp [hi]
  have fin : ∀ h',h'.IsStrIter it nm ⟨l.toArray⟩ t (i + 1) → Heap.SameBut it s.heap h' → ∃ u,(some (Value.str ⟨#[l[i]]⟩ s.toks) : Option Value) = some u ∧
    wpAny (model X.prog X.w) X.A (letOwnedTupleGo tg (.ref it) u) (fun _ s2=>∃ x H',Inv X pins σ H' s2 ∧ RelV x u ∧ (Its l).yld i H x H' ∧ s2.heap.IsStrIter it nm ⟨l.toArray⟩ t (i + 1) ∧ ∀ b ∈ [it],H' b = none) E { s with heap:=h',toks:=s.toks + 1 }:=fun h' st' sb=>by
   have I1 : Inv X pins σ H { s with heap:=h',toks:=s.toks + 1 }:=I.turned (t':=s.toks + 1) (fun b o hb e=>(sb.2 b hb).trans e) f0 f1 f3 f4 f5
   obtain ⟨o,e,c,d⟩:=id st'
   refine ⟨_,rfl,Ja2 (s:={ s with heap:=h',toks:=s.toks + 1 }) e c d (by rcases hn with rfl | rfl <;> decide) ⟨T [l[i]],H,I1,⟨_,rfl⟩,⟨rfl,l[i],by simp [hi],rfl⟩,st',fun b hb=>(hf b hb).1⟩⟩
  rcases hn with rfl | rfl
  ·exact wpAny_pyNext_ascii_item st hx fin
  ·exact wpAny_pyNext_wide_item st hx fin
 done:=by
  intro X hP hw hK hc i pins s σ H E I hf st hg
  subst hP hw hK
  obtain ⟨f0,f1,f2,f3,f4,f5⟩:=hf it (by simp)
  have hi : l.length ≤ i:=hg
  have hx : (⟨l.toArray⟩ : Str).cps[i]? = none:=by simp; exact hi
  have fin : ∀ h',Heap.ExtBut it s.heap h' → (none : Option Value) = none ∧ Inv X pins σ H { s with heap:=h' }:=fun h' eb=>⟨rfl,I.turned (t':=s.toks) (fun b o hb e=>eb b o hb e) f0 f1 f3 f4 f5⟩
  rcases hn with rfl | rfl
  ·exact wpAny_pyNext_ascii_end (I.ok.hd hc) st hx fin
  ·exact wpAny_pyNext_wide_end (I.ok.hd hc) st hx fin
 self:=fun _ _ _ _ _ st h=>by
  rcases hn with rfl | rfl
  ·exact wpAny_pyIter_striter_ascii st h
  ·exact wpAny_pyIter_striter_wide st h
section
variable {X : Cx} {tg : Expr}
noncomputable def iTxt (tl : TE) : TI:=fun σ H R=>tl σ H fun x H1=>∃ l,x = T l ∧ R (Its l) H1
theorem J8u {e : Expr} {tl : TE} (hl : PE X e tl) : PI X tg e (iTxt tl):=by
 intro pins s σ H R I h
 refine thn (hl pins s σ H _ I h) fun v s1 ⟨x,H1,I1,r1,q1⟩=>?_
 obtain ⟨l,e,q⟩:=q1
 subst e
 obtain ⟨t,rfl⟩:=r1
 have fin : ∀ nm : String,(nm = "str_ascii_iterator" ∨ nm = "str_iterator") → PIE X pins σ tg R (.ref s1.heap.objs.size) { s1 with heap:=s1.heap.push { cls:=.type nm,data:=.fields #[.str ⟨l.toArray⟩ t,.int 0 0] } }:=fun nm hn=>by
  refine ⟨s1.heap.objs.size,[s1.heap.objs.size],_,_,H1,rfl,I1.kept (t':=s1.toks) fun b o e=>Heap.get?_push_of_some _ e,Jah (t:=t) hn,⟨_,Heap.get?_push_size _ rfl,rfl,rfl⟩,fun b hb=>?_,q⟩
  have e : b = s1.heap.objs.size:=by simpa using hb
  subst e
  exact I1.fpOk (Nat.le_refl _) (I1.hok.fresh (Nat.le_refl _))
 cases ha : (⟨l.toArray⟩ : Str).cps.all (· < 128) with
 | true=>exact wpAny_pyIter_ascii ha (fin _ (.inl rfl))
 | false=>exact wpAny_pyIter_wide ha (fin _ (.inr rfl))
end
theorem J65 {H : Hp} (l : List Nat) : J7J (Its l) H (l.map fun c=>T [c]) where
 go:=fun i H' s hi=>by rw [List.length_map] at hi; exact hi
 yld:=fun i H' x H'' s hi y=>by
  obtain ⟨e,c,hc,rfl⟩:=y
  exact ⟨e,by rw [List.getElem?_map,hc]; rfl⟩
 stop:=fun H' s=>by rw [List.length_map]; exact Nat.le_refl _
theorem Jbu {l : List Nat} {g : TG} {tb : TS} {D : Ends} {σ : St} {H : Hp} (Pv : Nat → St → Hp → Prop) (h0 : Pv 0 σ H)
  (hs : ∀ i c σ H,l[i]? = some c → Pv i σ H → g (T [c]) σ H fun σ2 H2=>tb { D with nx:=Pv (i + 1),ct:=Pv (i + 1),bk:=D.nx } σ2 H2) (hd : ∀ σ H,Pv l.length σ H → D.nx σ H) :
  ∃ W : Nat → Nat → St → Hp → Prop,(∃ m,W 0 m σ H) ∧ ∀ i m σ H,W i m σ H →
   ((Its l).stop i H ∧ D.nx σ H) ∨ ((Its l).go i H ∧ ∃ N : St → Hp → Prop,(∀ σ' H',N σ' H' → ∃ m',m' < m ∧ W (i + 1) m' σ' H') ∧ ∀ x H',(Its l).yld i H x H' → g x σ H' fun σ2 H2=>tb { D with nx:=N,ct:=N,bk:=D.nx } σ2 H2):=by
 refine ⟨fun i m σ H=>m = l.length - i ∧ i ≤ l.length ∧ Pv i σ H,⟨l.length,by simp,Nat.zero_le _,h0⟩,?_⟩
 rintro i m σ H ⟨rfl,hi,p⟩
 by_cases hlt : i < l.length
 ·refine .inr ⟨hlt,Pv (i + 1),fun σ' H' p'=>⟨l.length - (i + 1),by omega,rfl,hlt,p'⟩,fun x H' y=>?_⟩
  obtain ⟨e,c,hc,rfl⟩:=y
  subst e
  exact hs i c σ _ hc p
 ·have e : i = l.length:=by omega
  subst e
  exact .inl ⟨Nat.le_refl _,hd σ H p⟩
theorem J63 : ∀ {ts : List (List Nat)} {us : List Value},Vals (ts.map T) us → PyProof.Rows.StrsAre us (ts.map fun l=>⟨l.toArray⟩)
 | [],_,h=>by cases h; exact .nil
 | l :: r,_,h=>by
  cases h with
  | cons r1 r2 =>
   obtain ⟨t,rfl⟩:=r1
   exact .cons _ t (J63 r2)
noncomputable def J4H (sep : List Nat) : List (List Nat) → List Nat
 | []=>[]
 | [x]=>x
 | x :: y :: r=>x ++ sep ++ J4H sep (y :: r)
theorem J7M (sep : List Nat) : ∀ ts : List (List Nat),Str.join ⟨sep.toArray⟩ (ts.map fun l=>⟨l.toArray⟩) = ⟨(J4H sep ts).toArray⟩
 | []=>rfl
 | [x]=>rfl
 | x :: y :: r=>by
  show (⟨x.toArray⟩ : Str) ++ ⟨sep.toArray⟩ ++ Str.join ⟨sep.toArray⟩ ((y :: r).map fun l=>⟨l.toArray⟩) = _
  rw [J7M sep (y :: r),J84,J84]
  rfl
section
variable {X : Cx}
noncomputable def Ja7 (K : PySem.W.Frag) : V → List V → Hp → VK → Prop:=fun x vs H Q=>∃ sep ts D,x = T sep ∧ vs = [.ref D] ∧ SqL K H D (ts.map T) ∧ (ts.map List.length).sum + ts.length * sep.length ≤ 16777216 ∧ Q (T (J4H sep ts)) H
theorem Jbv : MtR X "str.join" (Ja7 X.K):=by
 intro pins s σ H x vs v us Q I rx rv h
 obtain ⟨sep,ts,D,rfl,rfl,hq,hz,q⟩:=h
 obtain ⟨t,rfl⟩:=rx
 obtain ⟨u,rfl,ru⟩:=rv.one
 cases ru
 obtain ⟨its,r,pl,_⟩:=I.list hq
 refine join_list (ys:=ts.map fun l=>⟨l.toArray⟩) pl.isList (by simpa using J63 r) ?_ fun t' k=>⟨T (J4H sep ts),H,I.tok _,⟨t',?_⟩,q⟩
 ·rw [List.map_map,List.length_map,J2k]
  have e : ((fun x=>x.length) ∘ fun l : List Nat=>(⟨l.toArray⟩ : Str)) = List.length:=by funext l; exact J2k l
  rw [e]
  exact hz
 ·rw [← J7M]
  show Value.str (Builtin.Str.glued _ _) t' = _
  rw [StrLaws.glued_eq_join]
end
theorem Jbs {X : Cx} {o e : Expr} {to : TE} {t : TA} {apos cpos : Pos} (ho : PE X o to) (ha : PA X [e] t)
  (hbase : attributeBase o "join" X.env (eval o X.env) = eval o X.env:=by rfl)
  (hfew : ((backTo cpos (starEach [e] X.env)).all (fun x=>!x.1) && (backToKw cpos (keywordEach [] X.env)).all (fun x=>x.1.isSome)
   && decide ([e].length + ([] : List Keyword).length + (if ([] : List Keyword).isEmpty then 0 else 1) < 30)) = true:=by rfl)
  (hline : (apos.endLine == cpos.line) = true:=by rfl) (hs : starEach [e] X.env = (false,eval e X.env) :: starEach [] X.env:=by rfl) (hplain : (backTo cpos (starEach [] X.env)).any (·.1) = false:=by rfl) :
  PE X (.Call (.Attribute o "join" apos) [e] [] cpos) (tBM X.K "str" (Ja7 X.K) to t) :=
 J64 F.plainAttrs_str F.slot_str_join F.type_str_join Jbv ho ha hbase hfew hline hs hplain
theorem JaM {bs : List Bool} {us : List Value} (h : Vals (bs.map V.bl) us) : us = bs.map Value.bool:=by
 induction bs generalizing us with
 | nil=>cases h; rfl
 | cons b r ih =>
  cases h with
  | cons r1 r2 =>
   cases r1
   rw [ih r2]; rfl
theorem J9y (bs : List Bool) : (List.range bs.length).all (fun i=>bs.getD i false) = bs.all id:=by
 rw [Bool.eq_iff_iff,List.all_eq_true,List.all_eq_true]
 constructor
 ·intro h b hb
  obtain ⟨i,hi,rfl⟩:=List.mem_iff_getElem.mp hb
  have:=h i (List.mem_range.mpr hi)
  simpa [List.getD_eq_getElem?_getD,hi] using this
 ·intro h i hi
  have hi:=List.mem_range.mp hi
  have:=h bs[i] (List.getElem_mem hi)
  simpa [List.getD_eq_getElem?_getD,hi] using this
section
variable {X : Cx}
theorem J9O (bs : List Bool) {A : Around} : TruthOf X.prog X.w A (fun i v=>(bs.map Value.bool).toArray[i]? = some v) (fun i=>bs.getD i false):=fun i v s Q E hP hQ=>by
 have : ∃ b,bs[i]? = some b ∧ v = .bool b:=by
  have hP' : (bs.map Value.bool).toArray[i]? = some v:=hP
  rw [List.getElem?_toArray,List.getElem?_map] at hP'
  cases hb : bs[i]? with
  | none=>rw [hb] at hP'; cases hP'
  | some b=>rw [hb] at hP'; exact ⟨b,rfl,(Option.some.inj hP').symm⟩
 obtain ⟨b,hb,rfl⟩:=this
 refine wpAny_truthy_bool ?_
 simpa [List.getD_eq_getElem?_getD,hb] using hQ
theorem J9D (hc : X.calm = true) : J1X X (.builtin "all") (fun xs H Q=>∃ (D : Addr) (bs : List Bool),xs = [.ref D] ∧ SqL X.K H D (bs.map V.bl) ∧ Q (.bl (bs.all id)) H):=by
 intro pins s σ H xs us Q I r h
 obtain ⟨D,bs,rfl,hq,q⟩:=h
 obtain ⟨u,rfl,ru⟩:=r.one
 cases ru
 obtain ⟨its,rv,pl,_⟩:=I.list hq
 obtain rfl:=JaM rv
 have hD : D < s.heap.objs.size:=by obtain ⟨o,n,e,_⟩:=pl; exact Heap.lt_size e
 refine call_all_walk (wpAny_pyIter_list pl.isList ⟨s.heap.objs.size,_,_,_,_,_,fun i=>bs.getD i false,rfl,Walks.list (A:=X.A.in1) (I.ok.hd hc) _ D (Nat.ne_of_lt hD) (bs.map Value.bool).toArray,
  ⟨⟨_,Heap.get?_push_size _ rfl,rfl,rfl⟩,pl.isList.push _⟩,J9O bs,fun h' tk hk=>?_⟩)
 rw [List.size_toArray,List.length_map,J9y]
 exact ⟨.bl (bs.all id),H,I.kept fun b o e=>hk b o (by simpa using Nat.ne_of_lt (Heap.lt_size e)) (Heap.get?_push_of_some _ e),rfl,q⟩
theorem J9n : J1X X (.builtin "isinstance") (fun xs H Q=>(∃ b,xs = [.bl b,.ty "bool"] ∧ Q (.bl true) H) ∨ (∃ i,xs = [.int i,.ty "bool"] ∧ Q (.bl false) H) ∨ (∃ i,xs = [.int i,.ty "int"] ∧ Q (.bl true) H) ∨ (∃ x,xs = [.str x,.ty "str"] ∧ Q (.bl true) H) ∨
  (∃ p ys,xs = [.ref p,.ty "list"] ∧ H p = some (.lst ys) ∧ Q (.bl true) H)):=by
 intro pins s σ H xs us Q I r h
 rcases h with ⟨b,rfl,q⟩ | ⟨i,rfl,q⟩ | ⟨i,rfl,q⟩ | ⟨x,rfl,q⟩ | ⟨p,ys,rfl,hp,q⟩
 ·obtain ⟨u,v,rfl,r1,r2⟩:=r.two
  cases r1; cases r2
  exact PySem.W.kia_one PySem.W.kitx_bool I.kIn True.intro (by rfl) (fun z=>nomatch z) fun tk=>⟨.bl true,H,I.tok _,rfl,q⟩
 ·obtain ⟨u,v,rfl,r1,r2⟩:=r.two
  obtain ⟨t,rfl⟩:=r1; cases r2
  exact PySem.W.kia_one PySem.W.kitx_int I.kIn True.intro (by rfl) (fun z=>nomatch z) fun tk=>⟨.bl false,H,I.tok _,rfl,q⟩
 ·obtain ⟨u,v,rfl,r1,r2⟩:=r.two
  obtain ⟨t,rfl⟩:=r1; cases r2
  exact PySem.W.kia_one PySem.W.kitx_int I.kIn True.intro (by rfl) (fun z=>nomatch z) fun tk=>⟨.bl true,H,I.tok _,rfl,q⟩
 ·obtain ⟨u,v,rfl,r1,r2⟩:=r.two
  obtain ⟨t,rfl⟩:=r1; cases r2
  exact PySem.W.kia_one PySem.W.kitx_str I.kIn True.intro (by rfl) (fun z=>nomatch z) fun tk=>⟨.bl true,H,I.tok _,rfl,q⟩
 ·obtain ⟨u,v,rfl,r1,r2⟩:=r.two
  cases r1; cases r2
  obtain ⟨_,its,n,_,h1⟩:=I.hok p _ hp
  exact PySem.W.kia_one PySem.W.kitx_list I.kIn ⟨_,h1,rfl⟩ (by rfl) (fun z=>nomatch z) fun tk=>⟨.bl true,H,I.tok _,rfl,q⟩
end
end L2
set_option linter.all false
set_option maxRecDepth 100000
set_option maxHeartbeats 4000000
namespace L2
open PySem PySem.Spec PyProof.Rows
open Builtin Builtin.Str
section
variable {prog : Program} {w : World} {A : Around} {E : Value → Shared → Prop} {s : Shared}
end
section
variable {X : Cx} {es : List Expr} {k : Nat} {tpos : Pos}
end
end L2
set_option linter.all false
set_option maxRecDepth 100000
set_option maxHeartbeats 4000000
namespace L2
open PySem PySem.Spec PyProof.Rows
end L2
set_option linter.all false
set_option maxRecDepth 100000
set_option maxHeartbeats 4000000
namespace L2
open PySem PySem.Spec PyProof.Rows
noncomputable def GF (K : PySem.W.Frag) (mg : Str → Option Value) (x : Str) (st : Stmt) : Prop:=∃ f fd,Fun K x x st f fd ∧ mg x = some (.ref f)
noncomputable def FnG (P : Program) (w : World) (K : PySem.W.Frag) (mg : Str → Option Value) (base : Heap) (x : Str) (k : Nat) (ps : List Str) (sp : Sp) : Prop :=
 ∃ f fd,FnOk P w K mg base CX0 k f fd ps sp ∧ mg x = some (.ref f) ∧ PySem.W.keepIn K (.ref f) = true ∧ J3s K fd ps []
noncomputable def MF (K : PySem.W.Frag) (C : Addr) (m qual : Str) (st : Stmt) : Prop:=∃ f fd,Fun K m qual st f fd ∧ Meth K C m f
noncomputable def MtG (P : Program) (w : World) (K : PySem.W.Frag) (mg : Str → Option Value) (base : Heap) (C : Addr) (m : Str) (k : Nat) (ps : List Str) (sp : Sp) : Prop :=
 ∃ f fd,FnOk P w K mg base CX0 k f fd ps sp ∧ Cls K C ∧ Meth K C m f ∧ J3s K fd ps []
structure CF (K : PySem.W.Frag) (mg : Str → Option Value) (x : Str) (C : Addr) : Prop where
 cl : Cls K C
 mg : mg x = some (.ref C)
 makes : PySem.W.makesIn K C = true
 kp : PySem.W.keepIn K (.ref C) = true
noncomputable def MkG (P : Program) (w : World) (K : PySem.W.Frag) (mg : Str → Option Value) (base : Heap) (C : Addr) (x : Str) (k : Nat) (ps : List Str) (sp : Sp) : Prop :=
 ∃ f fd,FnOk P w K mg base CX0 k f fd ps sp ∧ Mk K C f ∧ mg x = some (.ref C) ∧ J3s K fd ps []
section
variable {P : Program} {w : World} {K : PySem.W.Frag} {mg : Str → Option Value} {base : Heap}
theorem FnG.mono {x : Str} {j k : Nat} {ps : List Str} {sp : Sp} (G : FnG P w K mg base x j ps sp) (h : j ≤ k) : FnG P w K mg base x k ps sp:=by
 obtain ⟨f,fd,a,b⟩:=G
 exact ⟨f,fd,a.mono h,b⟩
theorem MtG.mono {C : Addr} {m : Str} {j k : Nat} {ps : List Str} {sp : Sp} (G : MtG P w K mg base C m j ps sp) (h : j ≤ k) : MtG P w K mg base C m k ps sp:=by
 obtain ⟨f,fd,a,b⟩:=G
 exact ⟨f,fd,a.mono h,b⟩
theorem GF.g {x : Str} {st : Stmt} {N ps : List Str} {k : Nat} {sp : Sp} (F : GF K mg x st) (S : Jw N ps (J8 st))
  (bnd : ∀ (kV doc pm : Value) (an : Option Addr) (cdv ct : Value) (us : List Value),us.length = ps.length → bindArgs (PySem.W.fnOf x x (Jv st) (Jt st) (J8 st) .none kV doc pm an cdv ct) ⟨us,[]⟩ = pure (ps.zip us))
  (len : ∀ vs H Q E,sp vs H Q E → vs.length = ps.length)
  (hbody : ∀ (f : Addr) (cdv : Value) (A : Around) (outer : List Env) (s : Shared) (H : Hp) (vs : List V) (Q : VK) (E : XK),Room k (A.deeper (envOfC x (J8 st) s.heap.objs.size f cdv)) → sp vs H Q E →
   ∃ t,PSs (cxOf CX0 P w K mg base N x (J8 st) f cdv A outer s H E).nox (Jt st) t ∧ t { nx:=fun _ H'=>Q .non H',rt:=Q } (start N vs) H) : FnG P w K mg base x (k + 1) ps sp:=by
 obtain ⟨f,fd,F,m⟩:=F
 exact ⟨f,fd,F.ok S len fun cdv A outer s H vs Q E hr h=>hbody f cdv A outer s H vs Q E hr h,m,F.kp,F.binds bnd⟩
theorem MF.g {C : Addr} {m qual : Str} {st : Stmt} {N ps : List Str} {k : Nat} {sp : Sp} (F : MF K C m qual st) (cl : Cls K C) (S : Jw N ps (J8 st))
  (bnd : ∀ (kV doc pm : Value) (an : Option Addr) (cdv ct : Value) (us : List Value),us.length = ps.length → bindArgs (PySem.W.fnOf m qual (Jv st) (Jt st) (J8 st) .none kV doc pm an cdv ct) ⟨us,[]⟩ = pure (ps.zip us))
  (len : ∀ vs H Q E,sp vs H Q E → vs.length = ps.length)
  (hbody : ∀ (f : Addr) (cdv : Value) (A : Around) (outer : List Env) (s : Shared) (H : Hp) (vs : List V) (Q : VK) (E : XK),Room k (A.deeper (envOfC qual (J8 st) s.heap.objs.size f cdv)) → sp vs H Q E →
   ∃ t,PSs (cxOf CX0 P w K mg base N qual (J8 st) f cdv A outer s H E).nox (Jt st) t ∧ t { nx:=fun _ H'=>Q .non H',rt:=Q } (start N vs) H) : MtG P w K mg base C m (k + 1) ps sp:=by
 obtain ⟨f,fd,F,m⟩:=F
 exact ⟨f,fd,F.ok S len fun cdv A outer s H vs Q E hr h=>hbody f cdv A outer s H vs Q E hr h,cl,m,F.binds bnd⟩
theorem CF.g {C : Addr} {x : Str} {k : Nat} {ps : List Str} {sp : Sp} (c : CF K mg x C) (G : MtG P w K mg base C "__init__" k ps sp) : MkG P w K mg base C x k ps sp:=by
 obtain ⟨f,fd,a,_,m,b⟩:=G
 exact ⟨f,fd,a,⟨c.makes,m.at_,m.fn,c.kp⟩,c.mg,b⟩
end
section
variable {X : Cx} {x m : Str} {k : Nat} {ps : List Str} {sp : Sp} {C : Addr} {p pos apos : Pos} {e o : Expr} {es : List Expr} {t : TA} {to : TE}
theorem JH (G : FnG X.prog X.w X.K X.mg X.base x k ps sp) (hr : Room k X.A) (ha : PA X (e :: es) t) (hg : Gl X x:=by rfl) (hdb : (x == ("__debug__" : Str)) = false:=by decide)
  (he : starEach (e :: es) X.env = (false,eval e X.env) :: starEach es X.env:=by rfl) (hpl : (backTo pos (starEach es X.env)).any (·.1) = false:=by rfl) : PE X (.Call (.Name x p) (e :: es) [] pos) (J97 sp [] E0 t):=by
 obtain ⟨f,fd,a,b,c,d⟩:=G
 exact J8Y a hr hg b c d .nil Jaf ha hdb he hpl
noncomputable def Jcm (P : Program) (w : World) (K : PySem.W.Frag) (mg : Str → Option Value) (base : Heap) (n : Nat) (m : Str) (ta : TE) (t : TA) : TE:=fun σ H Q=>ta σ H fun x H1=>∃ a C dx fs k ps sp,x = .ref a ∧ H1 a = some (.ins C dx fs) ∧ fs.lookup m = none ∧
 MtG P w K mg base C m k ps sp ∧ k ≤ n ∧ t σ H1 fun vs H2=>sp (x :: vs) H2 Q E0
theorem J4W {P : Program} {w : World} {K : PySem.W.Frag} {mg : Str → Option Value} {base : Heap} {n : Nat} {pl : Sem Bool} (hr : Room n X.A) (ho : PE X o to) (hP : X.prog = P) (hw : X.w = w) (hK : X.K = K) (hmg : X.mg = mg) (hbs : X.base = base)
  (ht : eval (.Call (.Attribute o m apos) [] [] pos) X.env = (do
   let ov ← eval o X.env
   standAt apos.atName
   let (f,first) ← holding [ov] (getMethod ov m pl)
   callWith pos f first (backTo pos (starEach [] X.env)) (backToKw pos (keywordEach [] X.env))):=by rfl) :
  PE X (.Call (.Attribute o m apos) [] [] pos) (Jcm P w K mg base n m to tNil):=by
 subst hP hw hK hmg hbs
 intro pins s σ H Q I h
 refine PySem.W.methodCall_KW (pl:=pl) (thn (ho pins s σ H _ I h) fun u s1 ⟨x,H1,I1,rx,a,C,dx,fs,k,ps,sp,ex,ea,l,G,hk,q⟩=>?_) ht
 have hr:=hr.mono hk
 obtain ⟨f,fd,F,c,hm,hb⟩:=G
 subst ex
 obtain rfl : u = Value.ref a:=rx
 refine J8r I1 ea c hm l ?_
 exact PySem.W.callWith_K0 (first:=[.ref a]) I1.kIn hm.kp (JaR (us:=[.ref a]) (vs:=[.ref a]) (E:=E0) F hr hb .nil Jaf I1 (.cons rfl .nil) (by rw [List.append_nil]; exact q))
theorem JbY {n : Str} {T : String} (hm : X.mg n = none) (hv : bootBuiltins n = some (.type T)) (hg : Gl X n:=by rfl) (hn : n ≠ "__name__":=by decide) (hd : (n == ("__debug__" : Str)) = false:=by decide) : PE X (.Name n pos) (tC (.ty T)) :=
 Jbb hg hm hv rfl hn hd
end
section
variable {X : Cx} {K : PySem.W.Frag}
theorem Jp (h : X.K = K) : IxR X (rIxL K):=h ▸ Jbw
theorem JF (h : X.K = K) : SlR X (rSlL K):=h ▸ Jbm
theorem JJ (h : X.K = K) : J1X X (.builtin "len") (fun xs H Q=>∃ p ys,xs = [.ref p] ∧ (SqL K H p ys ∨ SqT K H p ys) ∧ Q (.int ys.length) H):=h ▸ J6P
theorem J8o (hc : X.calm = true) (h : X.K = K) : J1X X (.builtin "all") (fun xs H Q=>∃ (D : Addr) (bs : List Bool),xs = [.ref D] ∧ SqL K H D (bs.map V.bl) ∧ Q (.bl (bs.all id)) H):=h ▸ J9D hc
theorem J0f {e : Expr} {f : Str} {ta : TE} {pos : Pos} (h : X.K = K) (he : PE X e ta) (hb : attributeBase e f X.env (eval e X.env) = eval e X.env) : PE X (.Attribute e f pos) (tFld K ta f):=h ▸ Jcj he hb
theorem J7R {o e : Expr} {to : TE} {t : TA} {apos cpos : Pos} (h : X.K = K) (ho : PE X o to) (ha : PA X [e] t)
  (hbase : attributeBase o "join" X.env (eval o X.env) = eval o X.env:=by rfl)
  (hfew : ((backTo cpos (starEach [e] X.env)).all (fun x=>!x.1) && (backToKw cpos (keywordEach [] X.env)).all (fun x=>x.1.isSome)
   && decide ([e].length + ([] : List Keyword).length + (if ([] : List Keyword).isEmpty then 0 else 1) < 30)) = true:=by rfl)
  (hline : (apos.endLine == cpos.line) = true:=by rfl) (hs : starEach [e] X.env = (false,eval e X.env) :: starEach [] X.env:=by rfl) (hplain : (backTo cpos (starEach [] X.env)).any (·.1) = false:=by rfl) :
  PE X (.Call (.Attribute o "join" apos) [e] [] cpos) (tBM K "str" (Ja7 K) to t):=h ▸ Jbs ho ha hbase hfew hline hs hplain
theorem J5E {tg l : Expr} {tl : TE} (h : X.K = K) (hl : PE X l tl) : PI X tg l (JbQ K tl):=h ▸ Jbf hl
end
theorem J2z : bootBuiltins "int" = some (.type "int"):=by decide +kernel
theorem J4h : bootBuiltins "str" = some (.type "str"):=by decide +kernel
theorem Jcu : bootBuiltins "all" = some (.builtin "all"):=by decide +kernel
theorem JK : bootBuiltins "isinstance" = some (.builtin "isinstance"):=by decide +kernel
theorem J81 {J : It} {H : Hp} {xs : List V} {σ0 : St} {k : Nat} {te : TE} {Q : VK} (Pe : V → V → Prop) (hJ : J7J J H xs) (hx : xs.length ≤ 1000000)
  (he : ∀ x ∈ xs,∀ H',Same H H' → ∀ R : VK,(∀ y H'',Pe x y → Same H' H'' → R y H'') → te (σ0.set k (some x)) H' R)
  (hQ : ∀ D H' ys,H D = none → Same H H' → ys.length = xs.length → (∀ (i : Nat) (x y : V),xs[i]? = some x → ys[i]? = some y → Pe x y) → H' D = some (.lst ys) → Q (.ref D) H') :
  J94 J H σ0 (J4z k) tYes te Q:=by
 intro D hD
 refine ⟨fun i m σ1 ys H'=>m = xs.length - i ∧ i ≤ xs.length ∧ (σ1 = σ0 ∨ ∃ v,σ1 = σ0.set k v) ∧ ys.length = i ∧ (∀ (j : Nat) (x y : V),xs[j]? = some x → ys[j]? = some y → Pe x y) ∧ H' D = some (.lst ys) ∧ Same H H',
  ⟨xs.length,by simp,Nat.zero_le _,.inl rfl,rfl,fun j x y _ h=>by simp at h,Jr,J0m hD _⟩,?_⟩
 rintro i m σ1 ys H' ⟨rfl,hi,hσ,hlen,hP,hDD,hs⟩
 by_cases hlt : i < xs.length
 ·refine .inr ⟨hJ.go i H' hs hlt,fun x H'' hy=>?_⟩
  obtain ⟨e1,hx1⟩:=hJ.yld i H' x H'' hs hlt hy
  subst e1
  have hm : x ∈ xs:=List.mem_of_getElem? hx1
  have hset : σ1.set k (some x) = σ0.set k (some x):=by
   rcases hσ with rfl | ⟨v,rfl⟩
   ·rfl
   ·rw [List.set_set]
  unfold J4z tYes
  dsimp only
  rw [hset]
  refine iteT ?_
  refine he x hm H'' hs _ fun y H4 hPy s4=>⟨s4 _ _ hDD,?_,xs.length - (i + 1),by omega,rfl,hlt,.inr ⟨_,rfl⟩,?_,?_,Jr,(hs.trans s4).upd hD⟩
  ·have : (1000001 : Nat) ≤ sizeLine:=by decide
   omega
  ·rw [List.length_append,List.length_singleton,hlen]
  ·intro j x' y' h1 h2
   by_cases hj : j < i
   ·rw [List.getElem?_append_left (by omega)] at h2
    exact hP j x' y' h1 h2
   ·have hji : j = i:=by
     have:=(List.getElem?_eq_some_iff.mp h2).1
     rw [List.length_append,List.length_singleton,hlen] at this
     omega
    subst hji
    rw [List.getElem?_append_right (by omega),hlen,Nat.sub_self] at h2
    rw [hx1] at h1
    cases h1
    have : y = y':=by simpa using h2
    subst this
    exact hPy
 ·have e : i = xs.length:=by omega
  subst e
  exact .inl ⟨hJ.stop H' hs,hQ D H' ys hD hs hlen hP hDD⟩
end L2
set_option linter.all false
set_option maxRecDepth 100000
set_option maxHeartbeats 4000000
namespace L2
open PySem PySem.Spec PyProof.Rows
theorem Vals.rel {xs : List V} {us : List Value} (r : Vals xs us) : ∀ (j : Nat) (h1 : j < xs.length) (h2 : j < us.length),RelV xs[j] us[j]:=by
 induction r with
 | nil=>intro j h1; simp at h1
 | cons a t ih =>
  intro j h1 h2
  cases j with
  | zero=>exact a
  | succ j=>exact ih j (by simpa using h1) (by simpa using h2)
noncomputable def eqVs : List V → List V → Bool
 | [],[]=>true
 | x :: xs,y :: ys=>eqV x y && eqVs xs ys
 | _,_=>false
theorem J80 : ∀ {xs ys : List V},xs.length ≠ ys.length → eqVs xs ys = false
 | [],[],h=>absurd rfl h
 | [],_ :: _,_=>rfl
 | _ :: _,[],_=>rfl
 | x :: xs,y :: ys,h=>by
  have : xs.length ≠ ys.length:=fun e=>h (by simp [e])
  rw [eqVs,J80 this,Bool.and_false]
theorem J5u : ∀ {xs ys : List V},xs.length = ys.length → (List.range xs.length).all (fun j=>eqV (xs.getD j .non) (ys.getD j .non)) = eqVs xs ys
 | [],[],_=>rfl
 | [],_ :: _,h=>by simp at h
 | _ :: _,[],h=>by simp at h
 | x :: xs,y :: ys,h=>by
  have h' : xs.length = ys.length:=by simpa using h
  rw [List.length_cons,List.range_succ_eq_map,List.all_cons,List.all_map,eqVs,← J5u h']
  rfl
section
variable {X : Cx} {K : PySem.W.Frag}
theorem Jab {A : Around} {s : Shared} {xs ys : List V} {ia ib : List Value} (ra : Vals xs ia) (rb : Vals ys ib) (fx : xs.all J3t = true) (fy : ys.all J3t = true) :
  ∀ j (h1 : j < ia.toArray.size) (h2 : j < ib.toArray.size),SeqAt.EqAt A s ia.toArray[j] ib.toArray[j] (eqV (xs.getD j .non) (ys.getD j .non)):=by
 intro j h1 h2
 have la:=ra.length
 have lb:=rb.length
 have g1 : j < ia.length:=by simpa using h1
 have g2 : j < ib.length:=by simpa using h2
 have e1 : xs.getD j .non = xs[j]'(by omega):=by rw [List.getD_eq_getElem?_getD,List.getElem?_eq_getElem (by omega)]; rfl
 have e2 : ys.getD j .non = ys[j]'(by omega):=by rw [List.getD_eq_getElem?_getD,List.getElem?_eq_getElem (by omega)]; rfl
 rw [e1,e2]
 have k1:=ra.rel j (by omega) g1
 have k2:=rb.rel j (by omega) g2
 have q:=Jcd (A:=A) (s:=s) k1 k2 (List.all_eq_true.mp fx _ (List.getElem_mem _)) (List.all_eq_true.mp fy _ (List.getElem_mem _))
 simpa using q
noncomputable def rEqL (K : PySem.W.Frag) (neg : Bool) : R2:=fun x y H Q=>∃ p r xs ys,x = .ref p ∧ y = .ref r ∧ SqL K H p xs ∧ SqL K H r ys ∧ xs.all J3t = true ∧ ys.all J3t = true ∧ Q (.bl (if neg then !eqVs xs ys else eqVs xs ys)) H
theorem J2U (h : X.K = K) (hu : X.A.units < cLine) : OpR X (compareOp .Eq) (rEqL K false):=by
 subst h
 intro pins s σ H x y v u Q I rx ry h
 obtain ⟨p,r,xs,ys,rfl,rfl,hp,hr,fx,fy,q⟩:=h
 cases rx; cases ry
 obtain ⟨ia,ra,pa,za⟩:=I.list hp
 obtain ⟨ib,rb,pb,zb⟩:=I.list hr
 have la:=ra.length
 have lb:=rb.length
 by_cases hsz : xs.length = ys.length
 ·refine SeqAt.eq_listAt (e:=fun j=>eqV (xs.getD j .non) (ys.getD j .non)) pa.isList pb.isList (by simp; omega) hu (Jab ra rb fx fy) ⟨.bl _,H,I,rfl,?_⟩
  rw [List.size_toArray,← la,J5u hsz]
  exact q
 ·refine SeqAt.eq_list_lengthsAt pa.isList pb.isList (by simp; omega) hu ⟨.bl false,H,I,rfl,?_⟩
  have q' : Q (.bl (eqVs xs ys)) H:=q
  rw [J80 hsz] at q'
  exact q'
end
end L2
set_option linter.all false
set_option maxRecDepth 100000
set_option maxHeartbeats 4000000
namespace L2
open PySem PySem.Spec PyProof.Rows
structure J4G (K : PySem.W.Frag) (C : Addr) : Prop where
 cl : Cls K C
 ha : PySem.W.findIn K (.ref C) "__class__" = some (some (.builtin "object.__class__"))
 hn : PySem.W.specialIn K (.builtin "object.__class__") "__get__" = some (some (.builtin "getset_descriptor.__get__"))
 htk : PySem.W.takesIn K (.builtin "object.__class__") = some true
 hm : PySem.W.mroIn K C (.type "object") = some true
section
variable {X : Cx} {K : PySem.W.Frag}
theorem J2O (h : X.K = K) : J1X X (.builtin "isinstance") (fun xs H Q=>∃ p D C dx fs b,xs = [.ref p,.ref D] ∧ H p = some (.ins C dx fs) ∧ J4G K C ∧ PySem.W.kitOne K (.ref C) (.ref D) = some b ∧ Q (.bl b) H):=by
 subst h
 intro pins s σ H xs us Q I r h
 obtain ⟨p,D,C,dx,fs,b,rfl,hp,ty,hk,q⟩:=h
 obtain ⟨u,v,rfl,r1,r2⟩:=r.two
 cases r2
 exact J9N I r1 (.ins hp ty.cl ty.ha ty.hn ty.htk ty.hm) hk fun tk=>⟨.bl b,H,I.tok _,rfl,q⟩
end
section
variable {prog : Program} {w : World} {A : Around} {E : Value → Shared → Prop} {s : Shared}
end
section
variable {X : Cx} {K : PySem.W.Frag} {pos : Pos}
end
end L2
set_option linter.all false
set_option maxRecDepth 100000
set_option maxHeartbeats 4000000
namespace L2
open PySem PySem.Spec PyProof.Rows
section
variable {X : Cx} {es : List Expr} {k : Nat} {tpos : Pos}
end
end L2
set_option linter.all false
set_option maxRecDepth 100000
set_option maxHeartbeats 4000000
namespace L2
open PySem PySem.Spec PyProof.Rows
section
variable {X : Cx} {elt tg iter : Expr} {ifs : List Expr} {scope : Scope} {pos : Pos} {N : List Str} {js : List (Option Nat)} {wi : TI} {g : TG} {tc : TT} {te : TE}
end
end L2
set_option linter.all false
namespace L2
open PySem PySem.StrLaws Builtin Builtin.Str
noncomputable def Ji (c : Nat) : List Nat → List (List Nat)
 | []=>[[]]
 | x :: r=>if x = c then [] :: Ji c r else match Ji c r with
  | h :: t=>(x :: h) :: t
  | []=>[[x]]
theorem J1o (c : Nat) : ∀ l,∃ h t,Ji c l = h :: t
 | []=>⟨_,_,rfl⟩
 | x :: r=>by
  obtain ⟨h,t,e⟩:=J1o c r
  unfold Ji
  split
  ·exact ⟨_,_,rfl⟩
  ·rw [e]; exact ⟨_,_,rfl⟩
noncomputable def isAt (l : List Nat) (c i : Nat) : Bool:=decide (l[i]? = some c)
theorem sub1 (l : List Nat) (c i : Nat) : subAt ⟨l.toArray⟩ ⟨#[c]⟩ i = isAt l c i:=by
 rw [subAt_eq]
 show ((l.drop i).take 1 == [c]) = isAt l c i
 unfold isAt
 rw [Bool.eq_iff_iff,take1_drop,decide_eq_true_iff]
theorem J5q (l : List Nat) (c hi limit : Nat) (hl : l.length ≤ hi) : ∀ (n a free : Nat) (arr : Array Nat),free ≤ a → arr.size + n ≤ limit →
  (forIn (List.range' a n) (arr,free) (occBody ⟨l.toArray⟩ ⟨#[c]⟩ hi limit)).run.fst.toList = arr.toList ++ (List.range' a n).filter (isAt l c)
 | 0,a,free,arr,_,_=>by simp
 | n + 1,a,free,arr,hf,hz=>by
  rw [List.range'_succ,List.forIn_cons]
  by_cases h : isAt l c a = true
  ·have hlt : a < l.length:=by
    unfold isAt at h
    exact (List.getElem?_eq_some_iff.mp (of_decide_eq_true h)).1
   have e : occBody ⟨l.toArray⟩ ⟨#[c]⟩ hi limit a (arr,free) = pure (ForInStep.yield (arr.push a,a + 1)):=by
    unfold occBody
    rw [if_pos]
    ·rfl
    ·refine ⟨⟨⟨by show arr.size < limit; omega,hf⟩,?_⟩,by rw [sub1]; exact h⟩
     show a + 1 ≤ hi
     omega
   rw [e,pure_bind]
   show (forIn (List.range' (a + 1) n) (arr.push a,a + 1) (occBody ⟨l.toArray⟩ ⟨#[c]⟩ hi limit)).run.fst.toList = _
   rw [J5q l c hi limit hl n (a + 1) (a + 1) (arr.push a) (Nat.le_refl _) (by rw [Array.size_push]; omega),List.filter_cons_of_pos h,Array.toList_push,List.append_assoc]
   rfl
  ·have e : occBody ⟨l.toArray⟩ ⟨#[c]⟩ hi limit a (arr,free) = pure (ForInStep.yield (arr,free)):=by
    unfold occBody
    rw [if_neg]
    rintro ⟨_,q⟩
    rw [sub1] at q
    exact h q
   rw [e,pure_bind]
   show (forIn (List.range' (a + 1) n) (arr,free) (occBody ⟨l.toArray⟩ ⟨#[c]⟩ hi limit)).run.fst.toList = _
   rw [J5q l c hi limit hl n (a + 1) free arr (by omega) (by omega),List.filter_cons_of_neg h]
theorem JbL (l : List Nat) (c : Nat) : occurrences ⟨l.toArray⟩ ⟨#[c]⟩ 0 l.length (l.length + 1) = (List.range' 0 (l.length + 1)).filter (isAt l c):=by
 rw [occ_eq]
 have:=J5q l c l.length (l.length + 1) (Nat.le_refl _) (l.length + 1) 0 0 #[] (Nat.le_refl _) (by simp)
 simpa using this
theorem J2A (l : List Nat) (i j : Nat) : strSub ⟨l.toArray⟩ i j = ⟨((l.drop i).take (j - i)).toArray⟩:=by
 apply Str.ext'
 apply Array.toList_inj.mp
 rw [strSub_toList]
theorem J7L (l : List Nat) (a x : Nat) (hx : l[a]? = some x) : ∀ (cuts : List Nat),(∀ i ∈ cuts,a + 1 ≤ i) → ∃ h t,partsFrom ⟨l.toArray⟩ 1 (a + 1) cuts = ⟨List.toArray h⟩ :: t ∧ partsFrom ⟨l.toArray⟩ 1 a cuts = ⟨(x :: h).toArray⟩ :: t:=by
 have hlt : a < l.length:=(List.getElem?_eq_some_iff.mp hx).1
 have key : ∀ j,a + 1 ≤ j → (l.drop a).take (j - a) = x :: (l.drop (a + 1)).take (j - (a + 1)):=fun j hj=>by
  rw [List.drop_eq_getElem_cons hlt,show j - a = (j - (a + 1)) + 1 by omega,List.take_succ_cons]
  congr 1
  rw [List.getElem?_eq_getElem hlt] at hx
  exact Option.some.inj hx
 intro cuts hc
 cases cuts with
 | nil =>
  refine ⟨(l.drop (a + 1)).take (l.length - (a + 1)),[],?_,?_⟩
  ·show [strSub ⟨l.toArray⟩ (a + 1) (⟨l.toArray⟩ : Str).length] = _
   rw [J2A]; simp [Str.length]
  ·show [strSub ⟨l.toArray⟩ a (⟨l.toArray⟩ : Str).length] = _
   rw [J2A,show (⟨l.toArray⟩ : Str).length = l.length by simp [Str.length],key _ hlt]
 | cons i r =>
  refine ⟨(l.drop (a + 1)).take (i - (a + 1)),partsFrom ⟨l.toArray⟩ 1 (i + 1) r,?_,?_⟩
  ·show strSub ⟨l.toArray⟩ (a + 1) i :: _ = _
   rw [J2A]
  ·show strSub ⟨l.toArray⟩ a i :: _ = _
   rw [J2A,key i (hc i List.mem_cons_self)]
theorem J4D (l : List Nat) (c : Nat) : ∀ (n a : Nat),a + n = l.length + 1 → 0 < n → partsFrom ⟨l.toArray⟩ 1 a ((List.range' a n).filter (isAt l c)) = (Ji c (l.drop a)).map fun w=>⟨w.toArray⟩
 | 0,_,_,h=>absurd h (Nat.lt_irrefl _)
 | n + 1,a,h,_=>by
  rw [List.range'_succ]
  cases hn : n with
  | zero =>
   have ha : a = l.length:=by omega
   have hno : isAt l c a = false:=by
    unfold isAt
    rw [List.getElem?_eq_none (by omega)]
    rfl
   rw [List.filter_cons_of_neg (by rw [hno]; exact Bool.false_ne_true),List.range'_zero,List.drop_eq_nil_of_le (by omega)]
   show [strSub ⟨l.toArray⟩ a (⟨l.toArray⟩ : Str).length] = [⟨([] : List Nat).toArray⟩]
   rw [J2A,List.drop_eq_nil_of_le (by omega)]
   simp
  | succ m =>
   have hlt : a < l.length:=by omega
   have ih:=J4D l c n (a + 1) (by omega) (by omega)
   rw [hn] at ih
   rw [List.drop_eq_getElem_cons hlt]
   by_cases hx : isAt l c a = true
   ·have hx' : l[a] = c:=by
     unfold isAt at hx
     have:=of_decide_eq_true hx
     rw [List.getElem?_eq_getElem hlt] at this
     exact Option.some.inj this
    rw [List.filter_cons_of_pos hx,Ji,if_pos hx',List.map_cons]
    show strSub ⟨l.toArray⟩ a a :: partsFrom ⟨l.toArray⟩ 1 (a + 1) _ = _
    rw [ih,J2A,Nat.sub_self,List.take_zero]
   ·have hx' : l[a] ≠ c:=fun e=>hx (by unfold isAt; rw [List.getElem?_eq_getElem hlt,e]; exact decide_eq_true rfl)
    rw [List.filter_cons_of_neg hx,Ji,if_neg hx']
    obtain ⟨h,t,e1,e2⟩:=J7L l a l[a] (List.getElem?_eq_getElem hlt) ((List.range' (a + 1) (m + 1)).filter (isAt l c)) (fun i hi=>by
     have:=(List.mem_filter.mp hi).1
     rw [List.mem_range'_1] at this
     exact this.1)
    rw [e2]
    rw [e1] at ih
    obtain ⟨sh,st,es⟩:=J1o c (l.drop (a + 1))
    rw [es] at ih ⊢
    rw [List.map_cons] at ih ⊢
    injection ih with i1 i2
    have i3 : h = sh:=by
     have:=congrArg (fun s : Str=>s.cps.toList) i1
     simpa using this
    rw [i3,i2]
theorem J7E (x : Str) : 1 ≤ Builtin.Str.strKind x:=by unfold Builtin.Str.strKind; split <;> (try split) <;> omega
theorem J9Q (l : List Nat) (c : Nat) (hc : c < 256) : Txt.split ⟨l.toArray⟩ ⟨#[c]⟩ = (Ji c l).map fun w=>⟨w.toArray⟩:=by
 have main : partsBetween ⟨l.toArray⟩ (occurrences ⟨l.toArray⟩ ⟨#[c]⟩ 0 l.length (l.length + 1)) 1 = (Ji c l).map fun w=>⟨w.toArray⟩:=by
  rw [partsBetween_eq,JbL,J4D l c (l.length + 1) 0 (by omega) (by omega),List.drop_zero]
 have hk : Builtin.Str.strKind ⟨#[c]⟩ = 1:=by unfold Builtin.Str.strKind; rw [if_pos]; simp [hc]
 have hlen : (⟨l.toArray⟩ : Str).length = l.length:=by simp [Str.length]
 unfold Txt.split
 rw [hlen]
 by_cases h0 : l.length < 1
 ·have : l = []:=List.length_eq_zero_iff.mp (by omega)
  subst this
  rw [if_pos (by rw [decide_eq_true (show ([] : List Nat).length < (⟨#[c]⟩ : Str).length from by simp [Str.length])]; rfl)]
  rfl
 ·rw [if_neg (by
   have h1:=J7E ⟨l.toArray⟩
   rw [hk,decide_eq_false (show ¬ l.length < (⟨#[c]⟩ : Str).length from h0),decide_eq_false (by omega)]
   exact Bool.false_ne_true)]
  by_cases he : (occurrences ⟨l.toArray⟩ ⟨#[c]⟩ 0 l.length (l.length + 1)).isEmpty = true
  ·rw [if_pos he]
   rw [List.isEmpty_iff.mp he] at main
   rw [← main]
   show [_] = [strSub ⟨l.toArray⟩ 0 (⟨l.toArray⟩ : Str).length]
   rw [sub_whole]
  ·rw [if_neg he]
   exact main
end L2
set_option linter.all false
set_option maxRecDepth 100000
set_option maxHeartbeats 4000000
namespace L2
open PySem PySem.Spec PyProof.Rows
noncomputable abbrev TF:=List Nat → St → Hp → VK → Prop
noncomputable def PF (X : Cx) (es : List Expr) (t : TF) : Prop:=∀ (pins : List (Addr × Obj)) (s : Shared) (σ : St) (H : Hp) (out : List Nat) (Q : VK),Inv X pins σ H s → t out σ H Q →
 wpAny (model X.prog X.w) X.A (joinParts ⟨out.toArray⟩ (evalEach es X.env)) (EP X pins σ Q) X.xe s
noncomputable def Jd6 : TF:=fun out _ H Q=>out.length ≤ sizeLine ∧ Q (T out) H
noncomputable def Jci (te : TE) (tr : TF) : TF:=fun out σ H Q=>te σ H fun x H1=>∃ y,x = T y ∧ (out ++ y).length ≤ sizeLine ∧ tr (out ++ y) σ H1 Q
section
variable {X : Cx} {e : Expr} {es : List Expr} {te : TE} {tr : TF} {pos : Pos}
theorem J50 : PF X [] Jd6:=by
 intro pins s σ H out Q I h
 exact joinParts_nil ⟨T out,H,I.tok _,⟨_,rfl⟩,h.2⟩ (by rw [J2k]; exact h.1)
theorem J05 (he : PE X e te) (hr : PF X es tr) (hs : evalEach (e :: es) X.env = eval e X.env :: evalEach es X.env:=by rfl) : PF X (e :: es) (Jci te tr):=by
 intro pins s σ H out Q I h
 rw [hs]
 refine joinParts_cons (thn (he pins s σ H _ I h) fun v s1 ⟨x,H1,I1,r1,y,e1,hz,q⟩=>?_)
 subst e1
 obtain ⟨t,rfl⟩:=r1
 refine ⟨by rw [J84,J2k]; exact hz,?_⟩
 rw [J84]
 exact hr pins s1 σ H1 _ Q I1 q
theorem J3C {x : Str} {l : List Nat} {j} (h : x = ⟨l.toArray⟩) : PE X (.Constant (.str x) j pos) (tC (T l)):=Jl h
noncomputable def tFs (te : TE) : TE:=fun σ H Q=>te σ H fun x H1=>∃ y,x = T y ∧ y.length ≤ sizeLine ∧ Q (T y) H1
theorem J3y (he : PE X e te) : PE X (.FormattedValue e (-1) none pos) (tFs te):=by
 intro pins s σ H Q I h
 refine FormattedValue_plain (thn (he pins s σ H _ I h) fun v s1 ⟨x,H1,I1,r1,y,e1,hz,q⟩=>?_)
 subst e1
 obtain ⟨t,rfl⟩:=r1
 exact formatField_str (fun t' tk=>⟨T y,H1,I1.tok _,⟨t',rfl⟩,q⟩) (by rw [J2k]; exact hz)
noncomputable def tFd (te : TE) : TE:=fun σ H Q=>te σ H fun x H1=>∃ n : Nat,x = .int n ∧ n ≤ 9 ∧ Q (T [48 + n]) H1
theorem J7D : ∀ n : Nat,n ≤ 9 → toString ((n : Nat) : Int) = (⟨[48 + n].toArray⟩ : Str):=by
 intro n hn
 have : n = 0 ∨ n = 1 ∨ n = 2 ∨ n = 3 ∨ n = 4 ∨ n = 5 ∨ n = 6 ∨ n = 7 ∨ n = 8 ∨ n = 9:=by omega
 rcases this with rfl | rfl | rfl | rfl | rfl | rfl | rfl | rfl | rfl | rfl <;> decide +kernel
theorem J8N {n : Nat} (h : n ≤ 9) : ((n : Int).natAbs).log2 < 1920:=by
 have : n = 0 ∨ n = 1 ∨ n = 2 ∨ n = 3 ∨ n = 4 ∨ n = 5 ∨ n = 6 ∨ n = 7 ∨ n = 8 ∨ n = 9:=by omega
 rcases this with rfl | rfl | rfl | rfl | rfl | rfl | rfl | rfl | rfl | rfl <;> decide +kernel
theorem JaA (he : PE X e te) : PE X (.FormattedValue e (-1) none pos) (tFd te):=by
 intro pins s σ H Q I h
 refine FormattedValue_plain (thn (he pins s σ H _ I h) fun v s1 ⟨x,H1,I1,r1,n,e1,hn,q⟩=>?_)
 subst e1
 obtain ⟨t,rfl⟩:=r1
 exact formatField_int_small (J8N hn) ⟨T [48 + n],H1,I1.tok _,⟨_,by rw [J7D n hn]⟩,q⟩
theorem J4T {e1 e2 : Expr} (h : PF X (e1 :: e2 :: es) tr) : PE X (.JoinedStr (e1 :: e2 :: es) pos) (tr []):=by
 intro pins s σ H Q I hw
 exact JoinedStr_many (h pins s σ H [] Q I hw)
theorem J3u : J1X X (.type "str") (fun xs H Q=>∃ n : Nat,xs = [.int n] ∧ n ≤ 9 ∧ Q (T [48 + n]) H):=by
 intro pins s σ H xs us Q I r h
 obtain ⟨n,rfl,hn,q⟩:=h
 refine J6Y pins s σ H _ us Q I r ⟨_,rfl,J8N hn,?_⟩
 rw [J7D n hn]
 exact q
noncomputable def JaG : V → List V → Hp → VK → Prop:=fun x vs H Q=>∃ l c,x = T l ∧ vs = [T [c]] ∧ c < 256 ∧ l.length ≤ 100000 ∧ ∀ p,H p = none → Q (.ref p) (upd H p (.lst ((Ji c l).map T)))
theorem J2Q (c : Nat) : ∀ l,(Ji c l).length ≤ l.length + 1
 | []=>by simp [Ji]
 | x :: r=>by
  have ih:=J2Q c r
  obtain ⟨h,t,e⟩:=J1o c r
  unfold Ji
  split
  ·simp; omega
  ·rw [e] at ih ⊢; simp at ih ⊢; omega
theorem J62 : ∀ (ws : List (List Nat)) (k : Nat),Vals (ws.map T) (strsFrom k (ws.map fun w=>⟨w.toArray⟩))
 | [],_=>.nil
 | w :: r,k=>.cons ⟨_,rfl⟩ (J62 r (k + 1))
theorem JaI : MtR X "str.split" JaG:=by
 intro pins s σ H x vs v us Q I rx rv h
 obtain ⟨l,c,rfl,rfl,hc,hl,q⟩:=h
 obtain ⟨t,rfl⟩:=rx
 obtain ⟨u,rfl,ru⟩:=rv.one
 obtain ⟨t2,rfl⟩:=ru
 have hsp:=J9Q l c hc
 have hlen : (⟨l.toArray⟩ : Str).length = l.length:=J2k l
 have fin : ∀ (its : List Value) (tk : Nat),Vals ((Ji c l).map T) its → EP X pins σ Q (.ref s.heap.objs.size) { s with heap:=s.heap.push { cls:=.type "list",data:=.seq its.toArray },toks:=tk }:=fun its tk hv =>
  ⟨.ref s.heap.objs.size,_,I.lnew (t':=tk) hv (by rw [List.length_map]; have:=J2Q c l; have : (100001 : Nat) ≤ sizeLine:=(by decide); omega),rfl,q _ (I.hok.fresh (Nat.le_refl _))⟩
 have hy : ((⟨#[c]⟩ : Str).length == 0) = false:=by rfl
 have one : (Ji c l).map (fun w=>(⟨w.toArray⟩ : Str)) = [⟨l.toArray⟩] → Vals ((Ji c l).map T) [.str ⟨l.toArray⟩ t]:=fun e=>by
  have : Ji c l = [l]:=by
   obtain ⟨a,b,e2⟩:=J1o c l
   rw [e2,List.map_cons] at e
   injection e with e3 e4
   have e5 : a = l:=by simpa using congrArg (fun s : Str=>s.cps.toList) e3
   have e6 : b = []:=by simpa using e4
   rw [e2,e5,e6]
  rw [this]
  exact .cons ⟨_,rfl⟩ .nil
 by_cases h1 : (decide ((⟨l.toArray⟩ : Str).length < (⟨#[c]⟩ : Str).length) || decide (Builtin.Str.strKind ⟨l.toArray⟩ < Builtin.Str.strKind ⟨#[c]⟩)) = true
 ·refine call_meets F.slot_str_split (typeIs_str _ _ _) F.entry_str_split (F.args_str_split_2 _ _) (meets_str_split_cannot_occur ⟨l.toArray⟩ ⟨#[c]⟩ t t2 h1) (fin _ s.toks (one ?_))
  rw [← hsp]; unfold Txt.split; rw [if_pos h1]
 ·have h1':=Bool.eq_false_iff.mpr h1
  by_cases hf : (Builtin.Str.occurrences ⟨l.toArray⟩ ⟨#[c]⟩ 0 (⟨l.toArray⟩ : Str).length ((⟨l.toArray⟩ : Str).length + 1)).isEmpty = true
  ·refine call_meets F.slot_str_split (typeIs_str _ _ _) F.entry_str_split (F.args_str_split_2 _ _) (meets_str_split_not_found ⟨l.toArray⟩ ⟨#[c]⟩ t t2 h1' hy hf) (fin _ s.toks (one ?_))
   rw [← hsp]; unfold Txt.split; rw [if_neg h1,if_pos hf]
  ·have hf':=Bool.eq_false_iff.mpr hf
   have e : Builtin.Str.partsBetween ⟨l.toArray⟩ (Builtin.Str.occurrences ⟨l.toArray⟩ ⟨#[c]⟩ 0 (⟨l.toArray⟩ : Str).length ((⟨l.toArray⟩ : Str).length + 1)) (⟨#[c]⟩ : Str).length = (Ji c l).map fun w=>⟨w.toArray⟩:=by
    rw [← hsp]; unfold Txt.split; rw [if_neg h1,if_neg hf]
   refine call_meets F.slot_str_split (typeIs_str _ _ _) F.entry_str_split (F.args_str_split_2 _ _) (meets_str_split_sep ⟨l.toArray⟩ ⟨#[c]⟩ t t2 h1' hy hf' ?_ ?_) ?_
   ·rw [hlen]; exact Nat.le_trans hl (by decide)
   ·rw [e,List.length_map]; have:=J2Q c l; have : (100001 : Nat) ≤ sizeLine:=by decide
    omega
   ·rw [e]
    exact fin _ _ (J62 _ _)
theorem J3m {K : PySem.W.Frag} {o e : Expr} {to : TE} {t : TA} {apos cpos : Pos} (h : X.K = K) (ho : PE X o to) (ha : PA X [e] t)
  (hbase : attributeBase o "split" X.env (eval o X.env) = eval o X.env:=by rfl)
  (hfew : ((backTo cpos (starEach [e] X.env)).all (fun x=>!x.1) && (backToKw cpos (keywordEach [] X.env)).all (fun x=>x.1.isSome)
   && decide ([e].length + ([] : List Keyword).length + (if ([] : List Keyword).isEmpty then 0 else 1) < 30)) = true:=by rfl)
  (hline : (apos.endLine == cpos.line) = true:=by rfl) (hs : starEach [e] X.env = (false,eval e X.env) :: starEach [] X.env:=by rfl) (hplain : (backTo cpos (starEach [] X.env)).any (·.1) = false:=by rfl) :
  PE X (.Call (.Attribute o "split" apos) [e] [] cpos) (tBM K "str" JaG to t):=h ▸ J64 F.plainAttrs_str F.slot_str_split F.type_str_split JaI ho ha hbase hfew hline hs hplain
end
end L2
set_option linter.all false
set_option maxRecDepth 100000
set_option maxHeartbeats 4000000
namespace L2
open PySem PySem.Spec PyProof.Rows
section
variable {X : Cx} {x m : Str} {k : Nat} {ps : List Str} {sp : Sp} {C : Addr} {p pos apos : Pos} {e o : Expr} {es : List Expr} {t : TA} {to : TE}
theorem J4j {r : List V → Hp → VK → Prop} (G : MkG X.prog X.w X.K X.mg X.base C x k ps sp) (hr : Room (k + 1) X.A)
  (imp : ∀ vs H Q,r vs H Q → ∀ x dx,H x = none → H dx = none → dx ≠ x → sp (.ref x :: (vs ++ [])) (upd (upd H dx (.own x)) x (.ins C dx [])) (fun v H2=>v = .non ∧ Q (.ref x) H2) E0)
  (ha : PA X (e :: es) t) (hg : Gl X x:=by rfl) (hdb : (x == ("__debug__" : Str)) = false:=by decide)
  (he : starEach (e :: es) X.env = (false,eval e X.env) :: starEach es X.env:=by rfl) (hpl : (backTo pos (starEach es X.env)).any (·.1) = false:=by rfl) : PE X (.Call (.Name x p) (e :: es) [] pos) (tCB r t):=by
 obtain ⟨f,fd,a,M,hm,hb⟩:=G
 intro pins s σ H Q I h
 refine wpAny_Call_Name_kw (J3f I hg hm ?_ hdb)
 refine PySem.W.callWith_K (h₀:=X.base) I.ok.mod.kin M.kp (thn (ha pos pins s σ H _ I h) fun us s1 ⟨vs,H1,I1,rv,q⟩=>⟨I1.kIn,?_⟩) he hpl
 exact Jao M a hr hb .nil Jaf I1 rv (imp vs H1 Q q)
end
end L2
set_option linter.all false
set_option maxRecDepth 100000
set_option maxHeartbeats 4000000
namespace L2
open PySem PySem.Spec PyProof.Rows
section
variable {α : Type} {P : α → V → Hp → Prop} {H H' : Hp}
end
section
variable {X : Cx} {K : PySem.W.Frag}
end
end L2
set_option linter.all false
set_option maxRecDepth 100000
set_option maxHeartbeats 4000000
namespace L2
open PySem PySem.Spec PyProof.Rows
noncomputable def Iel (K : PySem.W.Frag) (l : Addr) : It :=
  ⟨fun i H=>∃ xs x,SqL K H l xs ∧ xs[i]? = some x,
   fun i H v H'=>∃ p x,H p = none ∧ (∀ xs,SqL K H l xs → xs[i]? = some x) ∧ v = .ref p ∧ H' = upd H p (.tup [.int i,x]),
   fun i H=>∃ xs,SqL K H l xs ∧ xs.length ≤ i⟩
theorem J8C {P : Program} {w : World} {K : PySem.W.Frag} {es : List Expr} {k : Nat} {pos : Pos} {z it l : Addr} (zi : z ≠ it) :
  Turn P w K (.Tuple es k pos) (Iel K l) [z,it] z (fun i h=>(∃ old,IsEnum h z it (i : Int) old) ∧ h.IsListIter it l i) where
 mem:=by simp
 obj:=fun i h st b hb=>by
  obtain ⟨⟨old,hz⟩,o1,e1,c1,d1⟩:=st
  simp only [List.mem_cons,List.not_mem_nil,or_false] at hb
  rcases hb with rfl | rfl
  ·exact ⟨_,hz,fun v q=>by cases q⟩
  ·exact ⟨o1,e1,fun v q=>by rw [d1] at q; cases q⟩
 keep:=fun i h h' st kk=>by
  obtain ⟨⟨old,hz⟩,o1,e1,r1⟩:=st
  exact ⟨⟨old,kk z (by simp) _ hz⟩,⟨o1,kk it (by simp) _ e1,r1⟩⟩
 item:=by
  intro X hP hw hK hc i pins s σ H E I hf st hg
  subst hP hw hK
  obtain ⟨⟨old,hz⟩,h1⟩:=st
  obtain ⟨xs,x,hq1,hx⟩:=hg
  obtain ⟨ia,ra,pa,_⟩:=I.list hq1
  obtain ⟨u,hu,ru⟩:=ra.get hx
  refine wpAny_pyNext_enum_item hz h1 pa.isList (x:=u) (by simpa using hu) zi fun h' a1 a2 a3 a4 kp=>?_
  refine ⟨_,rfl,?_⟩
  refine wpAny_letOwnedTupleGo_enum (s:={ s with heap:=h',toks:=s.toks + 1 }) a1 fun h2' hz' hs'=>?_
  replace hs' : Heap.SameBut z h' h2':=hs'
  have zlt : z < s.heap.objs.size:=Heap.lt_size hz
  have far : ∀ q ∈ [z,it],q < s.heap.objs.size:=by
   intro q hq
   obtain ⟨o1,e1,_⟩:=h1
   simp only [List.mem_cons,List.not_mem_nil,or_false] at hq
   rcases hq with rfl | rfl
   ·exact zlt
   ·exact Heap.lt_size e1
  have fz:=hf z (by simp)
  have f1:=hf it (by simp)
  have keepAll : ∀ b o,b ≠ z → b ≠ it → s.heap.get? b = some o → h2'.get? b = some o:=fun b o b1 b2 e=>hs'.extBut _ _ b1 (kp b o b1 b2 e)
  have hnew : H s.heap.objs.size = none:=I.hok.fresh (Nat.le_refl _)
  have Tz : s.heap.objs.size ≠ z:=Nat.ne_of_gt zlt
  have ht2 : h2'.get? s.heap.objs.size = some { cls:=.type "tuple",data:=.seq #[.int i s.toks,u] }:=hs'.extBut _ _ Tz a3
  have I2 : Inv X pins σ (upd H s.heap.objs.size (.tup [.int i,x])) { s with heap:=h2',toks:=s.toks + 1 }:=by
   have there : ∀ q ∈ [z,it],∃ o',h2'.get? q = some o':=by
    intro q hq
    obtain ⟨o1,e1,_⟩:=a2
    simp only [List.mem_cons,List.not_mem_nil,or_false] at hq
    rcases hq with rfl | rfl
    ·exact ⟨_,hz'⟩
    ·exact ⟨_,hs'.extBut _ _ zi.symm e1⟩
   have nch : ∀ b,b ∉ [z,it] → b ≠ z ∧ b ≠ it:=fun b hb=>by
    simp only [List.mem_cons,List.not_mem_nil,or_false,not_or] at hb
    exact hb
   have trk : ∀ b u',H b = some u' → b ≠ z ∧ b ≠ it:=fun b u' e =>
    ⟨fun q=>(by rw [q,fz.1] at e; cases e),fun q=>(by rw [q,f1.1] at e; cases e)⟩
   have okH : HOk X.prog X.w (upd H s.heap.objs.size (.tup [.int i,x])) h2':=fun b u' e=>by
    by_cases hb : b = s.heap.objs.size
    ·subst hb
     rw [Jr] at e
     cases e
     exact ⟨(show 2 ≤ sizeLine by decide),[.int i s.toks,u],.cons ⟨_,rfl⟩ (.cons ru .nil),⟨_,ht2,rfl,_,rfl⟩⟩
    ·rw [JX hb] at e
     have hx:=I.hok b u' e
     refine hx.stay (fun q o hq e2=>?_) (fun q e2=>?_) (fun q xs e2=>?_)
     ·rcases hq with rfl | hq
      ·obtain ⟨b1,b2⟩:=trk q _ e
       exact keepAll q o b1 b2 e2
      ·obtain ⟨b1,b2⟩:=trk q _ hq
       exact keepAll q o b1 b2 e2
     ·rw [JX (J03 e2 hnew)]; exact e2
     ·rw [JX (J03 e2 hnew)]; exact e2
   refine I.step (g':=s.gens) (d':=s.drawn) (ch:=[z,it]) (fun b hb=>?_) (fun b o _ _ hcb e n=>?_) (fun b o _ _ hcb e n=>?_) (fun b o hcb e n=>?_) (fun b o hcb e=>?_) (fun b xs e=>?_) (fun b o u' e=>?_) (fun b ps e=>?_) (fun m hm=>?_) okH I.bare
   ·simp only [List.mem_cons,List.not_mem_nil,or_false] at hb
    rcases hb with rfl | rfl
    ·exact ⟨fz.2.2.2.1,fz.2.1,fz.2.2.2.2.1,fz.2.2.2.2.2⟩
    ·exact ⟨f1.2.2.2.1,f1.2.1,f1.2.2.2.2.1,f1.2.2.2.2.2⟩
   ·obtain ⟨b1,b2⟩:=nch b hcb
    exact keepAll b o b1 b2 e
   ·obtain ⟨b1,b2⟩:=nch b hcb
    exact ⟨o.slots,keepAll b o b1 b2 e⟩
   ·rw [JX (Nat.ne_of_lt (Heap.lt_size e))]; exact n
   ·obtain ⟨b1,b2⟩:=nch b hcb
    exact ⟨o,keepAll b o b1 b2 e⟩
   ·rw [JX (J03 e hnew)]; exact e
   ·rw [JX (J03 e hnew)]; exact e
   ·exact ⟨#[],by rw [JX (J03 e hnew),e]; simp⟩
   ·obtain ⟨o,es',ep,ho,r⟩:=hm
    exact ⟨o,es',ep,keepAll _ o fz.2.1.symm f1.2.1.symm ho,r⟩
  refine ⟨.ref s.heap.objs.size,_,I2,rfl,⟨_,x,hnew,fun zs hz=>by rw [I.list_inj hz hq1]; exact hx,rfl,rfl⟩,⟨⟨_,by rw [Int.natCast_add]; exact hz'⟩,?_⟩,fun b hb=>?_⟩
  ·obtain ⟨o,e,r⟩:=a2; exact ⟨o,hs'.extBut _ _ zi.symm e,r⟩
  ·rw [JX (Nat.ne_of_lt (far b hb))]; exact (hf b hb).1
 done:=by
  intro X hP hw hK hc i pins s σ H E I hf st hg
  subst hP hw hK
  obtain ⟨⟨old,hz⟩,h1⟩:=st
  obtain ⟨xs,hq1,hg⟩:=hg
  obtain ⟨ia,ra,pa,_⟩:=I.list hq1
  have la:=ra.length
  obtain ⟨f0,f1,f2,f3,f4,f5⟩:=hf it (by simp)
  refine wpAny_pyNext_enum_end (I.ok.hd hc) hz h1 pa.isList (by simp; omega) fun h' eb=>⟨rfl,I.turned (t':=s.toks) (fun b o hb e=>eb b o hb e) f0 f1 f3 f4 f5⟩
 self:=fun _ _ _ _ _ st h=>by
  obtain ⟨⟨old,hz⟩,_⟩:=st
  exact wpAny_pyIter_enum hz h
section
variable {X : Cx} {es : List Expr} {k : Nat} {tpos : Pos}
noncomputable def Ja6 (K : PySem.W.Frag) (ta : TA) : TI:=fun σ H R=>ta σ H fun vs H1=>∃ a,vs = [.ref a] ∧ (∃ xs,SqL K H1 a xs) ∧ R (Iel K a) H1
theorem JaL {a : Expr} {ta : TA} {p pos : Pos} (hg : Gl X "enumerate") (hm : X.mg "enumerate" = none) (ha : PA X [a] ta) (hv : bootBuiltins "enumerate" = some (.type "enumerate"):=by decide +kernel) (hs : starEach [a] X.env = [(false,eval a X.env)]:=by rfl) :
  PI X (.Tuple es k tpos) (.Call (.Name "enumerate" p) [a] [] pos) (Ja6 X.K ta):=by
 intro pins s σ H R I h
 refine Call_ (J4k I hg hm hv (PyProof.Rows.callWith_type1 (thn (ha pos pins s σ H _ I h) fun us s1 ⟨vs,H1,I1,r1,q1⟩=>?_) (by rw [hs]; rfl) (by rfl)))
 obtain ⟨l1,e,⟨xs,hq1⟩,q⟩:=q1
 subst e
 obtain ⟨u,rfl,ru⟩:=r1.one
 cases ru
 obtain ⟨ia,ra,pa,_⟩:=I1.list hq1
 refine call_enumerate_list pa.isList fun h' a1 a2 a3 kp=>?_
 have I2 : Inv X pins σ H1 { s1 with heap:=h' }:=I1.kept (t':=s1.toks) kp
 refine wpAny_pyIter_enum a1 ⟨s1.heap.objs.size + 1,[s1.heap.objs.size + 1,s1.heap.objs.size],_,_,H1,rfl,I2,J8C (Nat.ne_of_gt (Nat.lt_succ_self _)),⟨⟨_,a1⟩,a2⟩,fun b hb=>?_,q⟩
 have hb' : s1.heap.objs.size ≤ b:=by
  simp only [List.mem_cons,List.not_mem_nil,or_false] at hb
  rcases hb with rfl | rfl
  ·exact Nat.le_add_right _ _
  ·exact Nat.le_refl _
 exact I1.fpOk hb' (I1.hok.fresh hb')
theorem J9I {K : PySem.W.Frag} {a : Expr} {ta : TA} {p pos : Pos} (h : X.K = K) (hg : Gl X "enumerate") (hm : X.mg "enumerate" = none) (ha : PA X [a] ta) (hv : bootBuiltins "enumerate" = some (.type "enumerate"):=by decide +kernel) (hs : starEach [a] X.env = [(false,eval a X.env)]:=by rfl) :
  PI X (.Tuple es k tpos) (.Call (.Name "enumerate" p) [a] [] pos) (Ja6 K ta):=h ▸ JaL hg hm ha hv hs
end
theorem J9z {K : PySem.W.Frag} {a : Addr} {xs : List V} {g : TG} {tb : TS} {D : Ends} {σ : St} {H : Hp} (Pv : Nat → St → Hp → Prop) (h0 : Pv 0 σ H) (hl : ∀ i σ H,i ≤ xs.length → Pv i σ H → SqL K H a xs)
  (hs : ∀ i x p σ H,xs[i]? = some x → H p = none → Pv i σ H → g (.ref p) σ (upd H p (.tup [.int i,x])) fun σ2 H2=>tb { D with nx:=Pv (i + 1),ct:=Pv (i + 1),bk:=D.nx } σ2 H2) (hd : ∀ σ H,Pv xs.length σ H → D.nx σ H) :
  ∃ W : Nat → Nat → St → Hp → Prop,(∃ m,W 0 m σ H) ∧ ∀ i m σ H,W i m σ H →
   ((Iel K a).stop i H ∧ D.nx σ H) ∨ ((Iel K a).go i H ∧ ∃ N : St → Hp → Prop,(∀ σ' H',N σ' H' → ∃ m',m' < m ∧ W (i + 1) m' σ' H') ∧ ∀ x H',(Iel K a).yld i H x H' → g x σ H' fun σ2 H2=>tb { D with nx:=N,ct:=N,bk:=D.nx } σ2 H2):=by
 refine ⟨fun i m σ H=>m = xs.length - i ∧ i ≤ xs.length ∧ Pv i σ H,⟨xs.length,by simp,Nat.zero_le _,h0⟩,?_⟩
 rintro i m σ H ⟨rfl,hi,p⟩
 have q:=hl i σ H hi p
 by_cases hlt : i < xs.length
 ·refine .inr ⟨⟨xs,xs[i],q,by simp [hlt]⟩,Pv (i + 1),fun σ' H' p'=>⟨xs.length - (i + 1),by omega,rfl,hlt,p'⟩,fun x H' y=>?_⟩
  obtain ⟨r,u,hr,e1,rfl,rfl⟩:=y
  exact hs i u r σ H (e1 xs q) hr p
 ·have e : i = xs.length:=by omega
  subst e
  exact .inl ⟨⟨xs,q,Nat.le_refl _⟩,hd σ H p⟩
end L2
set_option linter.all false
set_option maxRecDepth 100000
set_option maxHeartbeats 4000000
namespace L2
open PySem PySem.Spec PyProof.Rows
section
variable {X : Cx} {K : PySem.W.Frag} {pins : List (Addr × Obj)} {s : Shared} {σ : St} {H : Hp} {A : Around}
end
end L2
set_option linter.all false
set_option maxRecDepth 100000
set_option maxHeartbeats 4000000
namespace L2
open PySem PySem.Spec PyProof.Rows
@[irreducible] def tCut (t : TS) : TS:=fun D σ H=>∃ R : St → Hp → Prop,t { D with nx:=R } σ H ∧ ∀ σ' H',R σ' H' → D.nx σ' H'
theorem tCut.mk {t : TS} {D : Ends} {σ : St} {H : Hp} (R : St → Hp → Prop) (h : t { D with nx:=R } σ H) (h' : ∀ σ' H',R σ' H' → D.nx σ' H') : tCut t D σ H:=by unfold tCut; exact ⟨R,h,h'⟩
section
variable {X : Cx} {K : PySem.W.Frag}
theorem J2T {st : Stmt} {t : TS} (h : PS X st t) : PS X st (tCut t):=by
 intro pins s σ H D I q
 unfold tCut at q
 obtain ⟨R,h1,h2⟩:=q
 refine thn (h pins s σ H _ I h1) fun f s' z=>?_
 cases f with
 | next=>obtain ⟨σ',H',I',r⟩:=z; exact ⟨σ',H',I',h2 σ' H' r⟩
 | brk=>exact z
 | cont=>exact z
 | ret u=>exact z
end
end L2
namespace L2
open PySem PySem.Spec PyProof.Rows
section
variable {α β : Type} {H : Hp}
end
end L2
set_option linter.all false
set_option maxRecDepth 100000
set_option maxHeartbeats 4000000
namespace L2
open PySem PySem.Spec PyProof.Rows
noncomputable def CX1 (P : Program) (w : World) : CXT:=fun outer H s E ev s'=>∃ (a C : Addr) (a0 : Value) (H' : Hp) (B : Heap),ev = .ref a ∧ s'.os = s.os ∧ AllBare s'.gens ∧ Un (frs outer) [] H H' s.heap s'.heap ∧ HOk P w H' s'.heap ∧
 Heap.FlyingW B outer a (.ref C) a0 s'.heap ∧ (∀ b o,s.heap.get? b = some o → H b = none → b ∉ frs outer → B.get? b = some o) ∧ (∀ b o u,H' b = some u → s'.heap.get? b = some o → B.get? b = some o) ∧
 (∀ b o,s.heap.get? b = some o → b ∉ frs outer → ∃ o',B.get? b = some o') ∧ H' a = none ∧ E (.ref C) none H'
theorem J3z {P : Program} {w : World} {H : Hp} {h : Heap} {a : Addr} {o : HO} (x : J0X P w H h a o) : ∃ ob,h.get? a = some ob:=by
 cases o with
 | lst xs=>obtain ⟨_,_,_,_,e⟩:=x; exact ⟨_,e⟩
 | tup xs=>obtain ⟨_,_,_,o,e,_⟩:=x; exact ⟨_,e⟩
 | dK kvs=>obtain ⟨_,_,_,_,o,_,_,e,_⟩:=x; exact ⟨_,e⟩
 | dT kvs=>obtain ⟨_,_,_,_,o,_,_,e,_⟩:=x; exact ⟨_,e⟩
 | set S n=>obtain ⟨o,_,_,_,e,_⟩:=x; exact ⟨_,e⟩
 | ins C dx fs=>obtain ⟨_,_,_,e,_⟩:=x; exact ⟨_,e⟩
 | own y=>exact x
 | xd fs=>obtain ⟨_,⟨_,_,_,e,_⟩,_⟩:=x; exact ⟨_,e⟩
 | rng lo hi=>obtain ⟨_,_,_,e⟩:=x; exact ⟨_,e⟩
 | frz ob u=>obtain ⟨e,_⟩:=x; exact ⟨_,e⟩
 | tbl ps=>exact ⟨_,(show h.get? a = some _ from x)⟩
 | met f y=>exact ⟨_,(show h.get? a = some _ from x)⟩
 | ext φ=>obtain ⟨_,e,_⟩:=x; exact e
section
variable {X : Cx} {pins : List (Addr × Obj)} {σ : St} {H : Hp} {s : Shared} {E : XK} {Ex : Value → Shared → Prop}
theorem Inv.oldfr (I : Inv X pins σ H s) {b : Addr} {o : Obj} (q : X.s₀.heap.get? b = some o) (hb : b ∈ frs X.stack) : b ∈ X.fs:=by
 rcases List.mem_cons.mp (I.stkSub b hb) with e | e
 ·exact absurd (Nat.lt_of_lt_of_le (Heap.lt_size q) I.ok.above) (by rw [e]; exact Nat.lt_irrefl _)
 ·exact e
theorem J71 (I : Inv X pins σ H s) (hex : X.ex = []) (hst : X.stack = X.env :: X.outer) (hfr : X.env.frame = some X.env.locals) {h' : Heap} {e C : Addr} {vs : List Value} (hx : Heap.MadeExcOf s.heap h' e (.ref C) vs) (q : E (.ref C) none H) :
  wpAny (model X.prog X.w) X.A (leaving X.env (.ref e)) (fun _ s''=>CX1 X.prog X.w X.outer X.H₀ X.s₀ E (.ref e) s'') Ex { s with heap:=h' }:=by
 have hs:=I.stack
 rw [hst] at hs
 have nex : ∀ b : Addr,b ∉ X.ex:=fun b z=>by rw [hex] at z; simp at z
 refine wpAny_leaves_madeW (base:=PySem.W.hideAll s.heap (frs (X.env :: X.outer))) (h:=s.heap) (by rw [I.ok.frames,hst]) hfr (fun b o q=>PySem.W.of_hideAll _ q) (PySem.W.funFrames_hide hs fun env he b hb=>List.mem_filterMap.mpr ⟨env,he,hb⟩) hx fun h2 t x1 x2 x3 x4=>?_
 replace x4 : h'.UpToSlots h2:=x4
 have inB : ∀ b o,s.heap.get? b = some o → b ∉ frs X.stack → (PySem.W.hideAll s.heap (frs (X.env :: X.outer))).get? b = some o:=fun b o q nb=>PySem.W.hideAll_get _ q (by rw [← hst]; exact nb)
 have prot : ∀ b o,s.heap.get? b = some o → b ∉ frs X.stack → h2.get? b = some o:=fun b o q nb=>x1.1 b o (inB b o q nb)
 have slots : ∀ b o,s.heap.get? b = some o → b ∈ X.fs → ∃ sl,h2.get? b = some { o with slots:=sl }:=fun b o q hb=>by
  obtain ⟨_,o',ho',hd⟩:=I.funs.mem hb
  rw [q] at ho'
  cases ho'
  exact x4 b o (hx.keeps b o q) hd
 have trk : ∀ b u,H b = some u → b ∉ frs X.stack:=fun b u e hb=>by rw [I.stkFree b hb] at e; cases e
 refine ⟨e,C,.ref t,H,_,rfl,I.os,I.bare,⟨fun b o q n nb _=>?_,fun b o q n hb _=>?_,fun b o q n _=>I.base.free b o q n (nex b),fun b o q _=>?_,I.base.tups,I.base.frzs,I.base.tbls⟩,fun b u e=>?_,x1,fun b o q n nb=>?_,fun b o u e q=>?_,fun b o q nb=>?_,?_,q⟩
 ·exact prot b o (I.base.keep b o q n nb (nex b)) fun z=>nb (I.oldfr q z)
 ·obtain ⟨sl,e1⟩:=I.base.slot b o q n hb (nex b)
  obtain ⟨sl2,e2⟩:=slots b _ e1 hb
  exact ⟨sl2,e2⟩
 ·obtain ⟨o',e1⟩:=I.base.there b o q (nex b)
  by_cases hb : b ∈ frs X.stack
  ·obtain ⟨sl,e2⟩:=slots b o' e1 (I.oldfr q hb)
   exact ⟨_,e2⟩
  ·exact ⟨o',prot b o' e1 hb⟩
 ·refine (I.hok b u e).stay (fun c o hc q=>?_) (fun _ q=>q) fun _ _ q=>q
  rcases hc with rfl | hc
  ·exact prot c o q (trk c _ e)
  ·exact prot c o q (trk c _ hc)
 ·exact inB b o (I.base.keep b o q n nb (nex b)) fun z=>nb (I.oldfr q z)
 ·obtain ⟨o',e1⟩:=J3z (I.hok b u e)
  have e2:=prot b o' e1 (trk b u e)
  have q' : h2.get? b = some o:=q
  rw [e2] at q'
  cases q'
  exact inB b o e1 (trk b u e)
 ·obtain ⟨o',e1⟩:=I.base.there b o q (nex b)
  exact ⟨o',inB b o' e1 fun z=>nb (I.oldfr q z)⟩
 ·cases q' : H e with
  | none=>rfl
  | some u =>
   obtain ⟨o,e1⟩:=J3z (I.hok e u q')
   rw [hx.new] at e1
   cases e1
theorem CX1.inv (I : Inv X pins σ H s) {ev : Value} {s' : Shared} (h : CX1 X.prog X.w X.stack H s E ev s') : ∃ (a C : Addr) (a0 : Value) (H' : Hp) (B : Heap),ev = .ref a ∧ Inv X pins σ H' s' ∧ Heap.FlyingW B X.stack a (.ref C) a0 s'.heap ∧
  (∀ b o,s.heap.get? b = some o → H b = none → b ∉ frs X.stack → B.get? b = some o) ∧ (∀ b o u,H' b = some u → s'.heap.get? b = some o → B.get? b = some o) ∧ (∀ b o,s.heap.get? b = some o → b ∉ frs X.stack → ∃ o',B.get? b = some o') ∧ H' a = none ∧ E (.ref C) none H':=by
 obtain ⟨a,C,a0,H',B,rfl,os,bare,un,hok,fl,g1,g2,g3,na,q⟩:=h
 exact ⟨a,C,a0,H',B,rfl,I.call' (ch:=[]) os un hok bare (fun b z=>absurd z (by simp)),fl,g1,g2,g3,na,q⟩
theorem J7T (I : Inv X pins σ H s) (hex : X.ex = []) (hst : X.stack = X.env :: X.outer) (hfr : X.env.frame = some X.env.locals) {ev : Value} {s' : Shared} (h : CX1 X.prog X.w X.stack H s E ev s') :
  wpAny (model X.prog X.w) X.A (leaving X.env ev) (fun _ s''=>CX1 X.prog X.w X.outer X.H₀ X.s₀ E ev s'') Ex s':=by
 obtain ⟨a,C,a0,H',B,rfl,I',fl,g1,g2,g3,na,q⟩:=h.inv I
 have nex : ∀ b : Addr,b ∉ X.ex:=fun b z=>by rw [hex] at z; simp at z
 have fl':=fl
 rw [hst] at fl'
 refine wpAny_leaves_onW (by rw [I.ok.frames,hst]) hfr fl' fun h2 x1 x2=>?_
 have slots : ∀ b o,s'.heap.get? b = some o → b ∈ X.fs → ∃ sl,h2.get? b = some { o with slots:=sl }:=fun b o q hb=>by
  obtain ⟨_,o',ho',hd⟩:=I'.funs.mem hb
  rw [q] at ho'
  cases ho'
  exact x2 b o q hd
 refine ⟨a,C,a0,H',B,rfl,I'.os,I'.bare,⟨fun b o q n nb _=>?_,fun b o q n hb _=>?_,fun b o q n _=>I'.base.free b o q n (nex b),fun b o q _=>?_,I'.base.tups,I'.base.frzs,I'.base.tbls⟩,fun b u e=>?_,x1,fun b o q n nb=>?_,fun b o u e q=>?_,fun b o q nb=>?_,na,q⟩
 ·exact x1.1 b o (g1 b o (I.base.keep b o q n nb (nex b)) (I.base.free b o q n (nex b)) fun z=>nb (I.oldfr q z))
 ·obtain ⟨sl,e1⟩:=I'.base.slot b o q n hb (nex b)
  obtain ⟨sl2,e2⟩:=slots b _ e1 hb
  exact ⟨sl2,e2⟩
 ·by_cases hb : b ∈ frs X.stack
  ·obtain ⟨o',e1⟩:=I'.base.there b o q (nex b)
   obtain ⟨sl,e2⟩:=slots b o' e1 (I.oldfr q hb)
   exact ⟨_,e2⟩
  ·obtain ⟨o',e1⟩:=I.base.there b o q (nex b)
   obtain ⟨o2,e2⟩:=g3 b o' e1 hb
   exact ⟨o2,x1.1 b o2 e2⟩
 ·refine (I'.hok b u e).stay (fun c o hc q=>?_) (fun _ q=>q) fun _ _ q=>q
  rcases hc with rfl | hc
  ·exact x1.1 c o (g2 c o _ e q)
  ·exact x1.1 c o (g2 c o _ hc q)
 ·exact g1 b o (I.base.keep b o q n nb (nex b)) (I.base.free b o q n (nex b)) fun z=>nb (I.oldfr q z)
 ·obtain ⟨o',e1⟩:=J3z (I'.hok b u e)
  have e2:=x1.1 b o' (g2 b o' u e e1)
  have q' : h2.get? b = some o:=q
  rw [e2] at q'
  cases q'
  exact g2 b o u e e1
 ·obtain ⟨o',e1⟩:=I.base.there b o q (nex b)
  exact g3 b o' e1 fun z=>nb (I.oldfr q z)
end
end L2
set_option linter.all false
set_option maxRecDepth 100000
set_option maxHeartbeats 4000000
namespace L2
open PySem PySem.Spec PyProof.Rows
abbrev J8q : List Value:=[.type "ValueError",.type "Exception",.type "BaseException",.type "object"]
noncomputable def XCls (K : PySem.W.Frag) (C : Addr) : Prop:=PySem.W.excIn K C J8q "ValueError.__new__" = true
theorem XCls.at {K : PySem.W.Frag} {C : Addr} {h : Heap} (q : XCls K C) (X : K.In h) :
  ∃ bm N nm q bs hdct sn sub ab col dd k0 k1 k2 k3 k5 mN,h.get? C = some (excClassObj nm q C N bs bm hdct sn sub ab col dd k0 k1 k2 k3 k5 "ValueError.__new__") ∧ h.Ns N mN ∧ mN "__init__" = none ∧ OwnTail h J8q bm:=by
 unfold XCls PySem.W.excIn at q
 split at q
 ·rename_i dd cd sl ho
  split at q
  ·rename_i C' bm k0 k1 k2 k3 n k5 hm hs
   simp only [Bool.and_eq_true,beq_iff_eq,Bool.not_eq_true'] at q
   obtain ⟨⟨⟨⟨⟨rfl,rfl⟩,hdel⟩,ht⟩,hok⟩,hni⟩:=q
   obtain ⟨nm,bs,mro,ns,qn,hd,sn,sub,ab,col,del⟩:=cd
   dsimp only at hm hdel hok hni
   subst hm hdel
   have hsl : sl = #[k0,k1,k2,k3,some (.builtin "ValueError.__new__"),k5]:=by
    obtain ⟨l⟩:=sl
    simp only at hs
    rw [hs]
   subst hsl
   exact ⟨bm,ns,nm,qn,bs,hd,sn,sub,ab,col,dd,k0,k1,k2,k3,k5,_,X _ _ ho,.of_isNs (PySem.W.isNs_of_in X hok),PySem.W.nsMap_none_of_in X hok hni,PySem.W.tail_of_in X ht⟩
  ·cases q
 ·cases q
structure Rs (X : Cx) (E : XK) : Prop where
 xe : X.xe = fun e s'=>wpAny (model X.prog X.w) X.A (leaving X.env e) (fun _ s''=>CX1 X.prog X.w X.outer X.H₀ X.s₀ E e s'') (fun e' s''=>CX1 X.prog X.w X.outer X.H₀ X.s₀ E e' s'') s'
 ex : X.ex = []
 st : X.stack = X.env :: X.outer
 fr : X.env.frame = some X.env.locals
 cm : X.calm = true
theorem J3r {P : Program} {w : World} {K : PySem.W.Frag} {mg : Str → Option Value} {base : Heap} {N : List Str} {qual : Str} {scope : Scope} {f : Addr} {cd : Value} {A : Around} {outer : List Env} {s : Shared} {H : Hp} {E : XK} :
  Rs (cxOf (CX1 P w) P w K mg base N qual scope f cd A outer s H E) E:=⟨rfl,rfl,rfl,rfl,rfl⟩
theorem Rs.pass {X : Cx} {E : XK} (R : Rs X E) : J3A (CX1 X.prog X.w) X E:=fun pins σ H s e s' I h=>by
 rw [R.xe]
 exact J7T I R.ex R.st R.fr h
noncomputable def JcG (C : Addr) (E : XK) (t : TA) : TS:=fun _ σ H=>t σ H fun vs H1=>vs.length ≤ sizeLine ∧ E (.ref C) none H1
theorem J7K {X : Cx} {E : XK} {x : Str} {C : Addr} {np cpos pos : Pos} {e : Expr} {es : List Expr} {t : TA} (R : Rs X E) (hx : XCls X.K C) (hm : X.mg x = some (.ref C)) (ha : PA X (e :: es) t) (hg : Gl X x:=by rfl) (hdb : (x == ("__debug__" : Str)) = false:=by decide)
  (he : starEach (e :: es) X.env = (false,eval e X.env) :: starEach es X.env:=by rfl) (hpl : (backTo cpos (starEach es X.env)).any (·.1) = false:=by rfl) :
  PS X (.Raise (some (.Call (.Name x np) (e :: es) [] cpos)) none pos) (JcG C E t):=by
 intro pins s σ H D I h
 obtain ⟨bm,N,nm,q,bs,hdct,sn,sub,ab,col,dd,k0,k1,k2,k3,k5,mN,e1,e2,e3,e4⟩:=hx.at I.mod.kin
 refine wpAny_Raise_call_subT (C:=C) (nm:=nm) (q:=q) (N:=N) (bs:=bs) (bm:=bm) (hdct:=hdct) (sn:=sn) (sub:=sub) (ab:=ab) (col:=col) (dd:=dd) (k0:=k0) (k1:=k1) (k2:=k2) (k3:=k3) (k5:=k5) (newId:="ValueError.__new__") (mN:=mN) PySem.F.excBase_ValueError (e4.hasType (by decide)) (I.ok.hd R.cm)
  (by rw [he]; show (false || (backTo cpos (starEach es X.env)).any (·.1)) = false; rw [hpl]; rfl) e3 (J3f I hg hm ⟨rfl,?_⟩ hdb)
 have hh:=ha cpos pins s σ H _ I h
 rw [he] at hh ⊢
 refine Calls.evalArgs_plain (thn hh fun us s1 ⟨vs,H1,I1,r,hl,q⟩=>⟨rfl,by rw [← r.length]; exact hl,I1.bk _ _ e1,e2.keeps I1.bk,e4.keeps I1.bk,fun h' e hm=>?_⟩)
 rw [R.xe]
 exact J71 I1 R.ex R.st R.fr hm q
noncomputable def FnX (P : Program) (w : World) (K : PySem.W.Frag) (mg : Str → Option Value) (base : Heap) (x : Str) (k : Nat) (ps : List Str) (sp : Sp) : Prop :=
 ∃ f fd,FnOk P w K mg base (CX1 P w) k f fd ps sp ∧ mg x = some (.ref f) ∧ PySem.W.keepIn K (.ref f) = true ∧ J3s K fd ps []
section
variable {P : Program} {w : World} {K : PySem.W.Frag} {mg : Str → Option Value} {base : Heap}
theorem FnX.mono {x : Str} {j k : Nat} {ps : List Str} {sp : Sp} (G : FnX P w K mg base x j ps sp) (h : j ≤ k) : FnX P w K mg base x k ps sp:=by
 obtain ⟨f,fd,a,b⟩:=G
 exact ⟨f,fd,a.mono h,b⟩
theorem GF.x {x : Str} {st : Stmt} {N ps : List Str} {k : Nat} {sp : Sp} (F : GF K mg x st) (S : Jw N ps (J8 st))
  (bnd : ∀ (kV doc pm : Value) (an : Option Addr) (cdv ct : Value) (us : List Value),us.length = ps.length → bindArgs (PySem.W.fnOf x x (Jv st) (Jt st) (J8 st) .none kV doc pm an cdv ct) ⟨us,[]⟩ = pure (ps.zip us))
  (len : ∀ vs H Q E,sp vs H Q E → vs.length = ps.length)
  (hbody : ∀ (f : Addr) (cdv : Value) (A : Around) (outer : List Env) (s : Shared) (H : Hp) (vs : List V) (Q : VK) (E : XK),Room k (A.deeper (envOfC x (J8 st) s.heap.objs.size f cdv)) → sp vs H Q E →
   ∃ t,PSs (cxOf (CX1 P w) P w K mg base N x (J8 st) f cdv A outer s H E) (Jt st) t ∧ t { nx:=fun _ H'=>Q .non H',rt:=Q } (start N vs) H) : FnX P w K mg base x (k + 1) ps sp:=by
 obtain ⟨f,fd,F,m⟩:=F
 refine ⟨f,fd,?_,m,F.kp,F.binds bnd⟩
 obtain ⟨oc,od,kV,doc,pm,an,cdv,ct,osl,rfl,lk,hcd⟩:=F.ex
 exact JbX lk hcd S len fun A outer s H vs Q E hr hsp=>hbody f cdv A outer s H vs Q E hr hsp
end
section
variable {X : Cx} {x m : Str} {k : Nat} {ps : List Str} {sp : Sp} {C : Addr} {p pos apos : Pos} {e o : Expr} {es : List Expr} {t : TA} {to : TE} {E : XK}
theorem J2v (G : FnX X.prog X.w X.K X.mg X.base x k ps sp) (hr : Room k X.A) (hx : J3A (CX1 X.prog X.w) X E) (ha : PA X (e :: es) t) (hg : Gl X x:=by rfl) (hdb : (x == ("__debug__" : Str)) = false:=by decide)
  (he : starEach (e :: es) X.env = (false,eval e X.env) :: starEach es X.env:=by rfl) (hpl : (backTo pos (starEach es X.env)).any (·.1) = false:=by rfl) : PE X (.Call (.Name x p) (e :: es) [] pos) (J97 sp [] E t):=by
 obtain ⟨f,fd,a,b,c,d⟩:=G
 exact J8Y a hr hg b c d .nil hx ha hdb he hpl
end
end L2
set_option linter.all false
set_option maxRecDepth 100000
set_option maxHeartbeats 4000000
namespace L2
open PySem PySem.Spec PyProof.Rows
section
variable {prog : Program} {w : World} {A : Around} {E : Value → Shared → Prop} {K : PySem.W.Frag} {x C : Addr} {h : Heap} {g : Array GenState} {d : Drawn} {t : Nat} {os : OsState} {o : Obj}
structure XTy (K : PySem.W.Frag) (C : Addr) : Prop where
 ga : PySem.W.findIn K (.ref C) "__getattribute__" = some (some (.builtin "BaseException.__getattribute__"))
 gn : PySem.W.findIn K (.ref C) "__getattr__" = some none
 cl : PySem.W.findIn K (.ref C) "__class__" = some (some (.builtin "object.__class__"))
 mo : PySem.W.mroIn K C (.type "object") = some true
 mb : PySem.W.mroIn K C (.type "BaseException") = some true
theorem JcO {R : Result → Shared → Prop} (X : K.In h) (T : XTy K C) (hx : h.get? x = some o) (hc : o.cls = .ref C) (hq : R (.ok (.ret (.ref C))) ⟨h,g,d,t,os⟩) :
  codeAny (model prog w) A (.call (.builtin "getset_descriptor.__get__") ⟨[.builtin "object.__class__",.ref x,.ref C],[]⟩) R ⟨h,g,d,t,os⟩:=by
 have hT5 : (⟨h,g,d,t,os⟩ : Shared).TypeIs (.builtin "object.__class__") "getset_descriptor":=F.typeOf_object_class
 have L0 : PySem.W.Looks (model prog w) h (typeOf (.ref x)) (.ref C):=hc ▸ (PySem.W.Looks.ld hx).andThen .now
 have L1 : PySem.W.Looks (model prog w) h (isSubtype (.ref C) (.type (".".intercalate ("object.__class__".cutAt '.').dropLast))) true:=by rw [F.owner_object_class]; exact PySem.W.looks_mroIn X T.mo
 refine codeAny_call_builtin F.slot_gs_get.plain F.entry_gs_get (F.slot_gs_get.check _ _ _ _ _ _ _ _ hT5 (F.args_gs_get _ _ _) ?_)
 repeat (any_goals (first | assumption | with_reducible refine L0.at ?_ | with_reducible refine L1.at ?_ | wp_step))
 refine ⟨Code.quiet_builtin _ (by decide +kernel),codeAny_builtin F.entry_object_class ?_⟩
 repeat (any_goals (first | assumption | with_reducible refine L0.at ?_ | with_reducible refine L1.at ?_ | wp_step))
theorem Jas {tk : Tok} {Q : Fin → Shared → Prop} (X : K.In h) (T : XTy K C) (hx : h.get? x = some o) (hc : o.cls = .ref C) (hq : Q (.done (.ret (.ref C))) ⟨h,g,d,t,os⟩) :
  wpAny (model prog w) A (Builtin.«object.__getattribute__» ⟨[.ref x,.str "__class__" tk],[]⟩) Q E ⟨h,g,d,t,os⟩:=by
 have hT5 : (⟨h,g,d,t,os⟩ : Shared).TypeIs (.builtin "object.__class__") "getset_descriptor":=F.typeOf_object_class
 have L0 : PySem.W.Looks (model prog w) h (typeOf (.ref x)) (.ref C):=hc ▸ (PySem.W.Looks.ld hx).andThen .now
 have L2:=PySem.W.looks_findIn (M:=model prog w) X T.cl
 have f5:=F.typeOf_object_class
 have f6:=F.slot_gs_get.lookup
 have f7:=F.slot_gs_set.lookup
 repeat (any_goals (first | assumption | with_reducible refine L0.at ?_ | with_reducible refine L2.at ?_ | wp_step))
 refine JcO X T hx hc ?_
 repeat (any_goals (first | assumption | wp_step))
theorem Ja0 {M : Model} {nameV : Value} {Q : Unit → Shared → Prop} (X : K.In h) (T : XTy K C) (hx : h.get? x = some o) (hc : o.cls = .ref C) (hq : Q () ⟨h,g,d,t,os⟩) : wpAny M A (checkBuiltinCall "BaseException.__getattribute__" ⟨[.ref x,nameV],[]⟩) Q E ⟨h,g,d,t,os⟩:=by
 have hk : builtinKind "BaseException.__getattribute__" = some .slot:=by decide +kernel
 have hsplit : splitId "BaseException.__getattribute__" = some ("BaseException","__getattribute__"):=by decide +kernel
 have ha:=F.args_bexc_ga (.ref x) nameV
 have L0 : PySem.W.Looks M h (typeOf (.ref x)) (.ref C):=hc ▸ (PySem.W.Looks.ld hx).andThen .now
 have L1 : PySem.W.Looks M h (isSubtype (.ref C) (.type "BaseException")) true:=PySem.W.looks_mroIn X T.mb
 simp only [checkBuiltinCall,hk,hsplit]
 refine wpAny_bind ?_
 ·unfold isInstance
  repeat (first | with_reducible refine L0.at ?_ | with_reducible refine L1.at ?_ | wp_step)
  exact hq
theorem Jbt {tk : Tok} {R : Result → Shared → Prop} (X : K.In h) (T : XTy K C) (hx : h.get? x = some o) (hc : o.cls = .ref C) (hq : R (.ok (.ret (.ref C))) ⟨h,g,d,t,os⟩) :
  codeAny (model prog w) A (.call (.builtin "BaseException.__getattribute__") ⟨[.ref x,.str "__class__" tk],[]⟩) R ⟨h,g,d,t,os⟩ :=
 codeAny_call_builtin F.attr_ValueError.ga.plain F.entry_bexc_ga (Ja0 X T hx hc (Jas X T hx hc hq))
theorem Jd2 {tk : Tok} {Q : Value → Shared → Prop} (X : K.In h) (T : XTy K C) (hx : h.get? x = some o) (hc : o.cls = .ref C) (hq : Q (.ref C) ⟨h,g,d,t,os⟩) :
  wpAny (model prog w) A (getAttrBy (.ref x) (.str "__class__" tk) false) Q E ⟨h,g,d,t,os⟩:=by
 have f3:=F.attr_ValueError.ga.bind (.ref x)
 have hx2 : (Value.builtin "BaseException.__getattribute__" == Value.builtin "object.__getattribute__") = false:=by decide +kernel
 have hx1 : (onTheHeap (Value.ref C) && Value.builtin "BaseException.__getattribute__" == Value.builtin "object.__getattribute__") = false:=by rw [hx2]; rfl
 have L0 : PySem.W.Looks (model prog w) h (typeOf (.ref x)) (.ref C):=hc ▸ (PySem.W.Looks.ld hx).andThen .now
 have L1:=PySem.W.looks_findIn (M:=model prog w) X T.ga
 have L2:=PySem.W.looks_findIn (M:=model prog w) X T.gn
 repeat (any_goals (first | assumption | with_reducible refine L0.at ?_ | with_reducible refine L1.at ?_ | with_reducible refine L2.at ?_ | wp_step))
 refine Jbt X T hx hc ?_
 repeat (any_goals (first | assumption | wp_step))
theorem Jbz {Q : Option Value → Shared → Prop} (X : K.In h) (T : XTy K C) (hx : h.get? x = some o) (hc : o.cls = .ref C) (hq : Q (some (.ref C)) ⟨h,g,d,t + 1,os⟩) : wpAny (model prog w) A (getAttr? (.ref x) "__class__") Q E ⟨h,g,d,t,os⟩:=by
 unfold getAttr? getAttrBy?
 repeat (any_goals (first | assumption | with_reducible apply Jd2 X T hx hc | wp_step))
theorem Ja9 (T : XTy K C) (hz : (PySem.W.clsIn K C).isSome = true) : PySem.W.KitX K (.ref x) (.ref C) (fun h=>∃ o,h.get? x = some o ∧ o.cls = .ref C) where
 ty:=fun M h _ ⟨o,h1,h2⟩=>h2 ▸ (PySem.W.Looks.ld h1).andThen .now
 it:=fun _ _ X _=>by
  unfold PySem.W.clsIn at hz
  split at hz
  ·rename_i c' d' cd' sl' ho
   intro A' Q' E' s' k q
   unfold isType loadHead
   exact wpAny_bind (wpAny_loadPart (k _ _ (X _ _ ho)) (wpAny_pure q))
  ·cases hz
 ne:=fun h tp dd its n sl X htp=>by
  refine Bool.eq_false_iff.mpr fun q=>?_
  have e : C = tp:=Value.ref.inj (beq_iff_eq.mp q)
  subst e
  unfold PySem.W.clsIn at hz
  split at hz
  ·rename_i c' d' cd' sl' ho
   have z:=(X _ _ ho).symm.trans htp
   cases z
  ·cases hz
 ca:=fun {_ _ _ _ _ s} X p k=>by
  obtain ⟨h,g,d,t,os⟩:=s
  obtain ⟨o,h1,h2⟩:=p
  exact Jbz X T h1 h2 k
end
end L2
set_option linter.all false
set_option maxRecDepth 100000
set_option maxHeartbeats 4000000
namespace L2
open PySem PySem.Spec PyProof.Rows
noncomputable def XO (a C : Addr) : HO:=.ext fun h=>∃ o,h.get? a = some o ∧ o.cls = .ref C
theorem XO.ok {P : Program} {w : World} {H : Hp} {h : Heap} {a C : Addr} (q : ∃ o,h.get? a = some o ∧ o.cls = .ref C) : J0X P w H h a (XO a C) :=
 ⟨q,let ⟨o,e,_⟩:=q; ⟨o,e⟩,fun _ _ ⟨o,e,c⟩ k=>⟨o,k o e,c⟩⟩
section
variable {X : Cx} {pins : List (Addr × Obj)} {σ : St} {H : Hp} {s : Shared}
theorem J8P (I : Inv X pins σ H s) {a C : Addr} {a0 : Value} {H' : Hp} {B h' : Heap} {s' : Shared} (os : s'.os = s.os) (bare : AllBare s'.gens) (un : Un (frs X.stack) [] H H' s.heap s'.heap) (hok : HOk X.prog X.w H' s'.heap)
  (fl : Heap.FlyingW B X.stack a (.ref C) a0 s'.heap) (g1 : ∀ b o,s.heap.get? b = some o → H b = none → b ∉ frs X.stack → B.get? b = some o) (g2 : ∀ b o u,H' b = some u → s'.heap.get? b = some o → B.get? b = some o)
  (g3 : ∀ b o,s.heap.get? b = some o → b ∉ frs X.stack → ∃ o',B.get? b = some o') (na : H' a = none) (fl' : Heap.FlyingW B X.stack a (.ref C) a0 h') (sm : s'.heap.UpToSlots h') :
  Inv X pins σ (upd H' a (XO a C)) { s' with heap:=h' }:=by
 have frn : a ∉ frs X.stack:=fun hb=>by
  obtain ⟨_,o,ho,hd⟩:=fl'.2.2.1.mem hb
  obtain ⟨oe,vs,he,_,hde,_⟩:=fl'.first
  rw [he] at ho
  cases ho
  exact hd vs hde
 have ne : ∀ b o,s.heap.get? b = some o → b ≠ a:=fun b o q e=>by
  subst e
  obtain ⟨o',e⟩:=g3 b o q frn
  rw [fl.2.1] at e
  cases e
 have neH : ∀ b u,H' b = some u → b ≠ a:=fun b u q e=>by subst e; rw [na] at q; cases q
 have up : ∀ b,b ≠ a → upd H' a (XO a C) b = H' b:=fun b e=>by unfold upd; rw [if_neg e]
 refine I.call' (ch:=[]) os ⟨fun b o q n nb _=>fl'.1 b o (g1 b o q n nb),fun b o q n hb _=>?_,fun b o q n _=>?_,fun b o q _=>?_,fun b xs e=>?_,fun b o u e=>?_,fun b ps e=>?_⟩ (fun b u e=>?_) bare (fun b z=>absurd z (by simp))
 ·obtain ⟨sl,e1⟩:=un.slot b o q n hb (by simp)
  obtain ⟨_,o',ho',hd⟩:=fl.2.2.1.mem hb
  rw [e1] at ho'
  cases ho'
  obtain ⟨sl2,e2⟩:=sm b _ e1 hd
  exact ⟨sl2,e2⟩
 ·rw [up b (ne b o q)]
  exact un.free b o q n (by simp)
 ·by_cases hb : b ∈ frs X.stack
  ·obtain ⟨_,o',ho',_⟩:=fl'.2.2.1.mem hb
   exact ⟨o',ho'⟩
  ·obtain ⟨o',e⟩:=g3 b o q hb
   exact ⟨o',fl'.1 b o' e⟩
 ·have z:=un.tups b xs e
  rw [up b (neH b _ z)]
  exact z
 ·have z:=un.frzs b o u e
  rw [up b (neH b _ z)]
  exact z
 ·obtain ⟨m,z⟩:=un.tbls b ps e
  exact ⟨m,by rw [up b (neH b _ z)]; exact z⟩
 ·by_cases hb : b = a
  ·subst hb
   unfold upd at e
   rw [if_pos rfl] at e
   cases e
   exact XO.ok fl'.there
  ·rw [up b hb] at e
   refine (hok b u e).stay (fun c o hc q=>?_) (fun c q=>by rw [up c (neH c _ q)]; exact q) fun c xs q=>by rw [up c (neH c _ q)]; exact q
   rcases hc with rfl | hc
   ·exact fl'.1 c o (g2 c o _ e q)
   ·exact fl'.1 c o (g2 c o _ hc q)
noncomputable abbrev Cx.sui (X : Cx) (a : Addr) : Cx:={ X with A:=X.A.mark (some (.ref a)),calm:=false,xe:=fun _ _=>False }
theorem Inv.sui (I : Inv X pins σ H s) (a : Addr) : Inv (X.sui a) pins σ H s :=
 ⟨⟨I.ok.mod,I.ok.kind,I.ok.glob,I.ok.blt,I.ok.above,I.ok.inj,I.ok.has,I.ok.cab,(fun z=>nomatch z),I.ok.frames,I.ok.stk,I.ok.exf,I.ok.bs,I.ok.bsz,I.ok.noex,I.ok.exfs,I.ok.funs,I.ok.frf⟩,I.os,I.bare,I.base,I.loc,I.cell,I.free,I.freeC,I.pin,I.hok,I.len⟩
theorem Inv.unsui {a : Addr} (ok : X.Ok) (I : Inv (X.sui a) pins σ H s) : Inv X pins σ H s:=⟨ok,I.os,I.bare,I.base,I.loc,I.cell,I.free,I.freeC,I.pin,I.hok,I.len⟩
theorem J3g {M : Model} {A : Around} {E : Value → Shared → Prop} {i : Nat} {x : Str} {hp : Pos} {Q : Unit → Shared → Prop} (I : Inv X pins σ H s) (hN : X.N.Nodup) (hi : X.N[i]? = some x) (hk : X.env.scope.names.lookup x = some .local)
  (h : ∀ s',Inv X pins (σ.set i none) H s' → Q () s') : wpAny M A (do bindName X.env x .none; unbindBehindTheSuite X.env x hp) Q E s:=by
 obtain ⟨m,hn,hl⟩:=id I.loc
 have hcls : (X.env.scope.kind == .class || (X.env.scope.kind == .module && X.env.locals != X.env.globals)) = false:=by rw [I.ok.kind]; rfl
 refine wpAny_nameGoes_keeps hk hn hcls fun h' v hn' hs=>h _ ?_
 obtain ⟨oL,_,_,hoL,_⟩:=id hn
 have ne0 : ∀ b o,X.s₀.heap.get? b = some o → b ≠ X.env.locals:=fun b o e=>Nat.ne_of_lt (Nat.lt_of_lt_of_le (Heap.lt_size e) I.ok.above)
 refine ⟨I.ok,I.os,I.bare,⟨fun b o e n hb hx=>(hs.2 b (ne0 b o e)).trans (I.base.keep b o e n hb hx),fun b o e n hb hx=>?_,I.base.free,fun b o e hx=>?_,I.base.tups,I.base.frzs,I.base.tbls⟩,⟨_,hn',fun j y v' e1 e2 e3=>?_⟩,fun y c e=>?_,I.free,I.freeC,fun p hp=>?_,fun b ob e=>?_,by simpa using I.len⟩
 ·obtain ⟨sl,e1⟩:=I.base.slot b o e n hb hx
  exact ⟨sl,(hs.2 b (ne0 b o e)).trans e1⟩
 ·obtain ⟨o',e1⟩:=I.base.there b o e hx
  exact ⟨o',(hs.2 b (ne0 b o e)).trans e1⟩
 ·have hj : j ≠ i:=fun hj=>by
   subst hj
   have hiσ : j < σ.length:=by rw [I.len]; exact (List.getElem?_eq_some_iff.mp hi).1
   rw [List.getElem?_set_self hiσ] at e2
   cases e2
  rw [List.getElem?_set_ne (Ne.symm hj)] at e2
  obtain ⟨u',r',q⟩:=hl j y v' e1 e2 e3
  refine ⟨u',r',?_⟩
  rcases q with ⟨k,e⟩ | ⟨k,c,e,z⟩
  ·refine .inl ⟨k,?_⟩
   have : y ≠ x:=fun e=>hj (J5z hN e1 (e ▸ hi))
   simp [this,e]
  ·exact .inr ⟨k,c,e,z.sameBut hs (I.cne y c e)⟩
 ·obtain ⟨w',z⟩:=I.cell y c e
  exact ⟨w',z.sameBut hs (I.cne y c e)⟩
 ·obtain ⟨e,n,ne,nf,d⟩:=I.pin p hp
  exact ⟨(hs.2 p.1 ne).trans e,n,ne,nf,d⟩
 ·refine (I.hok b ob e).stay (fun c w' hc q=>(hs.2 c ?_).trans q) (fun _ q=>q) fun _ _ q=>q
  rintro rfl
  rcases hc with z | hc
  ·rw [← z,I.free] at e; cases e
  ·rw [I.free] at hc; cases hc
end
noncomputable def PEX (X : Cx) (e : Expr) (t : XK → TE) : Prop :=
 ∀ (pins : List (Addr × Obj)) (s : Shared) (σ : St) (H : Hp) (Q : VK) (E : XK) (Ex : Value → Shared → Prop),Inv X pins σ H s → t E σ H Q → (∀ ev s1 H1 s0,Inv X pins σ H1 s0 → CX1 X.prog X.w X.stack H1 s0 E ev s1 → Ex ev s1) →
  wpAny (model X.prog X.w) X.A (eval e X.env) (EP X pins σ Q) Ex s
noncomputable def PBX (X : Cx) (b : List Stmt) (t : XK → TS) : Prop :=
 ∀ (pins : List (Addr × Obj)) (s : Shared) (σ : St) (H : Hp) (D : Ends) (E : XK) (Ex : Value → Shared → Prop),Inv X pins σ H s → t E D σ H → (∀ ev s1 H1 s0,Inv X pins σ H1 s0 → CX1 X.prog X.w X.stack H1 s0 E ev s1 → Ex ev s1) →
  wpAny (model X.prog X.w) X.A (execs b X.env) (SP X pins D) Ex s
section
variable {X : Cx} {x m : Str} {k : Nat} {ps : List Str} {sp : Sp} {C : Addr} {p pos apos : Pos} {e o : Expr} {es : List Expr} {t : TA} {to : TE}
theorem AP.unwish {pins : List (Addr × Obj)} {σ : St} {Q : List V → Hp → Prop} {E : Value → Shared → Prop} {us : List Value} {s : Shared} (h : AP (X.wish E) pins σ Q us s) : AP X pins σ Q us s:=by
 obtain ⟨vs,H',I,r,q⟩:=h
 exact ⟨vs,H',I.unwish,r,q⟩
theorem JcB (G : FnX X.prog X.w X.K X.mg X.base x k ps sp) (hr : Room k X.A) (ha : PA X.nox (e :: es) t) (hg : Gl X x:=by rfl) (hdb : (x == ("__debug__" : Str)) = false:=by decide)
  (he : starEach (e :: es) X.env = (false,eval e X.env) :: starEach es X.env:=by rfl) (hpl : (backTo pos (starEach es X.env)).any (·.1) = false:=by rfl) : PEX X (.Call (.Name x p) (e :: es) [] pos) (fun E=>J97 sp [] E t):=by
 obtain ⟨f,fd,F,hm,hk,hb⟩:=G
 intro pins s σ H Q E Ex I h hx
 refine wpAny_Call_Name_kw (J3f I hg hm ?_ hdb)
 refine PySem.W.callWith_K (h₀:=X.base) I.ok.mod.kin hk (wpAny_mono (ha pos pins s σ H _ (I.wish _) h) (fun us s1 q=>?_) fun _ _ z=>False.elim z) he hpl
 obtain ⟨vs,H1,I1,r,q⟩:=AP.unwish (X:=X) q
 refine ⟨I1.kIn,?_⟩
 have hl : us.length = ps.length:=by
  rw [← r.length]
  have:=F.len _ _ _ _ q
  rw [List.append_nil] at this
  exact this
 have hbb:=hb s1 us I1.kIn (by rw [List.append_nil]; exact hl)
 rw [List.append_nil] at hbb
 rw [List.append_nil] at q
 refine wpAny_call (codeAny_mono (F.run X.A X.stack s1 H1 ⟨us,[]⟩ us vs Q E hr I1.env0 hbb r q) fun r s' hq=>?_)
 cases r with
 | error e=>exact hx e s' H1 s1 I1 hq
 | ok fl =>
  cases fl with
  | ret u=>exact I1.after hq
  | next=>exact False.elim hq
  | brk=>exact False.elim hq
  | cont=>exact False.elim hq
theorem Jaj {te : XK → TE} (he : PEX X e te) (hs : swapsWith e none pos.line X.env = pure false:=by rfl) : PBX X [.Expr e pos] (fun E=>JbS (te E)):=by
 intro pins s σ H D E Ex I h hx
 refine wpAny_execs_cons (wpAny_Expr_any (thn (he pins s σ H _ E Ex I h hx) fun v s1 ⟨x,H1,I1,r1,q1⟩=>?_) I.quiet hs)
 exact wpAny_execs_nil ⟨σ,H1,I1,q1⟩
end
noncomputable def Jd0 (K : PySem.W.Frag) (CB : Addr) (i : Nat) (tb : XK → TS) (ts : TS) : TS:=fun D σ H=>tb (fun c _ H2=>∃ C,c = .ref C ∧ PySem.W.exmOne K (.ref C) (.ref CB) = some true ∧
 ∀ a,H2 a = none → ts { nx:=fun σ' H'=>D.nx (σ'.set i none) H',bk:=fun σ' H'=>D.bk (σ'.set i none) H',ct:=fun σ' H'=>D.ct (σ'.set i none) H',rt:=D.rt } (σ.set i (some (.ref a))) (upd H2 a (XO a C))) D σ H
section
variable {X : Cx}
theorem Jbe {cx n : Str} {CB : Addr} {i : Nat} {cp hp pos : Pos} {b : List Stmt} {tb : XK → TS} {b₀ : Stmt} {suite : List Stmt} {ts : TS} (hst : X.stack = X.env :: X.outer) (hfr : X.env.frame = some X.env.locals) (hN : X.N.Nodup) (hi : X.N[i]? = some n)
  (hl : X.env.scope.names.lookup n = some .local) (hcm : X.mg cx = some (.ref CB)) (hb : PBX X b tb) (hs : ∀ a,PSs (X.sui a) (b₀ :: suite) ts) (hgc : Gl X cx:=by rfl) (hdb : (cx == ("__debug__" : Str)) = false:=by decide) :
  PS X (.Try b [.ExceptHandler (some (.Name cx cp)) (some n) (b₀ :: suite) hp] [] [] pos) (Jd0 X.K CB i tb ts):=by
 intro pins s σ H D I h
 refine wpAny_Try_except ?_
 refine wpAny_mono (hb pins s σ H D _ (fun e s₁=>wpAny (model X.prog X.w) X.A (noteFrame e X.env) (fun _ s₂=>wpAny (model X.prog X.w) X.A (setFlight e none) (fun _ s₃=>wpAny (model X.prog X.w) X.A (handleBy e X.env [.ExceptHandler (some (.Name cx cp)) (some n) (b₀ :: suite) hp]) (SP X pins D) X.xe s₃) X.xe s₂) X.xe s₁) I h fun ev s1 H1 s0 I0 hc=>?_) (fun f s1 q=>?_) fun _ _ z=>z
 ·obtain ⟨a,C,a0,H',B,rfl,os,bare,un,hok,fl,g1,g2,g3,na,C',hC,hx,q⟩:=hc
  cases hC
  have fl':=fl
  rw [hst] at fl'
  refine wpAny_looks_onW (by rw [I0.ok.frames,hst]) hfr fl' fun h4 x4 m4=>?_
  refine wpAny_landsW x4 fun h5 x5 m5=>?_
  rw [← hst] at x5
  have I5:=J8P I0 os bare un hok fl g1 g2 g3 na x5 (Heap.UpToSlots.trans m4 m5)
  refine wpAny_handleBy_cons (codeAny_handlers_test (J3f (X:=X.sui a) (I5.sui a) hgc hcm ?_ hdb)) (by intro q; cases q)
  have LT : PySem.W.Looks (model X.prog X.w) h5 (typeOf (.ref a)) (.ref C):=by
   obtain ⟨o,e1,e2⟩:=x5.there
   exact e2 ▸ (PySem.W.Looks.ld e1).andThen .now
  refine (PySem.W.exm_one I5.kIn LT hx).at (codeAny_handlers_suite_as ?_)
  refine lands_againW x5 fun h6 x6 m6=>?_
  have I6:=J8P I0 os bare un hok fl g1 g2 g3 na x6 (Heap.UpToSlots.trans (Heap.UpToSlots.trans m4 m5) m6)
  refine J3V (v:=.ref a) (X:=X) I6 hN hi (.inl hl) rfl (fun s7 I7=>?_) (.inr hl)
  refine wpAny_mono (hs a pins s7 _ _ _ (I7.sui a) (q a na)) (fun f s8 q8=>?_) fun _ _ z=>False.elim z
  cases f with
  | next =>
   obtain ⟨σ',H8,I8,q8⟩:=q8
   exact J3g (Inv.unsui I0.ok I8) hN hi hl fun s9 I9=>⟨_,_,I9,q8⟩
  | brk =>
   obtain ⟨σ',H8,I8,q8⟩:=q8
   exact J3g (Inv.unsui I0.ok I8) hN hi hl fun s9 I9=>⟨_,_,I9,q8⟩
  | cont =>
   obtain ⟨σ',H8,I8,q8⟩:=q8
   exact J3g (Inv.unsui I0.ok I8) hN hi hl fun s9 I9=>⟨_,_,I9,q8⟩
  | ret u =>
   obtain ⟨v,σ',H8,I8,rv,q8⟩:=q8
   exact J3g (Inv.unsui I0.ok I8) hN hi hl fun s9 I9=>⟨v,_,_,I9,rv,q8⟩
 ·cases f with
  | next=>exact wpAny_execs_nil q
  | brk=>exact q
  | cont=>exact q
  | ret u=>exact q
end
end L2
set_option linter.all false
set_option maxRecDepth 100000
set_option maxHeartbeats 4000000
namespace L2
open PySem PySem.Spec PyProof.Rows
theorem J8G {K : PySem.W.Frag} {C : Addr} {b : Value} {r : Bool} (e : PySem.W.mroIn K C b = some r) : (PySem.W.clsIn K C).isSome = true:=by
 unfold PySem.W.mroIn at e
 cases h : PySem.W.clsIn K C with
 | none=>rw [h] at e; cases e
 | some cd=>rfl
theorem J4n : bootBuiltins "ValueError" = some (.type "ValueError"):=by decide +kernel
section
variable {X : Cx} {K : PySem.W.Frag}
structure XIs (K : PySem.W.Frag) (C : Addr) : Prop where
 ty : XTy K C
 cls : (PySem.W.clsIn K C).isSome = true
theorem XO.at {P : Program} {w : World} {H : Hp} {h : Heap} {a C : Addr} (x : J0X P w H h a (XO a C)) : ∃ o,h.get? a = some o ∧ o.cls = .ref C:=x.1
theorem J0H (h : X.K = K) : J1X X (.builtin "isinstance") (fun xs H Q=>∃ p C v c b,xs = [.ref p,v] ∧ H p = some (XO p C) ∧ XIs K C ∧ ((∃ D,v = .ref D ∧ c = .ref D) ∨ ∃ T,v = .ty T ∧ c = .type T) ∧ PySem.W.kitOne K (.ref C) c = some b ∧ Q (.bl b) H):=by
 subst h
 intro pins s σ H xs us Q I r h
 obtain ⟨p,C,v,c,b,rfl,hp,T,hv,hk,q⟩:=h
 obtain ⟨u,u2,rfl,r1,r2⟩:=r.two
 cases r1
 have e : u2 = c:=by
  rcases hv with ⟨D,rfl,rfl⟩ | ⟨T,rfl,rfl⟩
  ·exact r2
  ·exact r2
 subst e
 exact PySem.W.kia_one (Ja9 T.ty T.cls) I.kIn (XO.at (I.hok p _ hp)) hk (fun z=>nomatch z) fun tk=>⟨.bl b,H,I.tok _,rfl,q⟩
end
end L2
set_option linter.all false
set_option maxRecDepth 100000
set_option maxHeartbeats 4000000
namespace L2
open PySem PySem.Spec PyProof.Rows
theorem Jak {X : Cx} : J3A (CX1 X.prog X.w) X E0:=fun _ _ _ _ _ _ _ h=>by
 obtain ⟨a,C,a0,H',B,_,_,_,_,_,_,_,_,_,_,z⟩:=h
 exact z.elim
section
variable {X : Cx} {K : PySem.W.Frag} {pins : List (Addr × Obj)} {σ : St} {H : Hp} {s : Shared} {A : Around}
end
end L2
set_option linter.all false
set_option maxRecDepth 100000
set_option maxHeartbeats 4000000
namespace L2
open PySem PySem.Spec PyProof.Rows
section
variable {X : Cx} {K : PySem.W.Frag} {pins : List (Addr × Obj)} {σ : St} {H : Hp} {s : Shared} {A : Around}
end
end L2
set_option linter.all false
set_option maxRecDepth 100000
set_option maxHeartbeats 4000000
namespace L2
open PySem PySem.Spec PyProof.Rows
section
variable {X : Cx} {K : PySem.W.Frag}
theorem J9R : bootBuiltins "set" = some (.type "set"):=by decide +kernel
end
end L2
set_option linter.all false
set_option maxRecDepth 100000
namespace L2
open PySem PySem.Spec PyProof.Rows
end L2
namespace L2
open PySem PySem.Spec PyProof.Rows
section
variable (P : Program) (w : World)
end
section
variable {P : Program} {w : World} {H H' : Hp} {h h' : Heap} {a : Addr} {o : HO}
end
section
variable {P : Program} {w : World} {H : Hp} {h h' : Heap} {x e : Addr} {o' : HO}
end
section
variable {fs fs' ex ex' : List Addr} {H H1 H2 : Hp} {h h1 h2 h' : Heap} {a x e : Addr} {o : HO}
end
end L2
namespace L2
open PySem PySem.Spec PyProof.Rows
section
variable {X : Cx} {pins : List (Addr × Obj)} {σ : List (Option V)} {H H' : Hp} {s : Shared} {h' : Heap}
end
end L2
namespace L2
open PySem PySem.Spec PyProof.Rows
section
variable {X : Cx}
variable {a b : Expr} {ta tb : TE} {pos : Pos}
variable {tA tB' : TT} {rest : List Expr}
end
end L2
namespace L2
open PySem PySem.Spec PyProof.Rows
section
variable {X : Cx} {pins : List (Addr × Obj)} {σ : St} {H : Hp} {s : Shared} {a : Addr} {xs ys : List V}
end
section
variable {X : Cx} {pins : List (Addr × Obj)} {σ : St} {H : Hp} {s : Shared} {E : Value → Shared → Prop}
end
section
variable {X : Cx} {st : Stmt} {rest : List Stmt} {t u : TS} {e : Expr} {te : TE} {pos : Pos}
end
section
variable {X : Cx} {pos : Pos}
end
section
variable {X : Cx} {pos : Pos}
end
end L2
namespace L2
open PySem PySem.Spec PyProof.Rows
section
variable {X : Cx} {tg : Expr}
end
end L2
namespace L2
open PySem PySem.Spec PyProof.Rows
section
variable {X : Cx} {a b c : Expr} {ta tb tc : TE} {pos : Pos}
end
section
variable {X : Cx} {a b c : Expr} {ta tb tc : TE} {pos : Pos}
end
end L2
namespace L2
open PySem PySem.Spec PyProof.Rows
section
variable {prog : Program} {w : World} {A : Around} {E : Value → Shared → Prop} {s : Shared} {K : PySem.W.Frag} {x dx C f : Addr} {mA : Str → Option Value} {name : Str} {v : Value}
end
section
variable {P : Program} {w : World} {H H' : Hp} {h h' : Heap} {a C dx : Addr} {fs fs' : List (Str × V)}
end
section
variable {X : Cx} {pins : List (Addr × Obj)} {σ : St} {H : Hp} {s : Shared} {a C dx : Addr} {fs : List (Str × V)} {f : Str} {v : V} {A : Around} {E : Value → Shared → Prop}
end
section
variable {X : Cx} {o e value : Expr} {f : Str} {pos pos' tpos : Pos} {ta tv : TE}
end
section
variable {X : Cx} {pins : List (Addr × Obj)} {σ : St} {H : Hp} {s : Shared} {A : Around} {E : Value → Shared → Prop} {Q : Value → Shared → Prop} {c : Value} {b : Bool}
end
end L2
namespace L2
open PySem PySem.Spec PyProof.Rows
section
variable {X : Cx} {e : Expr} {es : List Expr} {te : TE} {t : TA} {pos : Pos}
end
section
variable {X : Cx} {pins : List (Addr × Obj)} {σ : St} {H : Hp} {s s' : Shared}
end
section
variable {X : Cx} {CX : CXT} {k : Nat} {f C : Addr} {fd : FuncData} {ps : List Str} {sp : Sp} {dvs : List V} {ds : List Value} {E : XK} {x m : Str} {p pos apos : Pos} {e o : Expr} {es : List Expr} {ta : TE} {t : TA}
end
section
variable {X : Cx} {CX : CXT} {k : Nat} {f C : Addr} {fd : FuncData} {ps ks : List Str} {sp : Sp} {E : XK} {x m : Str} {p pos apos kpos : Pos} {e o : Expr} {es : List Expr} {kws : List Keyword} {te ta : TE} {t tk : TA} {nm : Option Str}
variable {g : List Value → List Value → List Value} {gV : List V → List V → List V}
end
end L2
namespace L2
open PySem PySem.Spec PyProof.Rows
section
variable {X : Cx} {x : Str} {p pos : Pos} {e : Expr} {es : List Expr} {t : TA} {id T : String} {r : List V → Hp → VK → Prop}
end
end L2
namespace L2
open PySem PySem.Spec PyProof.Rows
section
variable {κ : Type} [DecidableEq κ]
end
section
variable {P : Program} {w : World} {H : Hp} {h : Heap} {a : Addr}
end
section
variable {X : Cx} {pins : List (Addr × Obj)} {σ : St} {H : Hp} {s : Shared} {a : Addr} {y v : V} {u r : Value} {o : Option V} {A : Around} {E : Value → Shared → Prop}
end
section
variable {X : Cx} {pins : List (Addr × Obj)} {σ : St} {H : Hp} {s : Shared} {a : Addr} {kvs : List (Key × V)} {k : Key} {u : Value} {A : Around} {E : Value → Shared → Prop}
end
section
variable {X : Cx} {o i e value : Expr} {pos pos' tpos : Pos} {td ty tv : TE}
end
section
variable {X : Cx} {pos : Pos}
end
section
variable {X : Cx} {pins : List (Addr × Obj)} {σ : St} {H : Hp} {s : Shared} {a : Addr} {y d : V} {u r : Value} {o : Option V} {A : Around} {E : Value → Shared → Prop}
end
section
variable {X : Cx} {o e f : Expr} {apos cpos : Pos} {td ty tx : TE}
end
section
variable {X : Cx} {pins : List (Addr × Obj)} {σ : St} {H : Hp} {s : Shared} {a : Addr} {kvs : List (Key × V)} {A : Around} {E : Value → Shared → Prop}
end
section
variable {X : Cx} {pins : List (Addr × Obj)} {σ : St} {H : Hp} {s : Shared} {a : Addr} {y : V} {u : Value} {A : Around} {E : Value → Shared → Prop}
end
end L2
namespace Att
open PySem PySem.W PySem.Calls PyProof.Rows
section
variable {prog : Program} {w : World} {A : Around} {E : Value → Shared → Prop} {s : Shared} {K : Frag}
end
end Att
namespace L2
open PySem PySem.Spec PyProof.Rows
end L2
namespace L2
open PySem PySem.Spec PyProof.Rows
end L2
namespace L2
open PySem PySem.Spec PyProof.Rows
section
variable {P : Program} {w : World} {K : PySem.W.Frag} {mg : Str → Option Value} {base : Heap}
end
section
variable {X : Cx}
end
section
variable {κ : Type} [DecidableEq κ]
end
end L2
set_option linter.all false
set_option maxRecDepth 100000
set_option maxHeartbeats 4000000
namespace L2
open PySem PySem.Spec PyProof.Rows
section
variable {prog : Program} {w : World} {K : Type} [DecidableEq K] {knd : HeapKind prog w K} {A : Around} {E : Value → Shared → Prop} {s : Shared} {d a : Addr} {xs : List (K × Addr × Value)} {k : K} {z : Value}
end
section
variable {X : Cx} {K : PySem.W.Frag}
end
end L2
set_option linter.all false
set_option maxRecDepth 100000
set_option maxHeartbeats 4000000
namespace L2
open PySem PySem.Spec PyProof.Rows
section
variable {X : Cx} {K : PySem.W.Frag}
end
section
variable {X : Cx} {es : List Expr} {k : Nat} {tpos : Pos}
end
section
variable {elt tg iter : Expr} {ifs : List Expr} {scope : Scope} {pos : Pos} {N : List Str} {js : List (Option Nat)} {wi : TI} {g : TG} {tc : TT} {te : TE}
end
end L2
set_option linter.all false
set_option maxRecDepth 100000
set_option maxHeartbeats 4000000
namespace L2
open PySem PySem.Spec PyProof.Rows
section
variable {κ : Type} [DecidableEq κ]
noncomputable def metK (val : Nat → κ) : Nat → List κ
 | 0=>[]
 | i + 1=>if val i ∈ metK val i then metK val i else metK val i ++ [val i]
theorem J5p (val : Nat → κ) : ∀ i,(metK val i).length ≤ i
 | 0=>Nat.le_refl _
 | i + 1=>by
  have:=J5p val i
  rw [metK]
  split
  ·omega
  ·rw [List.length_append,List.length_singleton]; omega
theorem Jai (val : Nat → κ) (i : Nat) (x : κ) : decide (x ∈ metK val (i + 1)) = (decide (x ∈ metK val i) || decide (x = val i)):=by
 rw [metK]
 by_cases h : val i ∈ metK val i
 ·rw [if_pos h]
  by_cases e : x = val i
  ·rw [e,decide_eq_true h]; rfl
  ·rw [decide_eq_false e,Bool.or_false]
 ·rw [if_neg h]
  by_cases e : x = val i <;> by_cases e2 : x ∈ metK val i <;> simp [e,e2]
theorem J9L (val : Nat → κ) (i : Nat) : (metK val (i + 1)).length = if decide (val i ∈ metK val i) = true then (metK val i).length else (metK val i).length + 1:=by
 rw [metK]
 by_cases h : val i ∈ metK val i
 ·rw [if_pos h,if_pos (decide_eq_true h)]
 ·rw [if_neg h,if_neg (by rw [decide_eq_false h]; exact Bool.false_ne_true),List.length_append,List.length_singleton]
end
section
variable {p : Program} {w : World} {A : Around} {R : Result → Shared → Prop} {it : Addr} {fp wr : List Addr} {gs : Array GenState → Array GenState → Prop} {n : Nat} {Pv : Nat → Value → Prop} {St : Nat → Shared → Prop}
theorem J9o {κ : Type} [DecidableEq κ] (kd : PySem.KeyKind p w κ) (W : WalksS p w A.in1 it fp wr gs n Pv St) (z : Addr) (nz : z ∉ fp) (val : Nat → κ) (hv : ∀ i v,Pv i v → kd.is (val i) v = true ∧ v.scannable = true) (hb : n + 1 < scanBound) :
  ∀ (k i : Nat) (s : Shared),i + k = n → St i s → s.heap.SetOf kd z (fun x=>decide (x ∈ metK val i)) (metK val i).length → (∀ s',Moved (z :: wr) gs s s' → s'.heap.SetOf kd z (fun x=>decide (x ∈ metK val n)) (metK val n).length → R (.ok (.ret .none)) s') → codeAny (model p w) A (.builtin "set.update.loop" ⟨[.ref z,.ref it],[]⟩) R s:=by
 have nzw : z ∉ wr:=fun q=>nz (W.sub _ q)
 have wid : ∀ b ∈ wr,b ∈ z :: wr:=fun b q=>List.mem_cons_of_mem _ q
 intro k
 induction k with
 | zero =>
  intro i s ek st so out
  have ei : i = n:=by omega
  subst ei
  refine codeAny_builtin PyProof.Rows.F.entry_set_update_loop ?_
  rw [Around.under_plainId PyProof.Rows.F.plain_set_update_loop _]
  show wpAny _ A.in1 (pyNext (.ref it) >>= _) _ _ s
  refine wpAny_bind (W.done s _ _ st fun s1 mv=>?_)
  show wpAny _ A.in1 (ret Value.none) _ _ s1
  refine wpAny_pure (out s1 (mv.mono wid) ?_)
  obtain ⟨o,es,ep,tb,ho,rest⟩:=so
  exact ⟨o,es,ep,tb,mv.heap z _ nzw ho,rest⟩
 | succ k ih =>
  intro i s ek st so out
  refine codeAny_builtin PyProof.Rows.F.entry_set_update_loop ?_
  rw [Around.under_plainId PyProof.Rows.F.plain_set_update_loop _]
  show wpAny _ A.in1 (pyNext (.ref it) >>= _) _ _ s
  refine wpAny_bind (W.item i s _ _ (by omega) st fun v s1 pv st1 mv=>?_)
  obtain ⟨h1,h2⟩:=hv i v pv
  have so1 : s1.heap.SetOf kd z (fun x=>decide (x ∈ metK val i)) (metK val i).length:=by
   obtain ⟨o,es,ep,tb,ho,rest⟩:=so
   exact ⟨o,es,ep,tb,mv.heap z _ nzw ho,rest⟩
  show wpAny _ A.in1 (holding [v] (setAdd z v) >>= _) _ _ s1
  refine wpAny_bind (wpAny_holding ?_)
  unfold setAdd
  refine wpAny_holding (wpAny_bind (kd.pyHash (k:=val i) h1 ?_))
  have rm : (metK val i).length + 1 < scanBound:=by have:=J5p val i; omega
  refine wpAny_setAddHashed_of (knd:=kd) (s:={ s1 with toks:=s1.toks + 1 }) h1 h2 so1 rm fun h' sb so2=>?_
  have so3 : h'.SetOf kd z (fun x=>decide (x ∈ metK val (i + 1))) (metK val (i + 1)).length:=PyProof.Rows.SetOf_congr so2 (fun x=>(Jai val i x).symm) (J9L val i).symm
  refine wpAny_pure ⟨plainId_quiet PyProof.Rows.F.plain_set_update_loop _,ih (i + 1) _ (by omega) (W.frame _ s1 _ _ st1 (Nat.le_succ _) fun b bf o e=>?_) so3 fun s2 mv2 so4=>?_⟩
  ·rw [sb.2 b (fun q : b = z=>nz (by rw [← q]; exact bf))]; exact e
  ·refine out s2 (Moved.trans W.gtrans ((mv.mono wid).then_heap (Nat.le_succ _) fun b o hn e=>?_) mv2) so4
   rw [sb.2 b (fun q : b = z=>hn (by rw [q]; exact List.mem_cons_self))]; exact e
end
section
variable {p : Program} {w : World} {A : Around} {E : Value → Shared → Prop} {s : Shared}
theorem JaX {x : Str} {t : Tok} {Q : Value → Shared → Prop} (hh : A.handled = none) (hb : x.cps.size + 1 < scanBound)
  (h : ∀ (h' : Heap) (tk : Nat),h'.SetOf (PySem.strKind p w) s.heap.objs.size (fun k=>decide (k ∈ metK (fun i=>(⟨#[x.cps.getD i 0]⟩ : Str)) x.cps.size)) (metK (fun i=>(⟨#[x.cps.getD i 0]⟩ : Str)) x.cps.size).length →
   (∀ b o,b < s.heap.objs.size → s.heap.get? b = some o → h'.get? b = some o) → Q (.ref s.heap.objs.size) { s with heap:=h',toks:=tk }) :
  wpAny (model p w) A (call (.type "set") [.str x t]) Q E s:=by
 obtain ⟨c,tl,mro⟩:=PySem.F.called_set.mro
 have m1:=PySem.F.called_set.made
 have m2:=PySem.F.called_set.sub
 refine wpAny_call (codeAny_of_tree ?_)
 show wpAny _ _ (callAny (.type "set") _) _ _ _
 refine wpAny_pure ⟨Code.quiet_builtin _ (by decide +kernel),codeAny_builtin PySem.F.entry_type_call ?_⟩
 rw [Around.under_plain (weight_type_call_type "set" [.str x t] []) rfl]
 have m3:=PySem.F.called_set.notType
 have m4:=PySem.F.called_set.canCreate
 have m5:=PySem.F.typeCall_set_1 (.str x t)
 repeat (any_goals (first | assumption | wp_step))
 have pre:=code_set_new_1 (prog:=p) (w:=w) (A:=A.in1) (s:=s) (.str x t) (E:=E) (Q₁:=fun ob s1=>∃ led : Bool,ob = .ref s.heap.objs.size ∧ s1 = { s with heap:=s.heap.push { cls:=.type "set",dict:=none,data:=.set #[] 0 (.fresh 0 0 led) } }) fun led=>⟨led,rfl,rfl⟩
 refine codeAny_mono pre fun r s1 hr=>?_
 cases r with
 | error e=>exact hr
 | ok fl =>
  cases fl with
  | ret ob =>
   obtain ⟨led,rfl,rfl⟩:=hr
   generalize hO : ({ cls:=.type "set",dict:=none,data:=.set #[] 0 (.fresh 0 0 led) } : Obj) = O
   have cO : O.cls = .type "set":=by rw [← hO]
   have gO : (s.heap.push O).get? s.heap.objs.size = some O:=Heap.get?_push_size _ (by rw [← hO]; rfl)
   have tO : Shared.TypeIs { s with heap:=s.heap.push O } (.ref s.heap.objs.size) "set":=⟨_,gO,cO⟩
   have li:=PySem.F.called_set.init.lookup
   have bi:=PySem.F.called_set.init.bind (.ref s.heap.objs.size)
   repeat (any_goals (first | assumption | wp_step))
   refine codeAny_mono (codeAny_call_builtin (R:=wants (fun r s2=>r = .none ∧ ∃ h' tk,s2 = { s with heap:=h',toks:=tk } ∧ h'.SetOf (PySem.strKind p w) s.heap.objs.size (fun k=>decide (k ∈ metK (fun i=>(⟨#[x.cps.getD i 0]⟩ : Str)) x.cps.size)) (metK (fun i=>(⟨#[x.cps.getD i 0]⟩ : Str)) x.cps.size).length ∧ ∀ b o,b < s.heap.objs.size → s.heap.get? b = some o → h'.get? b = some o) E) PySem.F.called_set.init.plain PySem.F.entry_set_init (check_set_init_1 tO ?_)) fun r2 s2 hr2=>?_
   ·have q1 : isSubtype (.type "str") (.type "set") = pure false:=by rw [isSubtype_type]; kernel_rfl
    have q2 : isSubtype (.type "str") (.type "frozenset") = pure false:=by rw [isSubtype_type]; kernel_rfl
    have q3 : (Value.type "str" == Value.type "dict") = false:=by decide
    subst hO
    unfold Builtin.«set.__init__» noKeywords Builtin.Frozenset.updateFrom
    generalize hPI : pyIter = PI
    wp_walk
    subst hPI
    refine wpAny_pyIter_str fun o2 St hW st0=>?_
    refine wpAny_bind (wpAny_runValue ?_)
    have W:=hW A.in1.in1.in1 (by simp [hh])
    have ez : (s.heap.push { cls:=.type "set",dict:=none,data:=.set #[] 0 (.fresh 0 0 led) }).objs.size = s.heap.objs.size + 1:=Heap.size_push ..
    have nz : s.heap.objs.size ∉ [(s.heap.push { cls:=.type "set",dict:=none,data:=.set #[] 0 (.fresh 0 0 led) }).objs.size]:=by
     rw [ez,List.mem_singleton]
     omega
    refine J9o (PySem.strKind p w) W.toS s.heap.objs.size nz (fun i=>(⟨#[x.cps.getD i 0]⟩ : Str)) (fun i v sv=>?_) hb x.cps.size 0 _ (Nat.zero_add _) st0 ?_ fun s3 mv so=>?_
    ·obtain ⟨cc,u,e1,rfl⟩:=sv
     have e2 : x.cps.getD i 0 = cc:=by rw [Array.getD_eq_getD_getElem?,e1]; rfl
     exact ⟨by show (PySem.strKind p w).is ⟨#[x.cps.getD i 0]⟩ (.str ⟨#[cc]⟩ u) = true; rw [e2]; exact strKind_is p w _ u,rfl⟩
    ·have g2:=Heap.get?_push_of_some o2 gO
     exact PyProof.Rows.SetOf_congr ((PyProof.Rows.setObjOf_fresh (knd:=PySem.strKind p w) led).setOf g2 (by unfold scanBound; omega)) (fun _=>rfl) rfl
    ·obtain ⟨h3,g3,d3,t3,os3⟩:=s3
     have a1 : g3 = s.gens:=mv.gens
     have a2 : d3 = s.drawn:=mv.drawn
     have a3 : os3 = s.os:=mv.os
     subst a1 a2 a3
     show wpAny _ _ _ _ _ _
     refine wpAny_pure ?_
     show wpAny _ _ (ret Value.none) _ _ _
     refine wpAny_pure ⟨rfl,h3,t3,rfl,so,fun b o lt e=>?_⟩
     refine mv.heap b o ?_ (Heap.get?_push_of_some _ (Heap.get?_push_of_some _ e))
     rw [ez]
     simp only [List.mem_cons,List.not_mem_nil,or_false,not_or]
     exact ⟨Nat.ne_of_lt lt,Nat.ne_of_lt (Nat.lt_succ_of_lt lt)⟩
   ·cases r2 with
    | error e=>exact hr2
    | ok fl2 =>
     cases fl2 with
     | ret r =>
      obtain ⟨rfl,h',tk,rfl,so,kp⟩:=hr2
      repeat (any_goals (first | assumption | wp_step))
      exact h _ _ so kp
     | _=>exact hr2.elim
  | _=>exact hr.elim
end
noncomputable def SO (a : Addr) (n : Nat) : HO:=.ext fun h=>∃ o es ep t,h.get? a = some o ∧ o.ExactSet ∧ o.data = .set es ep t ∧ t.fits es.size = true ∧ es.size = n ∧ n < 4096
theorem SO.ok {P : Program} {w : World} {H : Hp} {h : Heap} {a : Addr} {n : Nat} (q : ∃ o es ep t,h.get? a = some o ∧ o.ExactSet ∧ o.data = .set es ep t ∧ t.fits es.size = true ∧ es.size = n ∧ n < 4096) : J0X P w H h a (SO a n) :=
 ⟨q,let ⟨o,_,_,_,e,_⟩:=q; ⟨o,e⟩,fun _ _ ⟨o,es,ep,t,e,c⟩ k=>⟨o,es,ep,t,k o e,c⟩⟩
noncomputable def J44 (l : List Nat) : Nat:=(metK (fun i=>(⟨#[l.getD i 0]⟩ : Str)) l.length).length
section
variable {X : Cx}
theorem J9F (hc : X.calm = true) : J1X X (.type "set") (fun xs H Q=>∃ l,xs = [T l] ∧ l.length ≤ 1000 ∧ ∀ p,H p = none → Q (.ref p) (upd H p (SO p (J44 l)))):=by
 intro pins s σ H xs us Q I r h
 obtain ⟨l,rfl,hl,q⟩:=h
 obtain ⟨u,rfl,ru⟩:=r.one
 obtain ⟨t,rfl⟩:=ru
 have hb : (⟨l.toArray⟩ : Str).cps.size + 1 < scanBound:=by
  show l.toArray.size + 1 < 4096
  rw [List.size_toArray]
  omega
 refine JaX (x:=⟨l.toArray⟩) (I.ok.hd hc) hb fun h' tk so kp=>?_
 obtain ⟨o,es,ep,tb,ho,hex,hd,hel,hmem,hb2,hf,hn⟩:=so
 have e1 : (metK (fun i=>(⟨#[(⟨l.toArray⟩ : Str).cps.getD i 0]⟩ : Str)) (⟨l.toArray⟩ : Str).cps.size).length = J44 l:=by
  unfold J44
  have e : (fun i=>(⟨#[(⟨l.toArray⟩ : Str).cps.getD i 0]⟩ : Str)) = fun i=>(⟨#[l.getD i 0]⟩ : Str):=by
   funext i
   show (⟨#[l.toArray.getD i 0]⟩ : Str) = _
   rw [Array.getD_eq_getD_getElem?,List.getElem?_toArray,List.getD_eq_getElem?_getD]
  rw [e]
  show (metK _ l.toArray.size).length = _
  rw [List.size_toArray]
 have hz : es.size = J44 l:=by rw [← e1]; omega
 have hz2 : J44 l < 4096:=by
  have : es.size < 4096:=hb2
  omega
 exact ⟨.ref s.heap.objs.size,_,I.laid (o:=SO s.heap.objs.size (J44 l)) (t':=tk) (fun b o e=>kp b o (Heap.lt_size e) e) (Nat.le_refl _) (SO.ok ⟨o,es,ep,tb,ho,hex,hd,hf,hz,hz2⟩),rfl,q _ (I.hok.fresh (Nat.le_refl _))⟩
theorem J8t : J1X X (.builtin "len") (fun xs H Q=>∃ (p : Addr) (n : Nat),xs = [.ref p] ∧ H p = some (SO p n) ∧ Q (.int n) H):=by
 intro pins s σ H xs us Q I r h
 obtain ⟨p,n,rfl,hp,q⟩:=h
 obtain ⟨u,rfl,ru⟩:=r.one
 cases ru
 obtain ⟨⟨o,es,ep,t,ho,hex,hd,hf,hz,hb⟩,_⟩:=I.hok p _ hp
 refine call_len_set ho hex hd hf ?_ ⟨.int es.size,H,I.tok _,⟨_,rfl⟩,by rw [hz]; exact q⟩
 omega
end
end L2
set_option linter.all false
set_option maxRecDepth 100000
namespace L2
open PySem PySem.Spec PyProof.Rows
section
variable {X : Cx}
theorem Jco {c : Nat} (h0 : 48 ≤ c) (h1 : c ≤ 57) : PySem.intText? ⟨[c].toArray⟩ = some ((c : Int) - 48):=by
 have key : ∀ k : Nat,k < 10 → PySem.intText? ⟨[48 + k].toArray⟩ = some (((48 + k : Nat) : Int) - 48):=by decide +kernel
 have:=key (c - 48) (by omega)
 rwa [show 48 + (c - 48) = c by omega] at this
theorem J2c : J1X X (.type "int") (fun xs H Q=>∃ c,xs = [T [c]] ∧ 48 ≤ c ∧ c ≤ 57 ∧ Q (.int ((c : Int) - 48)) H):=by
 intro pins s σ H xs us Q I r h
 obtain ⟨c,rfl,h0,h1,q⟩:=h
 obtain ⟨u,rfl,ru⟩:=r.one
 obtain ⟨t,rfl⟩:=ru
 exact PySem.W.KIN.call_text (Jco h0 h1) (by show 1 ≤ 640; decide) ⟨.int ((c : Int) - 48),H,I.tok _,⟨_,rfl⟩,q⟩
theorem J3X {x : Str} {l : List Nat} {pos : Pos} (hg : Gl X x) (hm : ∃ t,X.mg x = some (.str ⟨l.toArray⟩ t)) (hd : (x == ("__debug__" : Str)) = false:=by decide) : PE X (.Name x pos) (tC (T l)):=by
 obtain ⟨t,hm⟩:=hm
 exact J0W hg hm ⟨t,rfl⟩ hd
theorem JaU {x : Str} {n : Int} {pos : Pos} (hg : Gl X x) (hm : ∃ t,X.mg x = some (.int n t)) (hd : (x == ("__debug__" : Str)) = false:=by decide) : PE X (.Name x pos) (tC (.int n)):=by
 obtain ⟨t,hm⟩:=hm
 exact J0W hg hm ⟨t,rfl⟩ hd
end
end L2
set_option linter.all false
set_option maxRecDepth 100000
set_option maxHeartbeats 4000000
namespace L2
open PySem PySem.Spec PyProof.Rows
section
variable {X : Cx} {e : Expr} {pos : Pos}
end
end L2
set_option linter.all false
set_option maxRecDepth 100000
set_option maxHeartbeats 4000000
namespace L2
open PySem PySem.Spec PyProof.Rows
section
variable {X : Cx}
end
end L2
set_option linter.all false
set_option maxRecDepth 100000
set_option maxHeartbeats 4000000
namespace L2
open PySem PySem.Spec PyProof.Rows
section
variable {X : Cx} {K : PySem.W.Frag} {pins : List (Addr × Obj)} {σ : St} {H : Hp} {s : Shared} {A : Around}
end
end L2
namespace L2
open PySem
end L2
set_option linter.all false
set_option maxRecDepth 100000
set_option maxHeartbeats 4000000
namespace L2
open PySem PySem.Spec PyProof.Rows
section
variable {X : Cx}
end
end L2
set_option linter.all false
set_option maxRecDepth 100000
set_option maxHeartbeats 4000000
namespace L2
open PySem PySem.Spec PyProof.Rows
section
variable {X : Cx} {K : PySem.W.Frag}
end
end L2
set_option linter.all false
set_option maxRecDepth 100000
set_option maxHeartbeats 4000000
namespace L2
open PySem PySem.Spec PyProof.Rows PySem.NumText
section
variable {X : Cx}
end
end L2
set_option linter.all false
set_option maxRecDepth 100000
set_option maxHeartbeats 4000000
namespace L2
open PySem PySem.Spec PyProof.Rows
section
variable {X : Cx} {a b c d : Expr} {ta tb tc td : TE} {pos : Pos}
theorem JbJ {b : List Stmt} {h₀ : ExceptHandler} {hs : List ExceptHandler} {tb : TS} (hx : X.xe = fun _ _=>False) (hb : PSs X b tb) : PS X (.Try b (h₀ :: hs) [] [] pos) tb:=by
 intro pins s σ H D I h
 refine wpAny_Try_except ?_
 refine wpAny_mono (hb pins s σ H D I h) (fun f s1 q=>?_) (fun e s1 z=>by rw [hx] at z; exact z.elim)
 cases f with
 | next=>exact wpAny_execs_nil q
 | brk=>exact q
 | cont=>exact q
 | ret u=>exact q
end
section
variable {X : Cx} {K : PySem.W.Frag}
end
section
open PySem.StrLaws Builtin Builtin.Str
end
section
variable {X : Cx} {K : PySem.W.Frag}
end
section
variable {X : Cx} {e : Expr} {te : TE} {pos : Pos}
end
end L2
set_option linter.all false
set_option maxRecDepth 100000
set_option maxHeartbeats 4000000
namespace L2
open PySem PySem.Spec PyProof.Rows
theorem JbO (x : Str) : x = ⟨x.cps.toList.toArray⟩:=by cases x; simp
theorem J35 {X : Cx} : OpR X (binaryOp .Mult) (fun x y H Q=>∃ l k,x = T l ∧ y = .int k ∧ l.length ≤ 100 ∧ -1000000 ≤ k ∧ k ≤ 1000 ∧ ∀ t : List Nat,t.length ≤ l.length * k.toNat → Q (T t) H):=by
 intro pins s σ H x y v u Q I rx ry h
 obtain ⟨l,k,rfl,rfl,hl,h0,h1,q⟩:=h
 obtain ⟨t,rfl⟩:=rx
 obtain ⟨t',rfl⟩:=ry
 have hL : (⟨l.toArray⟩ : Str).length = l.length:=J2k l
 refine SB.mul (mulOk_of 100 1000 (by rw [hL]; exact hl) h1 (by omega) (by decide) (by decide)) fun t2 k2=>?_
 have e:=len_mul ⟨l.toArray⟩ k
 rw [hL] at e
 have e2 : (Txt.mul ⟨l.toArray⟩ k).cps.toList.length ≤ l.length * k.toNat:=by
  have e3 : (Txt.mul ⟨l.toArray⟩ k).length = (Txt.mul ⟨l.toArray⟩ k).cps.toList.length:=by simp [Str.length]
  rw [← e3]
  by_cases hk : k < 0
  ·rw [if_pos (by simpa using hk)] at e
   have : (Txt.mul ⟨l.toArray⟩ k).length = 0:=by omega
   omega
  ·rw [if_neg (by simpa using hk)] at e
   have e4 : k = (k.toNat : Int):=by omega
   have e5 : ((Txt.mul ⟨l.toArray⟩ k).length : Int) = ((l.length * k.toNat : Nat) : Int):=by rw [e,Int.natCast_mul,← e4]
   omega
 have q2:=q _ e2
 refine ⟨T (Txt.mul ⟨l.toArray⟩ k).cps.toList,H,I.tok _,⟨t2,?_⟩,q2⟩
 rw [← JbO]
section
variable {X : Cx} {K : PySem.W.Frag}
noncomputable def rLow : V → List V → Hp → VK → Prop:=fun x vs H Q=>∃ (l : List Nat),x = T l ∧ vs = [] ∧ l.length ≤ 1000 ∧ ∀ t : List Nat,t.length ≤ 3 * l.length → Q (T t) H
theorem JcQ : MtR X "str.lower" rLow:=by
 intro pins s σ H x vs v us Q I rx rv h
 obtain ⟨l,rfl,rfl,hl,q⟩:=h
 obtain ⟨t,rfl⟩:=rx
 cases rv
 have hL : (⟨l.toArray⟩ : Str).length = l.length:=J2k l
 refine SCL.lower (by rw [hL]; omega) fun hb=>?_
 rw [hL] at hb
 have e3 : (Txt.lower ⟨l.toArray⟩).length = (Txt.lower ⟨l.toArray⟩).cps.toList.length:=by simp [Str.length]
 have q2:=q (Txt.lower ⟨l.toArray⟩).cps.toList (by rw [← e3]; exact hb)
 exact ⟨T (Txt.lower ⟨l.toArray⟩).cps.toList,H,I.tok _,⟨s.toks,by rw [← JbO]⟩,q2⟩
theorem J8V {o : Expr} {to : TE} {apos cpos : Pos} (h : X.K = K) (ho : PE X o to)
  (hbase : attributeBase o "lower" X.env (eval o X.env) = eval o X.env:=by rfl) (hline : (apos.endLine == cpos.line) = true:=by rfl) :
  PE X (.Call (.Attribute o "lower" apos) [] [] cpos) (tBM0 K "str" rLow to):=h ▸ Jcg F.plainAttrs_str F.slot_str_lower F.type_str_lower JcQ ho hbase hline
theorem JaB (c : Nat) : ∀ l : List Nat,cnt c l = (l.count c : Int)
 | []=>rfl
 | n :: r=>by
  rw [cnt_cons,JaB c r,List.count_cons]
  by_cases e : n = c
  ·simp [e]; omega
  ·simp [e]
noncomputable def rCnt : V → List V → Hp → VK → Prop:=fun x vs H Q=>∃ (l : List Nat) (c : Nat),x = T l ∧ vs = [T [c]] ∧ Q (.int (l.count c : Nat)) H
theorem JcK : MtR X "str.count" rCnt:=by
 intro pins s σ H x vs v us Q I rx rv h
 obtain ⟨l,c,rfl,rfl,q⟩:=h
 obtain ⟨t,rfl⟩:=rx
 obtain ⟨u,rfl,ru⟩:=rv.one
 obtain ⟨t2,rfl⟩:=ru
 refine SC.count ?_
 have e : Txt.count ⟨l.toArray⟩ ⟨#[c]⟩ = (l.count c : Int):=by rw [count_is]; exact JaB c l
 rw [e]
 exact ⟨.int (l.count c : Nat),H,I.tok _,⟨_,rfl⟩,q⟩
theorem Jbk {o e : Expr} {to : TE} {t : TA} {apos cpos : Pos} (h : X.K = K) (ho : PE X o to) (ha : PA X [e] t)
  (hbase : attributeBase o "count" X.env (eval o X.env) = eval o X.env:=by rfl)
  (hfew : ((backTo cpos (starEach [e] X.env)).all (fun x=>!x.1) && (backToKw cpos (keywordEach [] X.env)).all (fun x=>x.1.isSome)
   && decide ([e].length + ([] : List Keyword).length + (if ([] : List Keyword).isEmpty then 0 else 1) < 30)) = true:=by rfl)
  (hline : (apos.endLine == cpos.line) = true:=by rfl) (hs : starEach [e] X.env = (false,eval e X.env) :: starEach [] X.env:=by rfl) (hplain : (backTo cpos (starEach [] X.env)).any (·.1) = false:=by rfl) :
  PE X (.Call (.Attribute o "count" apos) [e] [] cpos) (tBM K "str" rCnt to t):=h ▸ J64 F.plainAttrs_str F.slot_str_count F.type_str_count JcK ho ha hbase hfew hline hs hplain
noncomputable def Jax : List Expr → List (List Nat) → Bool
 | [],[]=>true
 | .Constant (.str x) _ _ :: es,l :: ls=>decide (x.cps = l.toArray) && Jax es ls
 | _,_=>false
noncomputable def Jdj (ls : List (List Nat)) : TA:=fun _ H Q=>Q (ls.map T) H
theorem J3Y : ∀ {es : List Expr} {ls : List (List Nat)},Jax es ls = true → PA X es (Jdj ls)
 | [],[],_=>J7
 | .Constant (.str x) j pos :: es,l :: ls,h=>by
  have h' : (decide (x.cps = l.toArray) && Jax es ls) = true:=h
  rw [Bool.and_eq_true] at h'
  have e : x = ⟨l.toArray⟩:=by cases x; simpa using h'.1
  exact J0 (Jl e) (J3Y h'.2) rfl
 | [],_ :: _,h=>by cases h
 | .Constant (.str x) j pos :: es,[],h=>by cases h
noncomputable def J91 : Expr → Bool
 | .ListComp _ _ _ _=>false
 | .SetComp _ _ _ _=>false
 | .DictComp _ _ _ _ _=>false
 | _=>true
theorem Jdh {e : Expr} {t : Option Expr} {l : Nat} {env : Env} (h : J91 e = true) : swapsWith e t l env = pure false:=by
 cases e <;> first | rfl | cases h
theorem Jn {i : Nat} {x : Str} {e : Expr} {te : TE} {pos pos' : Pos} (hN : X.N.Nodup) (hi : X.N[i]? = some x) (hx : Loc X.env.scope x) (he : PE X e te) (hs : J91 e = true:=by rfl) (hf : X.fn x = true ∨ X.env.scope.names.lookup x = some .local:=by first | exact .inl rfl | exact .inr rfl | assumption) :
  PS X (.Assign [.Name x pos'] e pos) (tAsg te (J4z i)):=Jcp hN hi hx he (Jdh hs) hf
end
end L2
set_option maxHeartbeats 4000000
namespace K06
open PySem L2
noncomputable def top (i : Nat) : Stmt:=PySem.Challenge.pw_rotafair_k06_what_is_no_rule.main.body.getD i (.Pass ⟨0,0,0,0⟩)
noncomputable abbrev J0L : Stmt:=J12 (top 14) 0
noncomputable abbrev J1k : Stmt:=J12 (top 15) 0
noncomputable abbrev J0U : Stmt:=J12 (top 16) 0
noncomputable abbrev J19 : Stmt:=J12 (top 17) 0
noncomputable abbrev J0t : Stmt:=J12 (top 18) 0
noncomputable abbrev J1J : Stmt:=J12 (top 19) 0
noncomputable abbrev J1H : Stmt:=top 35
noncomputable abbrev J1g : Stmt:=top 32
noncomputable abbrev J2g : Stmt:=top 33
noncomputable abbrev J1m : Stmt:=top 34
noncomputable abbrev J0l : Stmt:=top 29
noncomputable abbrev J1K : Stmt:=top 31
noncomputable abbrev J0I : Stmt:=top 30
noncomputable abbrev J0P : Stmt:=top 28
noncomputable abbrev J1a : Stmt:=top 27
noncomputable abbrev J0O : Stmt:=top 11
noncomputable abbrev J0J : Stmt:=J12 (top 14) 3
noncomputable abbrev J1l : Stmt:=J12 (top 15) 3
noncomputable abbrev J0V : Stmt:=J12 (top 16) 3
noncomputable abbrev J1i : Stmt:=top 20
noncomputable abbrev J1c : Stmt:=top 12
noncomputable abbrev J1d : Stmt:=J12 (top 17) 3
noncomputable abbrev J0w : Stmt:=J12 (top 18) 3
noncomputable abbrev J1G : Stmt:=J12 (top 19) 3
noncomputable abbrev J0v : Stmt:=top 37
noncomputable abbrev J16 : Stmt:=top 38
noncomputable abbrev J1F : Stmt:=top 39
noncomputable abbrev J1I : Stmt:=top 40
noncomputable abbrev J2e : Stmt:=top 41
noncomputable abbrev J0x : Stmt:=top 42
noncomputable abbrev J0G : Stmt:=top 43
noncomputable abbrev J0h : Stmt:=top 44
noncomputable abbrev J0K : Stmt:=top 45
noncomputable abbrev J17 : Stmt:=top 46
noncomputable abbrev J0y : Stmt:=top 47
noncomputable abbrev J1b : Stmt:=top 48
noncomputable abbrev J15 : Stmt:=top 49
noncomputable abbrev J2x : Stmt:=top 50
theorem J5K : Jw ["self","word"] ["self","word"] (J8 J0L):=⟨rfl,rfl,rfl,by decide +kernel,rfl,by decide +kernel,by decide +kernel⟩
theorem J6D : Jw ["self","many","marks","days"] ["self","many","marks","days"] (J8 J1k):=⟨rfl,rfl,rfl,by decide +kernel,rfl,by decide +kernel,by decide +kernel⟩
theorem J5Q : Jw ["self","many","marks","days"] ["self","many","marks","days"] (J8 J0U):=⟨rfl,rfl,rfl,by decide +kernel,rfl,by decide +kernel,by decide +kernel⟩
theorem J6C : Jw ["self","left","right"] ["self","left","right"] (J8 J19):=⟨rfl,rfl,rfl,by decide +kernel,rfl,by decide +kernel,by decide +kernel⟩
theorem J5h : Jw ["self","left","right"] ["self","left","right"] (J8 J0t):=⟨rfl,rfl,rfl,by decide +kernel,rfl,by decide +kernel,by decide +kernel⟩
theorem J7A : Jw ["self","inner"] ["self","inner"] (J8 J1J):=⟨rfl,rfl,rfl,by decide +kernel,rfl,by decide +kernel,by decide +kernel⟩
theorem J8e : Jw ["word","signs"] ["word","signs"] (J8 J1H):=⟨rfl,rfl,rfl,by decide +kernel,rfl,by decide +kernel,by decide +kernel⟩
theorem J6f : Jw ["word","figures"] ["word","figures"] (J8 J1g):=⟨rfl,rfl,rfl,by decide +kernel,rfl,by decide +kernel,by decide +kernel⟩
theorem J8k : Jw ["word"] ["word"] (J8 J2g):=⟨rfl,rfl,rfl,by decide +kernel,rfl,by decide +kernel,by decide +kernel⟩
theorem J6o : Jw ["word"] ["word"] (J8 J1m):=⟨rfl,rfl,rfl,by decide +kernel,rfl,by decide +kernel,by decide +kernel⟩
theorem JW : Jw ["words","wanted","found","height","place","word"] ["words","wanted"] (J8 J0l):=⟨rfl,rfl,rfl,by decide +kernel,rfl,by decide +kernel,by decide +kernel⟩
theorem J7p : Jw ["words","first"] ["words","first"] (J8 J1K):=⟨rfl,rfl,rfl,by decide +kernel,rfl,by decide +kernel,by decide +kernel⟩
theorem J5J : Jw ["words"] ["words"] (J8 J0I):=⟨rfl,rfl,rfl,by decide +kernel,rfl,by decide +kernel,by decide +kernel⟩
theorem J1Q : Jw ["words","place"] ["words"] (J8 J0P):=⟨rfl,rfl,rfl,by decide +kernel,rfl,by decide +kernel,by decide +kernel⟩
theorem J3F : Jw ["text","words"] ["text"] (J8 J1a):=⟨rfl,rfl,rfl,by decide +kernel,rfl,by decide +kernel,by decide +kernel⟩
theorem J5O : Jw ["word","many","marks","days"] ["word","many","marks","days"] (J8 J0O):=⟨rfl,rfl,rfl,by decide +kernel,rfl,by decide +kernel,by decide +kernel⟩
theorem J5M : Jw ["self"] ["self"] (J8 J0J):=⟨rfl,rfl,rfl,by decide +kernel,rfl,by decide +kernel,by decide +kernel⟩
theorem J6u : Jw ["self"] ["self"] (J8 J1l):=⟨rfl,rfl,rfl,by decide +kernel,rfl,by decide +kernel,by decide +kernel⟩
theorem J5G : Jw ["self"] ["self"] (J8 J0V):=⟨rfl,rfl,rfl,by decide +kernel,rfl,by decide +kernel,by decide +kernel⟩
theorem J6K : Jw ["rule"] ["rule"] (J8 J1i):=⟨rfl,rfl,rfl,by decide +kernel,rfl,by decide +kernel,by decide +kernel⟩
theorem J3E : Jw ["rule","in_brackets","text"] ["rule","in_brackets"] (J8 J1c):=⟨rfl,rfl,rfl,by decide +kernel,rfl,by decide +kernel,by decide +kernel⟩
theorem J2J : Jw ["self","left","right"] ["self"] (J8 J1d):=⟨rfl,rfl,rfl,by decide +kernel,rfl,by decide +kernel,by decide +kernel⟩
theorem J2i : Jw ["self","left","right"] ["self"] (J8 J0w):=⟨rfl,rfl,rfl,by decide +kernel,rfl,by decide +kernel,by decide +kernel⟩
theorem J7a : Jw ["self"] ["self"] (J8 J1G):=⟨rfl,rfl,rfl,by decide +kernel,rfl,by decide +kernel,by decide +kernel⟩
theorem J5n : Jw ["_law_script","_law_k"] ["_law_script","_law_k"] (J8 J0v):=⟨rfl,rfl,rfl,by decide +kernel,rfl,by decide +kernel,by decide +kernel⟩
theorem J0S : Jw ["_law_cell","_law_letters","_law_here","_law_signs_here","_law_word_here","_law_counted"] ["_law_cell"] (J8 J16):=⟨rfl,rfl,rfl,by decide +kernel,rfl,by decide +kernel,by decide +kernel⟩
theorem J0c : Jw ["_law_cells","_law_text","_law_cell","_law_way"] ["_law_cells"] (J8 J1F):=⟨rfl,rfl,rfl,by decide +kernel,rfl,by decide +kernel,by decide +kernel⟩
theorem J2Y : Jw ["_law_cell","_law_some"] ["_law_cell"] (J8 J1I):=⟨rfl,rfl,rfl,by decide +kernel,rfl,by decide +kernel,by decide +kernel⟩
theorem J0e : Jw ["_law_cell","_law_row","_law_here","_law_at","_law_many","_law_signs_here","_law_days"] ["_law_cell"] (J8 J2e):=⟨rfl,rfl,rfl,by decide +kernel,rfl,by decide +kernel,by decide +kernel⟩
theorem JP : Jw ["_law_text","_law_cell","_law_words","_law_at","_law_way","_law_behind","_law_more","_law_there"] ["_law_text","_law_cell"] (J8 J0x):=⟨rfl,rfl,rfl,by decide +kernel,rfl,by decide +kernel,by decide +kernel⟩
theorem J6h : Jw ["_law_word_here","_law_signs_here","_law_most"] ["_law_word_here","_law_signs_here","_law_most"] (J8 J0G):=⟨rfl,rfl,rfl,by decide +kernel,rfl,by decide +kernel,by decide +kernel⟩
theorem J1Z : Jw ["_law_words","_law_at","_law_letters","_law_sign"] ["_law_words","_law_at"] (J8 J0h):=⟨rfl,rfl,rfl,by decide +kernel,rfl,by decide +kernel,by decide +kernel⟩
theorem J10 : Jw ["_law_words","_law_found","_law_at"] ["_law_words"] (J8 J0K):=⟨rfl,rfl,rfl,by decide +kernel,rfl,by decide +kernel,by decide +kernel⟩
theorem J06 : Jw ["_law_tokens_here","_law_held","_law_token","_law_more"] ["_law_tokens_here"] (J8 J17):=⟨rfl,rfl,rfl,by decide +kernel,rfl,by decide +kernel,by decide +kernel⟩
theorem J1y : Jw ["_law_text","e","_law_others"] ["_law_text"] (J8 J0y):=⟨rfl,rfl,rfl,by decide +kernel,rfl,by decide +kernel,by decide +kernel⟩
theorem J2I : Jw ["_law_cell","_law_k","_law_number"] ["_law_cell","_law_k"] (J8 J1b):=⟨rfl,rfl,rfl,by decide +kernel,rfl,by decide +kernel,by decide +kernel⟩
theorem J27 : Jw ["_law_text","_law_words","_law_own"] ["_law_text"] (J8 J15):=⟨rfl,rfl,rfl,by decide +kernel,rfl,by decide +kernel,by decide +kernel⟩
theorem J2K : Jw ["_law_script","_law_k","_law_text","_law_cell"] ["_law_script"] (J8 J2x):=⟨rfl,rfl,rfl,by decide +kernel,rfl,by decide +kernel,by decide +kernel⟩
structure Tx (K : PySem.W.Frag) (mg : Str → Option Value) (J6 Jd J5 Jf J2 Jm J3 J4 Jh Jj Jk Ja J9 Jg : Addr) : Prop where
 J6E : MF K J6 "__init__" "Never.__init__" J0L
 J7s : MF K Jd "__init__" "Most.__init__" J1k
 J6i : MF K J5 "__init__" "Least.__init__" J0U
 J7g : MF K Jf "__init__" "Both.__init__" J19
 J5R : MF K J2 "__init__" "Either.__init__" J0t
 J8g : MF K Jm "__init__" "Not.__init__" J1J
 J9c : GF K mg "made_of" J1H
 J77 : GF K mg "is_figure" J1g
 J9j : GF K mg "is_word" J2g
 J7h : GF K mg "are_marks" J1m
 J55 : GF K mg "last_outside" J0l
 J8f : GF K mg "is_count" J1K
 J6j : GF K mg "read_plain" J0I
 J3M : GF K mg "read_words" J0P
 J7o : GF K mg "read_rule" J1a
 J6s : GF K mg "count_text" J0O
 J6v : MF K J6 "text" "Never.text" J0J
 J7u : MF K Jd "text" "Most.text" J1l
 J6r : MF K J5 "text" "Least.text" J0V
 J7j : GF K mg "is_joined" J1i
 J75 : GF K mg "part_text" J1c
 J7i : MF K Jf "text" "Both.text" J1d
 J5P : MF K J2 "text" "Either.text" J0w
 J86 : MF K Jm "text" "Not.text" J1G
 J5T : GF K mg "_law_cell_at" J0v
 J7x : GF K mg "_law_plain" J16
 J87 : GF K mg "_law_good" J1F
 J8j : GF K mg "_law_word" J1I
 J9f : GF K mg "_law_odd" J2e
 J5H : GF K mg "_law_changed" J0x
 J76 : GF K mg "_law_signs" J0G
 J5a : GF K mg "_law_is_plain" J0h
 J6c : GF K mg "_law_tokens" J0K
 J7b : GF K mg "_law_taken" J17
 J5S : GF K mg "_law_refused" J0y
 J7d : GF K mg "_law_mixed" J1b
 J79 : GF K mg "_law_right" J15
 Jdq : GF K mg "law" J2x
 J3U : CF K mg "Never" J6
 J3x : CF K mg "Most" Jd
 J2N : CF K mg "Least" J5
 J3w : CF K mg "Both" Jf
 J1v : CF K mg "Either" J2
 J7m : CF K mg "Not" Jm
 J7r : mg "RotaError" = some (.ref J3)
 J58 : mg "NoRule" = some (.ref J4)
 J9X : mg "NoName" = some (.ref Jh)
 JaZ : mg "NoDay" = some (.ref Jj)
 Jb0 : mg "NoRow" = some (.ref Jk)
 J9i : mg "TooWide" = some (.ref Ja)
 J9k : mg "NoHouse" = some (.ref J9)
 J9V : mg "Faulty" = some (.ref Jg)
 J2f : XCls K J4
 J9b : XIs K J4
 J04 : PySem.W.exmOne K (.ref J4) (.ref J3) = some true
 JZ : PySem.W.kitOne K (.ref J4) (.type "ValueError") = some true
 J0g : PySem.W.kitOne K (.ref J4) (.ref J4) = some true
 J0i : PySem.W.kitOne K (.ref J4) (.ref Jh) = some false
 J0p : PySem.W.kitOne K (.ref J4) (.ref Jj) = some false
 J0o : PySem.W.kitOne K (.ref J4) (.ref Jk) = some false
 J0b : PySem.W.kitOne K (.ref J4) (.ref Ja) = some false
 J09 : PySem.W.kitOne K (.ref J4) (.ref J9) = some false
 J0j : PySem.W.kitOne K (.ref J4) (.ref Jg) = some false
 Jb1 : J4G K J6
 J1R : PySem.W.kitOne K (.ref J6) (.ref J6) = some true
 J2a : PySem.W.kitOne K (.ref J6) (.ref Jd) = some false
 J1M : PySem.W.kitOne K (.ref J6) (.ref J5) = some false
 J1D : PySem.W.kitOne K (.ref J6) (.ref Jf) = some false
 J0E : PySem.W.kitOne K (.ref J6) (.ref J2) = some false
 J2s : PySem.W.kitOne K (.ref J6) (.ref Jm) = some false
 Jc8 : J4G K Jd
 J25 : PySem.W.kitOne K (.ref Jd) (.ref J6) = some false
 J2o : PySem.W.kitOne K (.ref Jd) (.ref Jd) = some true
 J28 : PySem.W.kitOne K (.ref Jd) (.ref J5) = some false
 J1V : PySem.W.kitOne K (.ref Jd) (.ref Jf) = some false
 J0Z : PySem.W.kitOne K (.ref Jd) (.ref J2) = some false
 J2G : PySem.W.kitOne K (.ref Jd) (.ref Jm) = some false
 Jb2 : J4G K J5
 J1P : PySem.W.kitOne K (.ref J5) (.ref J6) = some false
 J24 : PySem.W.kitOne K (.ref J5) (.ref Jd) = some false
 J1O : PySem.W.kitOne K (.ref J5) (.ref J5) = some true
 J1B : PySem.W.kitOne K (.ref J5) (.ref Jf) = some false
 J0F : PySem.W.kitOne K (.ref J5) (.ref J2) = some false
 J2m : PySem.W.kitOne K (.ref J5) (.ref Jm) = some false
 Jc9 : J4G K Jf
 J23 : PySem.W.kitOne K (.ref Jf) (.ref J6) = some false
 J2r : PySem.W.kitOne K (.ref Jf) (.ref Jd) = some false
 J29 : PySem.W.kitOne K (.ref Jf) (.ref J5) = some false
 J1T : PySem.W.kitOne K (.ref Jf) (.ref Jf) = some true
 J11 : PySem.W.kitOne K (.ref Jf) (.ref J2) = some false
 J2L : PySem.W.kitOne K (.ref Jf) (.ref Jm) = some false
 J9W : J4G K J2
 J1s : PySem.W.kitOne K (.ref J2) (.ref J6) = some false
 J1N : PySem.W.kitOne K (.ref J2) (.ref Jd) = some false
 J1x : PySem.W.kitOne K (.ref J2) (.ref J5) = some false
 J0Y : PySem.W.kitOne K (.ref J2) (.ref Jf) = some false
 J0q : PySem.W.kitOne K (.ref J2) (.ref J2) = some true
 J26 : PySem.W.kitOne K (.ref J2) (.ref Jm) = some false
 JcY : J4G K Jm
 J2n : PySem.W.kitOne K (.ref Jm) (.ref J6) = some false
 J2H : PySem.W.kitOne K (.ref Jm) (.ref Jd) = some false
 J2p : PySem.W.kitOne K (.ref Jm) (.ref J5) = some false
 J2j : PySem.W.kitOne K (.ref Jm) (.ref Jf) = some false
 J1A : PySem.W.kitOne K (.ref Jm) (.ref J2) = some false
 J3c : PySem.W.kitOne K (.ref Jm) (.ref Jm) = some true
 J0M : J0A K J6 "word"
 J18 : J0A K Jd "many"
 J0R : J0A K Jd "marks"
 J1e : J0A K Jd "days"
 J0Q : J0A K J5 "many"
 J0s : J0A K J5 "marks"
 J0T : J0A K J5 "days"
 J1j : J0A K Jf "left"
 J0N : J0A K Jf "right"
 J0u : J0A K J2 "left"
 J0k : J0A K J2 "right"
 J1f : J0A K Jm "inner"
 J1C : mg "ValueError" = none
 J7e : mg "all" = none
 J1U : mg "enumerate" = none
 J3I : mg "int" = none
 JC : mg "isinstance" = none
 J0B : mg "len" = none
 J2M : mg "range" = none
 J7t : mg "set" = none
 J5l : mg "str" = none
 J1z : ∃ t,mg "MOST_WORDS" = some (.int 60 t)
 J1w : ∃ t,mg "MARK_SIGNS" = some (.str ⟨[65,66,67,68,69,70,71,72,73,74,75,76,77,78,79,80,81,82,83,84,85,86,87,88,89,90,45,35].toArray⟩ t)
 J1u : ∃ t,mg "WORD_SIGNS" = some (.str ⟨[65,66,67,68,69,70,71,72,73,74,75,76,77,78,79,80,81,82,83,84,85,86,87,88,89,90,45,35,63].toArray⟩ t)
 J0C : ∃ t,mg "MANY_FIGURES" = some (.str ⟨[48,49,50,51,52,53,54,55].toArray⟩ t)
 J0D : ∃ t,mg "DAYS_FIGURES" = some (.str ⟨[49,50,51,52,53,54,55].toArray⟩ t)
theorem J1Y {α : Type} (l : List α) (k : Int) (h0 : 0 ≤ k) : cutN l (some k) none = l.drop k.toNat:=by
 unfold cutN
 have e : HT.sIx l.length 0 (some k) = min k.toNat l.length:=by
  show (if k < 0 then _ else min k.toNat l.length) = _
  rw [if_neg (by omega)]
 rw [e,HT.sIx_none]
 by_cases h : k.toNat ≤ l.length
 ·rw [Nat.min_eq_left h]
  exact List.take_of_length_le (by rw [List.length_drop]; omega)
 ·rw [Nat.min_eq_right (by omega),List.drop_eq_nil_of_le (Nat.le_refl _),List.drop_eq_nil_of_le (by omega),List.take_nil]
theorem J3B {α : Type} (l : List α) (k : Int) (h0 : 0 ≤ k) : cutN l none (some k) = l.take k.toNat:=by
 unfold cutN
 have e : HT.sIx l.length l.length (some k) = min k.toNat l.length:=by
  show (if k < 0 then _ else min k.toNat l.length) = _
  rw [if_neg (by omega)]
 rw [e,HT.sIx_none,List.drop_zero,Nat.sub_zero]
 by_cases h : k.toNat ≤ l.length
 ·rw [Nat.min_eq_left h]
 ·rw [Nat.min_eq_right (by omega),List.take_of_length_le (Nat.le_refl _),List.take_of_length_le (by omega)]
theorem J51 {α : Type} (l : List α) (lo hi : Option Int) : (cutN l lo hi).length ≤ l.length:=by
 unfold cutN
 rw [List.length_take,List.length_drop]
 omega
theorem J41 {α : Type} (l : List α) (i : Int) (h0 : 0 ≤ i) (h : i < l.length) : ∃ c,atI l i = some c ∧ l[i.toNat]? = some c:=by
 have hi : i.toNat < l.length:=by omega
 have e : i = ((i.toNat : Nat) : Int):=by omega
 have q : atI l ((i.toNat : Nat) : Int) = some l[i.toNat]:=J3W (by simp [hi])
 rw [← e] at q
 exact ⟨l[i.toNat],q,List.getElem?_eq_getElem hi⟩
theorem JcR (ns : List Int) (i : Int) (h0 : 0 ≤ i) (h : i < ns.length) : ∃ z,atI (ns.map V.int) i = some (.int z) ∧ ns[i.toNat]? = some z:=by
 obtain ⟨c,h1,h2⟩:=J41 (ns.map V.int) i h0 (by rw [List.length_map]; exact h)
 rw [List.getElem?_map] at h2
 cases hz : ns[i.toNat]? with
 | none=>rw [hz] at h2; cases h2
 | some z =>
  rw [hz] at h2
  have e : c = .int z:=(Option.some.inj h2).symm
  subst e
  exact ⟨z,h1,rfl⟩
noncomputable def Jb3 (K : PySem.W.Frag) : Sp:=fun vs H Q _=>∃ (a : Addr) (ns : List Int) (k : Int),vs = [.ref a,.int k] ∧ SqL K H a (ns.map V.int) ∧ 0 ≤ k ∧ ∀ v,Q (.int v) H
noncomputable def sp_law (K : PySem.W.Frag) : Sp:=fun vs H Q _=>∃ (a : Addr) (ns : List Int),vs = [.ref a] ∧ SqL K H a (ns.map V.int) ∧ ns.length ≤ 63 ∧ ∀ H',Q (.bl true) H'
theorem JcM {p : (Nat → Nat → St → Hp → Prop) → Prop} (h : ∃ W,p W) : ∃ W,p W:=h
theorem Jbl {p : (Nat → St → Hp → Prop) → Prop} (h : ∃ W,p W) : ∃ W,p W:=h
theorem Jdn {A B : Prop} (h : B) : if (!true) = true then A else B:=h
theorem Jda {A B : Prop} (h : A) : if (!false) = true then A else B:=h
theorem Jbo {i j : Int} (h1 : 0 < j) (h2 : j < 1073741824) : CDiv i j:=⟨h1,h2⟩
theorem Jdm {i j : Int} (h1 : -(2 ^ 64) < i) (h2 : i < 2 ^ 64) : CMul i j:=.inl ⟨h1,h2⟩
theorem Jdo {i j : Int} (h1 : -(2 ^ 64) < j) (h2 : j < 2 ^ 64) : CMul i j:=.inr ⟨h1,h2⟩
theorem Jcs {n : Int} (h : 0 < n) : 0 < n:=h
@[irreducible] def Here (p : Prop) : Prop:=p
theorem Here.mk {p : Prop} (h : p) : Here p:=by unfold Here; exact h
theorem Here.out {p : Prop} (h : Here p) : p:=by unfold Here at h; exact h
theorem JaO {i : Nat} {v : V} {σ σ' : St} {H : Hp} {Q : St → Hp → Prop} (e : σ.set i (some v) = σ') (h : Q σ' H) : J4z i v σ H Q:=by subst e; exact h
theorem Jaz {n : Nat} (h : n ≤ 100000) : n ≤ sizeLine:=Nat.le_trans h (by decide)
theorem JaQ {n : Nat} (h : n ≤ 100000) : n < sizeLine:=Nat.lt_of_le_of_lt h (by decide)
local macro_rules | `(tactic| walk_at "len")=>`(tactic| (simp only [List.length_append,List.length_cons,List.length_nil,List.length_singleton,List.length_take,List.length_drop,List.length_map,List.length_reverse,List.length_range] <;> omega))
local macro_rules | `(tactic| walk_at "st")=>`(tactic| (try simp only [L2.start,List.map_cons,List.map_nil,List.length_cons,List.length_nil,Nat.reduceAdd,Nat.reduceSub,List.replicate_succ,List.replicate_zero,List.cons_append,List.nil_append]))
local macro_rules | `(tactic| walk_at "lk")=>`(tactic| fail)
local macro_rules | `(tactic| walk_at "cl")=>`(tactic| first
 | (with_reducible assumption) | rfl
 | (with_reducible show @LE.le Nat _ _ _; first | omega | (walk_at "len") | exact Jaz (by omega) | exact Jaz (by walk_at "len"))
 | (with_reducible show @LT.lt Nat _ _ _; first | omega | (walk_at "len") | exact JaQ (by omega) | exact JaQ (by walk_at "len"))
 | (with_reducible show @LE.le Int _ _ _; omega) | (with_reducible show @LT.lt Int _ _ _; omega)
 | ((with_reducible refine Jbo ?_ ?_) <;> omega) | ((with_reducible refine Jdm ?_ ?_) <;> omega) | ((with_reducible refine Jdo ?_ ?_) <;> omega) | ((with_reducible refine Jcs ?_) <;> omega)
 | exact Jr | exact J0m (by with_reducible assumption) _ _ _ Jr | exact SqL.of (by with_reducible assumption) | exact SqL.of Jr | exact SqT.of Jr | exact SqT.of (by with_reducible assumption) | exact Or.inl (by with_reducible assumption) | exact Or.inl (SqL.of (by with_reducible assumption)) | exact Or.inl (SqL.of Jr)
 | exact Or.inl ⟨rfl,_,SqL.of (by with_reducible assumption)⟩ | exact Or.inl ⟨rfl,_,SqL.of Jr⟩ | exact Or.inl ⟨rfl,_,by with_reducible assumption⟩ | exact ⟨_,by with_reducible assumption⟩ | exact ⟨_,SqL.of (by with_reducible assumption)⟩ | exact ⟨_,SqL.of Jr⟩
 | exact ⟨by omega,by omega⟩ | assumption | walk_at "lk")
local macro_rules | `(tactic| walk_at "rd1")=>`(tactic| first
 | (with_reducible refine JaO (by first | (simp only [List.set_cons_zero,List.set_cons_succ]; done) | (simp only [List.set_cons_zero,List.set_cons_succ]; rfl)) ?_)
 | (with_reducible refine iteT ?_) | (with_reducible refine iteF ?_) | (with_reducible refine Jdn ?_) | (with_reducible refine Jda ?_)
 | ((fail_if_success apply JcM); (fail_if_success apply Jbl); apply Exists.intro)
 | (apply And.intro; (· walk_at "cl"))
 | (refine Or.inl ⟨_,rfl,?_⟩) | (refine Or.inr (Or.inl ⟨_,rfl,?_⟩)) | (refine Or.inr (Or.inr (Or.inl ⟨_,rfl,?_⟩))) | (refine Or.inr (Or.inr (Or.inr (Or.inl ⟨_,rfl,?_⟩)))) | (refine Or.inr (Or.inr (Or.inr (Or.inr ⟨_,_,rfl,by with_reducible assumption,?_⟩)))))
local macro_rules | `(tactic| walk_at "rd")=>`(tactic| repeat (walk_at "rd1"))
noncomputable def J7V (C : Addr) (H : Hp) (p : Addr) (n : Int) (m : List Nat) (d : Int) : Prop:=∃ dx,H p = some (.ins C dx [("many",.int n),("marks",T m),("days",.int d)])
theorem J7V.same {C : Addr} {H H' : Hp} {p : Addr} {n d : Int} {m : List Nat} (h : J7V C H p n m d) (s : Same H H') : J7V C H' p n m d:=let ⟨dx,e⟩:=h; ⟨dx,s _ _ e⟩
theorem J99 (x y z : V) : List.lookup ("many" : Str) [(("many" : Str),x),("marks",y),("days",z)] = some x:=by rw [List.lookup_cons,beq_self_eq_true]
theorem J7W (x y z : V) : List.lookup ("marks" : Str) [(("many" : Str),x),("marks",y),("days",z)] = some y:=by
 rw [List.lookup_cons,beq_eq_false_iff_ne.mpr (by decide +kernel),List.lookup_cons,beq_self_eq_true]
theorem J8T (x y z : V) : List.lookup ("days" : Str) [(("many" : Str),x),("marks",y),("days",z)] = some z:=by
 rw [List.lookup_cons,beq_eq_false_iff_ne.mpr (by decide +kernel),List.lookup_cons,beq_eq_false_iff_ne.mpr (by decide +kernel),List.lookup_cons,beq_self_eq_true]
theorem put3 (n : Int) (m : List Nat) (d : Int) : putF "days" (.int d) (putF "marks" (T m) (putF "many" (.int n) [])) = ([("many",.int n),("marks",T m),("days",.int d)] : List (Str × V)):=by
 have h1 : ¬ (("many" : Str) = "marks"):=by decide +kernel
 have h2 : ¬ (("many" : Str) = "days"):=by decide +kernel
 have h3 : ¬ (("marks" : Str) = "days"):=by decide +kernel
 simp [putF,h1,h2,h3]
noncomputable def J3J (C : Addr) : Sp:=fun vs H Q _=>∃ p dx n m d,vs = [.ref p,.int n,T m,.int d] ∧ H p = some (.ins C dx []) ∧ Q .non (upd (upd (upd H p (.ins C dx (putF "many" (.int n) []))) p (.ins C dx (putF "marks" (T m) (putF "many" (.int n) [])))) p (.ins C dx [("many",.int n),("marks",T m),("days",.int d)]))
noncomputable def J8R (C : Addr) (H : Hp) (p : Addr) (w : List Nat) : Prop:=∃ dx,H p = some (.ins C dx [("word",T w)])
theorem J8R.same {C : Addr} {H H' : Hp} {p : Addr} {w : List Nat} (h : J8R C H p w) (s : Same H H') : J8R C H' p w:=let ⟨dx,e⟩:=h; ⟨dx,s _ _ e⟩
theorem wl (v : V) : List.lookup ("word" : Str) [(("word" : Str),v)] = some v:=by rw [List.lookup_cons,beq_self_eq_true]
theorem J8S (x y : V) : List.lookup ("left" : Str) [(("left" : Str),x),("right",y)] = some x:=by rw [List.lookup_cons,beq_self_eq_true]
theorem J7O (x y : V) : List.lookup ("right" : Str) [(("left" : Str),x),("right",y)] = some y:=by
 rw [List.lookup_cons,beq_eq_false_iff_ne.mpr (by decide +kernel),List.lookup_cons,beq_self_eq_true]
theorem J7P (x : V) : List.lookup ("inner" : Str) [(("inner" : Str),x)] = some x:=by rw [List.lookup_cons,beq_self_eq_true]
theorem put2 (x y : V) : putF "right" y (putF "left" x []) = ([("left",x),("right",y)] : List (Str × V)):=by
 have h1 : ¬ (("left" : Str) = "right"):=by decide +kernel
 simp [putF,h1]
noncomputable def J8J (C : Addr) : Sp:=fun vs H Q _=>∃ p dx w,vs = [.ref p,T w] ∧ H p = some (.ins C dx []) ∧ Q .non (upd H p (.ins C dx [("word",T w)]))
noncomputable def J3Q (C : Addr) : Sp:=fun vs H Q _=>∃ p dx a b,vs = [.ref p,.ref a,.ref b] ∧ H p = some (.ins C dx []) ∧ Q .non (upd (upd H p (.ins C dx (putF "left" (.ref a) []))) p (.ins C dx [("left",.ref a),("right",.ref b)]))
noncomputable def J7k (C : Addr) : Sp:=fun vs H Q _=>∃ p dx a,vs = [.ref p,.ref a] ∧ H p = some (.ins C dx []) ∧ Q .non (upd H p (.ins C dx [("inner",.ref a)]))
inductive R where
 | nev (w : List Nat)
 | most (n : Int) (m : List Nat) (d : Int)
 | least (n : Int) (m : List Nat) (d : Int)
 | both (l r : R)
 | either (l r : R)
 | neg (i : R)
structure Cs where
 nev : Addr
 most : Addr
 least : Addr
 both : Addr
 either : Addr
 neg : Addr
noncomputable def R.cls (c : Cs) : R → Addr
 | .nev _=>c.nev
 | .most _ _ _=>c.most
 | .least _ _ _=>c.least
 | .both _ _=>c.both
 | .either _ _=>c.either
 | .neg _=>c.neg
noncomputable def JS (c : Cs) (H : Hp) : R → Addr → Prop
 | .nev w,p=>J8R c.nev H p w ∧ w.length ≤ 1000
 | .most n m d,p=>J7V c.most H p n m d ∧ m.length ≤ 1000 ∧ 0 ≤ d
 | .least n m d,p=>J7V c.least H p n m d ∧ m.length ≤ 1000 ∧ 0 ≤ d
 | .both l r,p=>∃ dx a b,H p = some (.ins c.both dx [("left",.ref a),("right",.ref b)]) ∧ JS c H l a ∧ JS c H r b
 | .either l r,p=>∃ dx a b,H p = some (.ins c.either dx [("left",.ref a),("right",.ref b)]) ∧ JS c H l a ∧ JS c H r b
 | .neg i,p=>∃ dx a,H p = some (.ins c.neg dx [("inner",.ref a)]) ∧ JS c H i a
theorem JS.same {c : Cs} {H H' : Hp} (s : Same H H') : ∀ {r : R} {p : Addr},JS c H r p → JS c H' r p
 | .nev _,_,h=>⟨h.1.same s,h.2⟩
 | .most _ _ _,_,h=>⟨h.1.same s,h.2⟩
 | .least _ _ _,_,h=>⟨h.1.same s,h.2⟩
 | .both _ _,_,⟨dx,a,b,e,h1,h2⟩=>⟨dx,a,b,s _ _ e,JS.same s h1,JS.same s h2⟩
 | .either _ _,_,⟨dx,a,b,e,h1,h2⟩=>⟨dx,a,b,s _ _ e,JS.same s h1,JS.same s h2⟩
 | .neg _,_,⟨dx,a,e,h1⟩=>⟨dx,a,s _ _ e,JS.same s h1⟩
theorem JS.obj {c : Cs} {H : Hp} {r : R} {p : Addr} (h : JS c H r p) : ∃ dx fs,H p = some (.ins (r.cls c) dx fs) ∧ fs.lookup ("bad" : Str) = none ∧ fs.lookup ("reach" : Str) = none ∧ fs.lookup ("text" : Str) = none:=by
 have no1 : ∀ (x m : Str) (v : V),m ≠ x → List.lookup m [(x,v)] = none:=fun x m v hm=>by rw [List.lookup_cons,beq_eq_false_iff_ne.mpr hm]; rfl
 have no2 : ∀ (x y m : Str) (v u : V),m ≠ x → m ≠ y → List.lookup m [(x,v),(y,u)] = none:=fun x y m v u h1 h2=>by rw [List.lookup_cons,beq_eq_false_iff_ne.mpr h1]; exact no1 _ _ _ h2
 have no3 : ∀ (x y z m : Str) (v u t : V),m ≠ x → m ≠ y → m ≠ z → List.lookup m [(x,v),(y,u),(z,t)] = none:=fun x y z m v u t h1 h2 h3=>by rw [List.lookup_cons,beq_eq_false_iff_ne.mpr h1]; exact no2 _ _ _ _ _ h2 h3
 cases r with
 | nev w =>
  obtain ⟨⟨dx,e⟩,_⟩:=h
  exact ⟨dx,_,e,no1 _ _ _ (by decide +kernel),no1 _ _ _ (by decide +kernel),no1 _ _ _ (by decide +kernel)⟩
 | most n m d =>
  obtain ⟨⟨dx,e⟩,_⟩:=h
  exact ⟨dx,_,e,no3 _ _ _ _ _ _ _ (by decide +kernel) (by decide +kernel) (by decide +kernel),no3 _ _ _ _ _ _ _ (by decide +kernel) (by decide +kernel) (by decide +kernel),no3 _ _ _ _ _ _ _ (by decide +kernel) (by decide +kernel) (by decide +kernel)⟩
 | least n m d =>
  obtain ⟨⟨dx,e⟩,_⟩:=h
  exact ⟨dx,_,e,no3 _ _ _ _ _ _ _ (by decide +kernel) (by decide +kernel) (by decide +kernel),no3 _ _ _ _ _ _ _ (by decide +kernel) (by decide +kernel) (by decide +kernel),no3 _ _ _ _ _ _ _ (by decide +kernel) (by decide +kernel) (by decide +kernel)⟩
 | both l r =>
  obtain ⟨dx,a,b,e,_⟩:=h
  exact ⟨dx,_,e,no2 _ _ _ _ _ (by decide +kernel) (by decide +kernel),no2 _ _ _ _ _ (by decide +kernel) (by decide +kernel),no2 _ _ _ _ _ (by decide +kernel) (by decide +kernel)⟩
 | either l r =>
  obtain ⟨dx,a,b,e,_⟩:=h
  exact ⟨dx,_,e,no2 _ _ _ _ _ (by decide +kernel) (by decide +kernel),no2 _ _ _ _ _ (by decide +kernel) (by decide +kernel),no2 _ _ _ _ _ (by decide +kernel) (by decide +kernel)⟩
 | neg i =>
  obtain ⟨dx,a,e,_⟩:=h
  exact ⟨dx,_,e,no1 _ _ _ (by decide +kernel),no1 _ _ _ (by decide +kernel),no1 _ _ _ (by decide +kernel)⟩
theorem J7I (ns : List Int) (lo hi : Option Int) : cutV (ns.map V.int) lo hi = (cutN ns lo hi).map V.int:=by
 unfold cutV cutN
 rw [List.length_map,List.map_take,List.map_drop]
theorem Jbq {ys : List V} (h : ∀ y ∈ ys,∃ z,y = V.int z) : ∃ zs : List Int,ys = zs.map V.int ∧ zs.length = ys.length:=by
 induction ys with
 | nil=>exact ⟨[],rfl,rfl⟩
 | cons y r ih =>
  obtain ⟨z,rfl⟩:=h y List.mem_cons_self
  obtain ⟨zs,e,hl⟩:=ih fun u hu=>h u (List.mem_cons_of_mem _ hu)
  exact ⟨z :: zs,by rw [e]; rfl,by simp [hl]⟩
noncomputable def rNev (c6 : Cs) : List V → Hp → VK → Prop:=fun vs H Q=>∃ w,vs = [T w] ∧ w.length ≤ 1000 ∧ ∀ p H',Same H H' → JS c6 H' (.nev w) p → Q (.ref p) H'
noncomputable def JbV (c6 : Cs) : List V → Hp → VK → Prop:=fun vs H Q=>∃ n m d,vs = [.int n,T m,.int d] ∧ m.length ≤ 1000 ∧ 0 ≤ d ∧ ∀ p H',Same H H' → JS c6 H' (.most n m d) p → Q (.ref p) H'
noncomputable def Ja1 (c6 : Cs) : List V → Hp → VK → Prop:=fun vs H Q=>∃ n m d,vs = [.int n,T m,.int d] ∧ m.length ≤ 1000 ∧ 0 ≤ d ∧ ∀ p H',Same H H' → JS c6 H' (.least n m d) p → Q (.ref p) H'
noncomputable def JbU (c6 : Cs) : List V → Hp → VK → Prop:=fun vs H Q=>∃ a b x y,vs = [.ref a,.ref b] ∧ JS c6 H x a ∧ JS c6 H y b ∧ ∀ p dx H',Same H H' → JS c6 H' (.both x y) p → H' p = some (.ins c6.both dx [("left",.ref a),("right",.ref b)]) → Q (.ref p) H'
noncomputable def J96 (c6 : Cs) : List V → Hp → VK → Prop:=fun vs H Q=>∃ a b x y,vs = [.ref a,.ref b] ∧ JS c6 H x a ∧ JS c6 H y b ∧ ∀ p dx H',Same H H' → JS c6 H' (.either x y) p → H' p = some (.ins c6.either dx [("left",.ref a),("right",.ref b)]) → Q (.ref p) H'
noncomputable def rNot (c6 : Cs) : List V → Hp → VK → Prop:=fun vs H Q=>∃ a x,vs = [.ref a] ∧ JS c6 H x a ∧ ∀ p dx H',Same H H' → JS c6 H' (.neg x) p → H' p = some (.ins c6.neg dx [("inner",.ref a)]) → Q (.ref p) H'
theorem Jct {c6 : Cs} : ∀ vs H Q,rNev c6 vs H Q → ∀ x dx,H x = none → H dx = none → dx ≠ x → J8J c6.nev (.ref x :: (vs ++ [])) (upd (upd H dx (.own x)) x (.ins c6.nev dx [])) (fun v H2=>v = .non ∧ Q (.ref x) H2) E0:=by
 rintro _ H Q ⟨w,rfl,hw,q⟩ x dx nx ndx _
 exact ⟨x,dx,w,rfl,Jr,rfl,q x _ (((J0m ndx _).upd nx).upd nx) ⟨⟨dx,Jr⟩,hw⟩⟩
theorem JbK {c6 : Cs} : ∀ vs H Q,JbV c6 vs H Q → ∀ x dx,H x = none → H dx = none → dx ≠ x → J3J c6.most (.ref x :: (vs ++ [])) (upd (upd H dx (.own x)) x (.ins c6.most dx [])) (fun v H2=>v = .non ∧ Q (.ref x) H2) E0:=by
 rintro _ H Q ⟨n,m,d,rfl,hm,hd,q⟩ x dx nx ndx _
 exact ⟨x,dx,n,m,d,rfl,Jr,rfl,q x _ (((((J0m ndx _).upd nx).upd nx).upd nx).upd nx) ⟨⟨dx,Jr⟩,hm,hd⟩⟩
theorem JaS {c6 : Cs} : ∀ vs H Q,Ja1 c6 vs H Q → ∀ x dx,H x = none → H dx = none → dx ≠ x → J3J c6.least (.ref x :: (vs ++ [])) (upd (upd H dx (.own x)) x (.ins c6.least dx [])) (fun v H2=>v = .non ∧ Q (.ref x) H2) E0:=by
 rintro _ H Q ⟨n,m,d,rfl,hm,hd,q⟩ x dx nx ndx _
 exact ⟨x,dx,n,m,d,rfl,Jr,rfl,q x _ (((((J0m ndx _).upd nx).upd nx).upd nx).upd nx) ⟨⟨dx,Jr⟩,hm,hd⟩⟩
theorem JbG {c6 : Cs} : ∀ vs H Q,JbU c6 vs H Q → ∀ x dx,H x = none → H dx = none → dx ≠ x → J3Q c6.both (.ref x :: (vs ++ [])) (upd (upd H dx (.own x)) x (.ins c6.both dx [])) (fun v H2=>v = .non ∧ Q (.ref x) H2) E0:=by
 rintro _ H Q ⟨a,b,y,z,rfl,ha,hb,q⟩ x dx nx ndx _
 have ss:=((((J0m ndx (.own x)).upd nx (o:=.ins c6.both dx [])).upd nx (o:=.ins c6.both dx (putF "left" (.ref a) []))).upd nx (o:=.ins c6.both dx [("left",.ref a),("right",.ref b)]))
 exact ⟨x,dx,a,b,rfl,Jr,rfl,q x dx _ ss ⟨dx,a,b,Jr,ha.same ss,hb.same ss⟩ Jr⟩
theorem J9J {c6 : Cs} : ∀ vs H Q,J96 c6 vs H Q → ∀ x dx,H x = none → H dx = none → dx ≠ x → J3Q c6.either (.ref x :: (vs ++ [])) (upd (upd H dx (.own x)) x (.ins c6.either dx [])) (fun v H2=>v = .non ∧ Q (.ref x) H2) E0:=by
 rintro _ H Q ⟨a,b,y,z,rfl,ha,hb,q⟩ x dx nx ndx _
 have ss:=((((J0m ndx (.own x)).upd nx (o:=.ins c6.either dx [])).upd nx (o:=.ins c6.either dx (putF "left" (.ref a) []))).upd nx (o:=.ins c6.either dx [("left",.ref a),("right",.ref b)]))
 exact ⟨x,dx,a,b,rfl,Jr,rfl,q x dx _ ss ⟨dx,a,b,Jr,ha.same ss,hb.same ss⟩ Jr⟩
theorem Jcq {c6 : Cs} : ∀ vs H Q,rNot c6 vs H Q → ∀ x dx,H x = none → H dx = none → dx ≠ x → J7k c6.neg (.ref x :: (vs ++ [])) (upd (upd H dx (.own x)) x (.ins c6.neg dx [])) (fun v H2=>v = .non ∧ Q (.ref x) H2) E0:=by
 rintro _ H Q ⟨a,y,rfl,ha,q⟩ x dx nx ndx _
 have ss:=(((J0m ndx (.own x)).upd nx (o:=.ins c6.neg dx [])).upd nx (o:=.ins c6.neg dx [("inner",.ref a)]))
 exact ⟨x,dx,a,rfl,Jr,rfl,q x dx _ ss ⟨dx,a,Jr,ha.same ss⟩ Jr⟩
noncomputable abbrev cs6 (J6 Jd J5 Jf J2 Jm _RotaError _NoRule _NoName _NoDay _NoRow _TooWide _NoHouse _Faulty : Addr) : Cs:=⟨J6,Jd,J5,Jf,J2,Jm⟩
noncomputable abbrev Wd:=List Nat
noncomputable abbrev wOr : Wd:=[111,114]
noncomputable abbrev wAnd : Wd:=[97,110,100]
noncomputable abbrev wNot : Wd:=[110,111,116]
noncomputable abbrev wL : Wd:=[40]
noncomputable abbrev wR : Wd:=[41]
noncomputable abbrev JR : Wd:=[110,101,118,101,114]
noncomputable abbrev JY : Wd:=[109,111,115,116]
noncomputable abbrev JO : Wd:=[108,101,97,115,116]
noncomputable abbrev wOf : Wd:=[111,102]
noncomputable abbrev wIn : Wd:=[105,110]
noncomputable def JA (wanted : Wd) (i : Nat) (st : Int × Int) (w : Wd) : Int × Int :=
 if w = wL then (st.1,st.2 + 1) else if w = wR then (st.1,st.2 - 1) else if w = wanted ∧ st.2 = 0 then ((i : Int),st.2) else st
noncomputable def lo (wanted : Wd) : Nat → Int × Int → List Wd → Int × Int
 | _,st,[]=>st
 | i,st,w :: r=>lo wanted (i + 1) (JA wanted i st w) r
noncomputable def Jq (ws : List Wd) (wanted : Wd) : Int:=(lo wanted 0 (-1,0) ws).1
theorem J21 (wanted : Wd) : ∀ (a b : List Wd) (i : Nat) (st : Int × Int),lo wanted i st (a ++ b) = lo wanted (i + a.length) (lo wanted i st a) b
 | [],b,i,st=>rfl
 | w :: r,b,i,st=>by
  show lo wanted (i + 1) (JA wanted i st w) (r ++ b) = _
  rw [J21 wanted r b]
  show lo wanted (i + 1 + r.length) _ b = lo wanted (i + (r.length + 1)) _ b
  rw [show i + 1 + r.length = i + (r.length + 1) by omega]
  rfl
noncomputable def isUp (c : Nat) : Bool:=65 ≤ c && c ≤ 90
noncomputable def J4E (c : Nat) : Bool:=isUp c || c == 45 || c == 35 || c == 63
noncomputable def J4A (c : Nat) : Bool:=isUp c || c == 45 || c == 35
noncomputable def J08 (w : Wd) : Bool:=1 ≤ w.length && w.length ≤ 7 && w.all J4E
noncomputable def J01 (w : Wd) : Bool:=1 ≤ w.length && w.length ≤ 8 && w.all J4A && decide w.Nodup
noncomputable def fig (lo hi : Nat) (w : Wd) : Option Nat:=match w with
 | [c]=>if 48 + lo ≤ c ∧ c ≤ 48 + hi then some (c - 48) else none
 | _=>none
noncomputable def J00 : List Wd → Option R
 | [a,w]=>if a = JR ∧ J08 w = true then some (.nev w) else none
 | [a,n,o,m,i,d]=>if o = wOf ∧ i = wIn ∧ J01 m = true then
   match fig 0 7 n,fig 1 7 d with
   | some n,some d=>if a = JY then some (.most n m d) else if a = JO then some (.least n m d) else none
   | _,_=>none
  else none
 | _=>none
inductive Rds : Nat → List Wd → R → Prop where
 | plain {ws r} : J00 ws = some r → Rds 0 ws r
 | neg {ws r} : Rds 0 ws r → Rds 0 (wNot :: ws) (.neg r)
 | br {ws r} : Rds 2 ws r → Rds 0 (wL :: (ws ++ [wR])) r
 | up1 {ws r} : Rds 0 ws r → Rds 1 ws r
 | both {a b x y} : Rds 1 a x → Rds 0 b y → Rds 1 (a ++ wAnd :: b) (.both x y)
 | up2 {ws r} : Rds 1 ws r → Rds 2 ws r
 | either {a b x y} : Rds 2 a x → Rds 1 b y → Rds 2 (a ++ wOr :: b) (.either x y)
noncomputable def rdW : Nat → List Wd → Option R
 | 0,_=>none
 | n + 1,ws =>
  if 0 ≤ Jq ws wOr then
   match rdW n (ws.take (Jq ws wOr).toNat),rdW n (ws.drop ((Jq ws wOr).toNat + 1)) with
   | some x,some y=>some (.either x y)
   | _,_=>none
  else if 0 ≤ Jq ws wAnd then
   match rdW n (ws.take (Jq ws wAnd).toNat),rdW n (ws.drop ((Jq ws wAnd).toNat + 1)) with
   | some x,some y=>some (.both x y)
   | _,_=>none
  else if ws.take 1 = [wNot] then
   match rdW n (ws.drop 1) with
   | some x=>some (.neg x)
   | none=>none
  else if ws.take 1 = [wL] ∧ ws.drop (ws.length - 1) = [wR] then rdW n ((ws.drop 1).take (ws.length - 2))
  else J00 ws
theorem J2F {w x : Wd} (h : J08 w = true) (c : Nat) (hc : c ∈ x) (hs : J4E c = false) : w ≠ x:=by
 rintro rfl
 unfold J08 at h
 have h2:=((Bool.and_eq_true _ _).mp h).2
 have:=List.all_eq_true.mp h2 c hc
 rw [hs] at this
 cases this
theorem J2E {w x : Wd} (h : J01 w = true) (c : Nat) (hc : c ∈ x) (hs : J4A c = false) : w ≠ x:=by
 rintro rfl
 unfold J01 at h
 have h2:=((Bool.and_eq_true _ _).mp ((Bool.and_eq_true _ _).mp h).1).2
 have:=List.all_eq_true.mp h2 c hc
 rw [hs] at this
 cases this
theorem Ja8 {lo hi : Nat} {w : Wd} {n : Nat} (h : fig lo hi w = some n) (hh : hi ≤ 9) : w ≠ wL ∧ w ≠ wR ∧ w ≠ wOr ∧ w ≠ wAnd ∧ w ≠ wNot:=by
 unfold fig at h
 split at h
 ·rename_i c
  split at h
  ·rename_i hc
   refine ⟨?_,?_,?_,?_,?_⟩ <;> intro e <;> simp at e
   ·omega
   ·omega
  ·cases h
 ·cases h
theorem J0r {ws : List Wd} {r : R} (h : J00 ws = some r) : (∀ w ∈ ws,w ≠ wL ∧ w ≠ wR ∧ w ≠ wOr ∧ w ≠ wAnd ∧ w ≠ wNot) ∧ ws ≠ []:=by
 unfold J00 at h
 split at h
 ·rename_i a w
  split at h
  ·rename_i hh
   obtain ⟨rfl,hw⟩:=hh
   refine ⟨fun v hv=>?_,by simp⟩
   simp only [List.mem_cons,List.not_mem_nil,or_false] at hv
   rcases hv with rfl | rfl
   ·decide
   ·exact ⟨J2F hw 40 (by decide) (by decide),J2F hw 41 (by decide) (by decide),J2F hw 111 (by decide) (by decide),J2F hw 97 (by decide) (by decide),J2F hw 110 (by decide) (by decide)⟩
  ·cases h
 ·rename_i a n o m i d
  split at h
  ·rename_i hh
   obtain ⟨rfl,rfl,hm⟩:=hh
   split at h
   ·rename_i n' d' h1 h2
    have ha : a = JY ∨ a = JO:=by
     split at h
     ·rename_i e; exact .inl e
     ·split at h
      ·rename_i e; exact .inr e
      ·cases h
    refine ⟨fun v hv=>?_,by simp⟩
    simp only [List.mem_cons,List.not_mem_nil,or_false] at hv
    rcases hv with rfl | rfl | rfl | rfl | rfl | rfl
    ·rcases ha with rfl | rfl <;> decide
    ·exact Ja8 h1 (by decide)
    ·decide
    ·exact ⟨J2E hm 40 (by decide) (by decide),J2E hm 41 (by decide) (by decide),J2E hm 111 (by decide) (by decide),J2E hm 97 (by decide) (by decide),J2E hm 110 (by decide) (by decide)⟩
    ·decide
    ·exact Ja8 h2 (by decide)
   ·cases h
  ·cases h
 ·cases h
theorem J1n {wanted w : Wd} {i : Nat} {st : Int × Int} (h1 : w ≠ wL) (h2 : w ≠ wR) (h3 : w ≠ wanted ∨ st.2 ≠ 0) : JA wanted i st w = st:=by
 unfold JA
 rw [if_neg h1,if_neg h2,if_neg]
 rintro ⟨a,b⟩
 rcases h3 with h3 | h3
 ·exact h3 a
 ·exact h3 b
theorem J4Z {wanted : Wd} : ∀ {ws : List Wd} {i : Nat} {st : Int × Int},(∀ w ∈ ws,w ≠ wL ∧ w ≠ wR ∧ (w ≠ wanted ∨ st.2 ≠ 0)) → lo wanted i st ws = st
 | [],_,_,_=>rfl
 | w :: r,i,st,h=>by
  obtain ⟨a,b,c⟩:=h w List.mem_cons_self
  show lo wanted (i + 1) (JA wanted i st w) r = st
  rw [J1n a b c]
  exact J4Z fun v hv=>h v (List.mem_cons_of_mem _ hv)
theorem JbB {n : Nat} {ws : List Wd} {r : R} (d : Rds n ws r) : ∀ (wanted : Wd) (i : Nat) (f h : Int),0 < h → lo wanted i (f,h) ws = (f,h):=by
 induction d with
 | plain hp =>
  intro wanted i f h hh
  exact J4Z fun w hw=>⟨((J0r hp).1 w hw).1,((J0r hp).1 w hw).2.1,.inr (by show h ≠ 0; omega)⟩
 | neg _ ih =>
  intro wanted i f h hh
  show lo wanted (i + 1) (JA wanted i (f,h) wNot) _ = _
  rw [J1n (by decide) (by decide) (.inr (by show h ≠ 0; omega))]
  exact ih wanted _ f h hh
 | br _ ih =>
  intro wanted i f h hh
  show lo wanted (i + 1) (JA wanted i (f,h) wL) _ = _
  have e : JA wanted i (f,h) wL = (f,h + 1):=by unfold JA; rw [if_pos rfl]
  rw [e,J21,ih wanted (i + 1) f (h + 1) (by omega)]
  rw [lo,lo]
  unfold JA
  rw [if_neg (by decide),if_pos rfl]
  show (f,h + 1 - 1) = (f,h)
  rw [show h + 1 - 1 = h by omega]
 | up1 _ ih=>exact ih
 | both _ _ i1 i2 =>
  intro wanted i f h hh
  rw [J21,i1 wanted i f h hh]
  show lo wanted _ (JA wanted _ (f,h) wAnd) _ = _
  rw [J1n (by decide) (by decide) (.inr (by show h ≠ 0; omega))]
  exact i2 wanted _ f h hh
 | up2 _ ih=>exact ih
 | either _ _ i1 i2 =>
  intro wanted i f h hh
  rw [J21,i1 wanted i f h hh]
  show lo wanted _ (JA wanted _ (f,h) wOr) _ = _
  rw [J1n (by decide) (by decide) (.inr (by show h ≠ 0; omega))]
  exact i2 wanted _ f h hh
theorem J2y {n : Nat} {ws : List Wd} {r : R} (d : Rds n ws r) : ∀ (i : Nat) (f : Int),
  (∃ g,lo wOr i (f,0) ws = (g,0)) ∧ (∃ g,lo wAnd i (f,0) ws = (g,0)) ∧ (n ≤ 1 → lo wOr i (f,0) ws = (f,0)) ∧ (n = 0 → lo wAnd i (f,0) ws = (f,0)):=by
 induction d with
 | @plain ws r hp =>
  intro i f
  have a : lo wOr i (f,0) ws = (f,0):=J4Z fun w hw=>⟨((J0r hp).1 w hw).1,((J0r hp).1 w hw).2.1,.inl ((J0r hp).1 w hw).2.2.1⟩
  have b : lo wAnd i (f,0) ws = (f,0):=J4Z fun w hw=>⟨((J0r hp).1 w hw).1,((J0r hp).1 w hw).2.1,.inl ((J0r hp).1 w hw).2.2.2.1⟩
  exact ⟨⟨_,a⟩,⟨_,b⟩,fun _=>a,fun _=>b⟩
 | @neg ws r _ ih =>
  intro i f
  have a : lo wOr i (f,0) (wNot :: ws) = (f,0):=by
   show lo wOr (i + 1) (JA wOr i (f,0) wNot) ws = _
   rw [J1n (by decide) (by decide) (.inl (by decide))]
   exact (ih (i + 1) f).2.2.1 (by decide)
  have b : lo wAnd i (f,0) (wNot :: ws) = (f,0):=by
   show lo wAnd (i + 1) (JA wAnd i (f,0) wNot) ws = _
   rw [J1n (by decide) (by decide) (.inl (by decide))]
   exact (ih (i + 1) f).2.2.2 rfl
  exact ⟨⟨_,a⟩,⟨_,b⟩,fun _=>a,fun _=>b⟩
 | @br ws r hd _ =>
  intro i f
  have key : ∀ wanted,lo wanted i (f,0) (wL :: (ws ++ [wR])) = (f,0):=fun wanted=>by
   show lo wanted (i + 1) (JA wanted i (f,0) wL) _ = _
   have e : JA wanted i (f,0) wL = (f,1):=by unfold JA; rw [if_pos rfl]; rfl
   rw [e,J21,JbB hd wanted (i + 1) f 1 (by decide)]
   rw [lo,lo]
   unfold JA
   rw [if_neg (by decide),if_pos rfl]
   rfl
  exact ⟨⟨_,key _⟩,⟨_,key _⟩,fun _=>key _,fun _=>key _⟩
 | @up1 ws r _ ih =>
  intro i f
  obtain ⟨a,b,c,d⟩:=ih i f
  exact ⟨a,b,fun _=>c (by decide),fun z=>by cases z⟩
 | @both a b x y _ _ i1 i2 =>
  intro i f
  have p : lo wOr i (f,0) (a ++ wAnd :: b) = (f,0):=by
   rw [J21,(i1 i f).2.2.1 (by decide)]
   show lo wOr _ (JA wOr _ (f,0) wAnd) b = _
   rw [J1n (by decide) (by decide) (.inl (by decide))]
   exact (i2 _ f).2.2.1 (by decide)
  obtain ⟨g,hg⟩:=(i1 i f).2.1
  refine ⟨⟨_,p⟩,⟨((i + a.length : Nat) : Int),?_⟩,fun _=>p,fun z=>by cases z⟩
  rw [J21,hg]
  show lo wAnd _ (JA wAnd _ (g,0) wAnd) b = _
  have e : JA wAnd (i + a.length) (g,0) wAnd = (((i + a.length : Nat) : Int),0):=by
   unfold JA
   rw [if_neg (by decide),if_neg (by decide),if_pos ⟨rfl,rfl⟩]
  rw [e]
  exact (i2 _ _).2.2.2 rfl
 | @up2 ws r _ ih =>
  intro i f
  obtain ⟨a,b,c,d⟩:=ih i f
  exact ⟨a,b,fun z=>by omega,fun z=>by cases z⟩
 | @either a b x y _ _ i1 i2 =>
  intro i f
  obtain ⟨g,hg⟩:=(i1 i f).1
  obtain ⟨g2,hg2⟩:=(i1 i f).2.1
  refine ⟨⟨((i + a.length : Nat) : Int),?_⟩,?_,fun z=>by omega,fun z=>by cases z⟩
  ·rw [J21,hg]
   show lo wOr _ (JA wOr _ (g,0) wOr) b = _
   have e : JA wOr (i + a.length) (g,0) wOr = (((i + a.length : Nat) : Int),0):=by
    unfold JA
    rw [if_neg (by decide),if_neg (by decide),if_pos ⟨rfl,rfl⟩]
   rw [e]
   exact (i2 _ _).2.2.1 (by decide)
  ·obtain ⟨g3,hg3⟩:=(i2 (i + a.length + 1) g2).2.1
   refine ⟨g3,?_⟩
   rw [J21,hg2]
   show lo wAnd _ (JA wAnd _ (g2,0) wOr) b = _
   rw [J1n (by decide) (by decide) (.inl (by decide))]
   exact hg3
theorem JcD {a b : List Wd} {x y : R} (h1 : Rds 2 a x) (h2 : Rds 1 b y) : Jq (a ++ wOr :: b) wOr = (a.length : Int):=by
 unfold Jq
 obtain ⟨g,hg⟩:=(J2y h1 0 (-1)).1
 rw [J21,hg]
 show (lo wOr _ (JA wOr _ (g,0) wOr) b).1 = _
 have e : JA wOr (0 + a.length) (g,0) wOr = (((0 + a.length : Nat) : Int),0):=by
  unfold JA
  rw [if_neg (by decide),if_neg (by decide),if_pos ⟨rfl,rfl⟩]
 rw [e,(J2y h2 _ _).2.2.1 (by decide)]
 show ((0 + a.length : Nat) : Int) = _
 rw [Nat.zero_add]
theorem JbE {a b : List Wd} {x y : R} (h1 : Rds 1 a x) (h2 : Rds 0 b y) : Jq (a ++ wAnd :: b) wAnd = (a.length : Int):=by
 unfold Jq
 obtain ⟨g,hg⟩:=(J2y h1 0 (-1)).2.1
 rw [J21,hg]
 show (lo wAnd _ (JA wAnd _ (g,0) wAnd) b).1 = _
 have e : JA wAnd (0 + a.length) (g,0) wAnd = (((0 + a.length : Nat) : Int),0):=by
  unfold JA
  rw [if_neg (by decide),if_neg (by decide),if_pos ⟨rfl,rfl⟩]
 rw [e,(J2y h2 _ _).2.2.2 rfl]
 show ((0 + a.length : Nat) : Int) = _
 rw [Nat.zero_add]
theorem J8K {n : Nat} {ws : List Wd} {r : R} (h : Rds n ws r) (hn : n ≤ 1) : Jq ws wOr = -1:=by unfold Jq; rw [(J2y h 0 (-1)).2.2.1 hn]
theorem J8F {ws : List Wd} {r : R} (h : Rds 0 ws r) : Jq ws wAnd = -1:=by unfold Jq; rw [(J2y h 0 (-1)).2.2.2 rfl]
theorem Rds.pos {n : Nat} {ws : List Wd} {r : R} (d : Rds n ws r) : 0 < ws.length:=by
 induction d with
 | plain hp=>exact List.length_pos_iff.mpr (J0r hp).2
 | neg _ _=>simp
 | br _ _=>simp
 | up1 _ ih=>exact ih
 | both _ _ _ _=>simp; omega
 | up2 _ ih=>exact ih
 | either _ _ _ _=>simp; omega
theorem J7H {n : Nat} {ws : List Wd} {r : R} (d : Rds n ws r) : ∀ m,ws.length ≤ m → rdW m ws = some r:=by
 induction d with
 | @plain ws r hp =>
  intro m hm
  have h1:=J0r hp
  have h2 : Rds 0 ws r:=.plain hp
  cases m with
  | zero=>have:=h2.pos; omega
  | succ m =>
   rw [rdW,J8K h2 (by decide),if_neg (by decide),J8F h2,if_neg (by decide)]
   obtain ⟨w,t,rfl⟩ : ∃ w t,ws = w :: t:=by
    cases ws with
    | nil=>exact absurd rfl h1.2
    | cons w t=>exact ⟨w,t,rfl⟩
   obtain ⟨a,_,_,_,e⟩:=h1.1 w List.mem_cons_self
   rw [if_neg (by simpa using e),if_neg (by intro z; exact a (by simpa using z.1))]
   exact hp
 | @neg ws r hd ih =>
  intro m hm
  have h2 : Rds 0 (wNot :: ws) (.neg r):=.neg hd
  cases m with
  | zero=>simp at hm
  | succ m =>
   rw [rdW,J8K h2 (by decide),if_neg (by decide),J8F h2,if_neg (by decide),if_pos (show List.take 1 (wNot :: ws) = [wNot] from rfl)]
   show (match rdW m ws with | some x=>some (R.neg x) | none=>none) = _
   rw [ih m (by simpa using hm)]
 | @br ws r hd ih =>
  intro m hm
  have h2 : Rds 0 (wL :: (ws ++ [wR])) r:=.br hd
  cases m with
  | zero=>simp at hm
  | succ m =>
   rw [rdW,J8K h2 (by decide),if_neg (by decide),J8F h2,if_neg (by decide),if_neg (by simp),if_pos]
   ·have e : ((wL :: (ws ++ [wR])).drop 1).take ((wL :: (ws ++ [wR])).length - 2) = ws:=by
     simp
    rw [e]
    exact ih m (by simp at hm; omega)
   ·refine ⟨rfl,?_⟩
    simp
 | @up1 ws r _ ih=>exact ih
 | @both a b x y h1 h2 i1 i2 =>
  intro m hm
  have h3 : Rds 1 (a ++ wAnd :: b) (.both x y):=.both h1 h2
  cases m with
  | zero=>simp at hm
  | succ m =>
   have hl : a.length + (b.length + 1) ≤ m + 1:=by simpa using hm
   rw [rdW,J8K h3 (by decide),if_neg (by decide),JbE h1 h2,if_pos (by omega)]
   have e1 : (a ++ wAnd :: b).take ((a.length : Int).toNat) = a:=by simp
   have e2 : (a ++ wAnd :: b).drop ((a.length : Int).toNat + 1) = b:=by
    rw [Int.toNat_natCast,← List.drop_drop]
    simp
   rw [e1,e2,i1 m (by omega),i2 m (by omega)]
 | @up2 ws r _ ih=>exact ih
 | @either a b x y h1 h2 i1 i2 =>
  intro m hm
  cases m with
  | zero=>simp at hm
  | succ m =>
   have hl : a.length + (b.length + 1) ≤ m + 1:=by simpa using hm
   rw [rdW,JcD h1 h2,if_pos (by omega)]
   have e1 : (a ++ wOr :: b).take ((a.length : Int).toNat) = a:=by simp
   have e2 : (a ++ wOr :: b).drop ((a.length : Int).toNat + 1) = b:=by
    rw [Int.toNat_natCast,← List.drop_drop]
    simp
   rw [e1,e2,i1 m (by omega),i2 m (by omega)]
noncomputable abbrev sgM : Wd:=[65,66,67,68,69,70,71,72,73,74,75,76,77,78,79,80,81,82,83,84,85,86,87,88,89,90,45,35]
noncomputable abbrev sgW : Wd:=[65,66,67,68,69,70,71,72,73,74,75,76,77,78,79,80,81,82,83,84,85,86,87,88,89,90,45,35,63]
noncomputable abbrev fgN : Wd:=[48,49,50,51,52,53,54,55]
noncomputable abbrev fgD : Wd:=[49,50,51,52,53,54,55]
noncomputable def R.sz : R → Nat
 | .nev _=>1
 | .most _ _ _=>1
 | .least _ _ _=>1
 | .both l r=>l.sz + r.sz + 1
 | .either l r=>l.sz + r.sz + 1
 | .neg i=>i.sz + 1
theorem R.sz_pos : ∀ r : R,1 ≤ r.sz
 | .nev _=>Nat.le_refl _
 | .most _ _ _=>Nat.le_refl _
 | .least _ _ _=>Nat.le_refl _
 | .both _ _=>Nat.le_add_left _ _
 | .either _ _=>Nat.le_add_left _ _
 | .neg _=>Nat.le_add_left _ _
noncomputable def R.lvl : R → Nat
 | .both _ _=>1
 | .either _ _=>2
 | _=>0
theorem R.lvl2 : ∀ r : R,r.lvl ≤ 2
 | .nev _=>Nat.zero_le _
 | .most _ _ _=>Nat.zero_le _
 | .least _ _ _=>Nat.zero_le _
 | .both _ _=>Nat.le_succ 1
 | .either _ _=>Nat.le_refl 2
 | .neg _=>Nat.zero_le _
noncomputable def cnT (w : List Nat) (n : Int) (m : List Nat) (d : Int) : List Nat:=w ++ [32] ++ [48 + n.toNat] ++ [32,111,102,32] ++ m ++ [32,105,110,32] ++ [48 + d.toNat]
noncomputable def brT (b : Bool) (t : List Nat) : List Nat:=if b = true then [40,32] ++ t ++ [32,41] else t
noncomputable def R.tx : R → List Nat
 | .nev w=>[110,101,118,101,114,32] ++ w
 | .most n m d=>cnT [109,111,115,116] n m d
 | .least n m d=>cnT [108,101,97,115,116] n m d
 | .both l r=>brT (decide (1 < l.lvl)) l.tx ++ [32,97,110,100,32] ++ brT (decide (0 < r.lvl)) r.tx
 | .either l r=>brT (decide (2 < l.lvl)) l.tx ++ [32,111,114,32] ++ brT (decide (1 < r.lvl)) r.tx
 | .neg i=>[110,111,116,32] ++ brT (decide (0 < i.lvl)) i.tx
noncomputable def R.ok : R → Prop
 | .nev w=>J08 w = true
 | .most n m d=>(0 ≤ n ∧ n ≤ 7) ∧ (1 ≤ d ∧ d ≤ 7) ∧ J01 m = true
 | .least n m d=>(0 ≤ n ∧ n ≤ 7) ∧ (1 ≤ d ∧ d ≤ 7) ∧ J01 m = true
 | .both l r=>l.ok ∧ r.ok
 | .either l r=>l.ok ∧ r.ok
 | .neg i=>i.ok
theorem J3i {w : Wd} (h : J08 w = true) : 1 ≤ w.length ∧ w.length ≤ 7:=by
 unfold J08 at h
 simp only [Bool.and_eq_true,decide_eq_true_eq] at h
 exact h.1
theorem J1q {w : Wd} (h : J01 w = true) : 1 ≤ w.length ∧ w.length ≤ 8:=by
 unfold J01 at h
 simp only [Bool.and_eq_true,decide_eq_true_eq] at h
 exact h.1.1
theorem J0n (a b : List Nat) : Ji 32 (a ++ 32 :: b) = Ji 32 a ++ Ji 32 b:=by
 induction a with
 | nil=>rfl
 | cons x r ih =>
  show Ji 32 (x :: (r ++ 32 :: b)) = Ji 32 (x :: r) ++ Ji 32 b
  by_cases e : x = 32
  ·rw [Ji,if_pos e,ih,Ji,if_pos e]
   rfl
  ·rw [Ji,if_neg e,ih,Ji,if_neg e]
   obtain ⟨h,t,eq⟩:=J1o 32 r
   rw [eq]
   rfl
theorem J13 {w : List Nat} (h : 32 ∉ w) : Ji 32 w = [w]:=by
 induction w with
 | nil=>rfl
 | cons x r ih =>
  rw [Ji,if_neg (fun e=>h (by rw [e]; exact List.mem_cons_self)),ih (fun z=>h (List.mem_cons_of_mem _ z))]
noncomputable def wcN (t : List Nat) : Nat:=(Ji 32 t).length
theorem J5C {w : Wd} (h : J08 w = true) : 32 ∉ w:=fun z=>J2F h 32 z (by decide) rfl
theorem J2B {w : Wd} (h : J01 w = true) : 32 ∉ w:=fun z=>J2E h 32 z (by decide) rfl
theorem J4o {a m : List Nat} {n d : Int} (ha : 32 ∉ a) (hm : 32 ∉ m) : Ji 32 (cnT a n m d) = [a,[48 + n.toNat],wOf,m,wIn,[48 + d.toNat]]:=by
 have e : cnT a n m d = a ++ 32 :: ([48 + n.toNat] ++ 32 :: ([111,102] ++ 32 :: (m ++ 32 :: ([105,110] ++ 32 :: [48 + d.toNat])))):=by
  unfold cnT
  simp [List.append_assoc]
 have one : ∀ k : Nat,32 ∉ [48 + k]:=fun k z=>by
  have:=List.mem_singleton.mp z
  omega
 rw [e,J0n,J0n,J0n,J0n,J0n,J13 ha,J13 (one _),J13 (w:=[111,102]) (by decide),J13 hm,J13 (w:=[105,110]) (by decide),J13 (one _)]
 rfl
theorem J3d (t : List Nat) : Ji 32 ([110,111,116,32] ++ t) = wNot :: Ji 32 t:=by
 rw [show [110,111,116,32] ++ t = [110,111,116] ++ 32 :: t from rfl,J0n]
 rfl
theorem JaK (t : List Nat) : Ji 32 ([40,32] ++ t ++ [32,41]) = wL :: (Ji 32 t ++ [wR]):=by
 rw [show [40,32] ++ t ++ [32,41] = [40] ++ 32 :: (t ++ 32 :: [41]) by simp,J0n,J0n]
 rfl
theorem J3j (a b : List Nat) : Ji 32 (a ++ [32,97,110,100,32] ++ b) = Ji 32 a ++ wAnd :: Ji 32 b:=by
 rw [show a ++ [32,97,110,100,32] ++ b = a ++ 32 :: ([97,110,100] ++ 32 :: b) by simp,J0n,J0n]
 rfl
theorem J4l (a b : List Nat) : Ji 32 (a ++ [32,111,114,32] ++ b) = Ji 32 a ++ wOr :: Ji 32 b:=by
 rw [show a ++ [32,111,114,32] ++ b = a ++ 32 :: ([111,114] ++ 32 :: b) by simp,J0n,J0n]
 rfl
theorem Rds.up {n m : Nat} {ws : List Wd} {r : R} (h : Rds n ws r) (h1 : n ≤ m) (h2 : m ≤ 2) : Rds m ws r:=by
 have : (n = 0 ∨ n = 1 ∨ n = 2) ∧ (m = 0 ∨ m = 1 ∨ m = 2):=by omega
 obtain ⟨rfl | rfl | rfl,rfl | rfl | rfl⟩:=this
 ·exact h
 ·exact .up1 h
 ·exact .up2 (.up1 h)
 ·omega
 ·exact h
 ·exact .up2 h
 ·omega
 ·omega
 ·exact h
theorem JcL {w : Wd} (h : J08 w = true) : Rds 0 (Ji 32 ([110,101,118,101,114,32] ++ w)) (.nev w):=by
 rw [show [110,101,118,101,114,32] ++ w = [110,101,118,101,114] ++ 32 :: w from rfl,J0n,J13 (w:=[110,101,118,101,114]) (by decide),J13 (J5C h)]
 refine .plain ?_
 show (if JR = JR ∧ J08 w = true then some (R.nev w) else none) = _
 rw [if_pos ⟨rfl,h⟩]
theorem J6Q {lo hi : Nat} {n : Int} (h0 : (lo : Int) ≤ n) (h1 : n ≤ (hi : Int)) : fig lo hi [48 + n.toNat] = some n.toNat:=by
 show (if 48 + lo ≤ 48 + n.toNat ∧ 48 + n.toNat ≤ 48 + hi then some (48 + n.toNat - 48) else none) = _
 rw [if_pos ⟨by omega,by omega⟩,show 48 + n.toNat - 48 = n.toNat by omega]
theorem Jbx {n d : Int} {m : Wd} (hn : 0 ≤ n ∧ n ≤ 7) (hd : 1 ≤ d ∧ d ≤ 7) (hm : J01 m = true) : Rds 0 (Ji 32 (cnT [109,111,115,116] n m d)) (.most n m d):=by
 rw [J4o (by decide) (J2B hm)]
 refine .plain ?_
 show (if wOf = wOf ∧ wIn = wIn ∧ J01 m = true then
   match fig 0 7 [48 + n.toNat],fig 1 7 [48 + d.toNat] with
   | some n,some d=>if JY = JY then some (R.most n m d) else if JY = JO then some (.least n m d) else none
   | _,_=>none
  else none) = _
 rw [if_pos ⟨rfl,rfl,hm⟩,J6Q (lo:=0) (hi:=7) (by omega) (by omega),J6Q (lo:=1) (hi:=7) (by omega) (by omega)]
 show (if JY = JY then some (R.most (n.toNat : Int) m (d.toNat : Int)) else _) = _
 rw [if_pos rfl,show ((n.toNat : Nat) : Int) = n by omega,show ((d.toNat : Nat) : Int) = d by omega]
theorem Jat {n d : Int} {m : Wd} (hn : 0 ≤ n ∧ n ≤ 7) (hd : 1 ≤ d ∧ d ≤ 7) (hm : J01 m = true) : Rds 0 (Ji 32 (cnT [108,101,97,115,116] n m d)) (.least n m d):=by
 rw [J4o (by decide) (J2B hm)]
 refine .plain ?_
 show (if wOf = wOf ∧ wIn = wIn ∧ J01 m = true then
   match fig 0 7 [48 + n.toNat],fig 1 7 [48 + d.toNat] with
   | some n,some d=>if JO = JY then some (R.most n m d) else if JO = JO then some (.least n m d) else none
   | _,_=>none
  else none) = _
 rw [if_pos ⟨rfl,rfl,hm⟩,J6Q (lo:=0) (hi:=7) (by omega) (by omega),J6Q (lo:=1) (hi:=7) (by omega) (by omega)]
 show (if JO = JY then _ else if JO = JO then some (R.least (n.toNat : Int) m (d.toNat : Int)) else _) = _
 rw [if_neg (by decide),if_pos rfl,show ((n.toNat : Nat) : Int) = n by omega,show ((d.toNat : Nat) : Int) = d by omega]
structure TxW (h : Nat) (r : R) (t : List Nat) : Prop where
 rd : Rds h (Ji 32 t) r
 ln : t.length ≤ 32 * r.sz + 4
 wc : wcN (brT (decide (h < r.lvl)) r.tx) ≤ wcN t
structure TxA (r : R) (t : List Nat) : Prop where
 rd : Rds r.lvl (Ji 32 t) r
 ln : t.length ≤ 32 * r.sz
 wc : wcN r.tx ≤ wcN t
theorem JbP (t : List Nat) : wcN ([40,32] ++ t ++ [32,41]) = wcN t + 2:=by
 unfold wcN
 rw [JaK]
 simp
theorem J1L (b : Bool) (t : List Nat) : wcN (brT b t) = if b = true then wcN t + 2 else wcN t:=by
 unfold brT
 cases b
 ·rfl
 ·exact JbP t
theorem J43 (b : Bool) (t : List Nat) : (brT b t).length ≤ t.length + 4:=by
 unfold brT
 cases b
 ·simp
 ·simp
theorem TxA.br {r : R} {t : List Nat} (x : TxA r t) (h : Nat) (h2 : h ≤ 2) : TxW h r ([40,32] ++ t ++ [32,41]):=by
 refine ⟨?_,?_,?_⟩
 ·rw [JaK]
  exact (Rds.br (x.rd.up (R.lvl2 r) (Nat.le_refl _))).up (Nat.zero_le _) h2
 ·have:=x.ln
  simp
  omega
 ·have:=x.wc
  rw [JbP,J1L]
  split <;> omega
theorem TxA.in {r : R} {t : List Nat} (x : TxA r t) {h : Nat} (h2 : h ≤ 2) (hl : r.lvl ≤ h) : TxW h r t:=by
 refine ⟨x.rd.up hl h2,by have:=x.ln; omega,?_⟩
 rw [J1L,decide_eq_false (by omega),if_neg Bool.false_ne_true]
 exact x.wc
theorem Jcc {w : Wd} (h : J08 w = true) : TxA (.nev w) ([110,101,118,101,114,32] ++ w):=by
 refine ⟨JcL h,?_,Nat.le_refl _⟩
 have:=J3i h
 rw [List.length_append]
 show 6 + w.length ≤ 32 * 1
 omega
theorem J72 (a m : List Nat) (n d : Int) : (cnT a n m d).length = a.length + m.length + 11:=by
 unfold cnT
 simp
 omega
theorem JbA {n d : Int} {m : Wd} (hn : 0 ≤ n ∧ n ≤ 7) (hd : 1 ≤ d ∧ d ≤ 7) (hm : J01 m = true) : TxA (.most n m d) (cnT [109,111,115,116] n m d):=by
 refine ⟨Jbx hn hd hm,?_,Nat.le_refl _⟩
 have:=J1q hm
 rw [J72]
 show 4 + m.length + 11 ≤ 32 * 1
 omega
theorem JaY {n d : Int} {m : Wd} (hn : 0 ≤ n ∧ n ≤ 7) (hd : 1 ≤ d ∧ d ≤ 7) (hm : J01 m = true) : TxA (.least n m d) (cnT [108,101,97,115,116] n m d):=by
 refine ⟨Jat hn hd hm,?_,Nat.le_refl _⟩
 have:=J1q hm
 rw [J72]
 show 5 + m.length + 11 ≤ 32 * 1
 omega
theorem Jcn {i : R} {t : List Nat} (x : TxW 0 i t) : TxA (.neg i) ([110,111,116,32] ++ t):=by
 refine ⟨?_,?_,?_⟩
 ·rw [J3d]
  exact .neg x.rd
 ·have:=x.ln
  rw [List.length_append]
  show 4 + t.length ≤ 32 * (i.sz + 1)
  omega
 ·have:=x.wc
  unfold wcN at this ⊢
  show (Ji 32 ([110,111,116,32] ++ brT (decide (0 < i.lvl)) i.tx)).length ≤ _
  rw [J3d,J3d,List.length_cons,List.length_cons]
  omega
theorem Jbh {l r : R} {a b : List Nat} (x : TxW 1 l a) (y : TxW 0 r b) : TxA (.both l r) (a ++ [32,97,110,100,32] ++ b):=by
 refine ⟨?_,?_,?_⟩
 ·rw [J3j]
  exact .both x.rd y.rd
 ·have:=x.ln
  have:=y.ln
  rw [List.length_append,List.length_append]
  show a.length + 5 + b.length ≤ 32 * (l.sz + r.sz + 1)
  omega
 ·have:=x.wc
  have:=y.wc
  unfold wcN at *
  show (Ji 32 (brT (decide (1 < l.lvl)) l.tx ++ [32,97,110,100,32] ++ brT (decide (0 < r.lvl)) r.tx)).length ≤ _
  rw [J3j,J3j,List.length_append,List.length_append,List.length_cons,List.length_cons]
  omega
theorem J9K {l r : R} {a b : List Nat} (x : TxW 2 l a) (y : TxW 1 r b) : TxA (.either l r) (a ++ [32,111,114,32] ++ b):=by
 refine ⟨?_,?_,?_⟩
 ·rw [J4l]
  exact .either x.rd y.rd
 ·have:=x.ln
  have:=y.ln
  rw [List.length_append,List.length_append]
  show a.length + 4 + b.length ≤ 32 * (l.sz + r.sz + 1)
  omega
 ·have:=x.wc
  have:=y.wc
  unfold wcN at *
  show (Ji 32 (brT (decide (2 < l.lvl)) l.tx ++ [32,111,114,32] ++ brT (decide (1 < r.lvl)) r.tx)).length ≤ _
  rw [J4l,J4l,List.length_append,List.length_append,List.length_cons,List.length_cons]
  omega
theorem TxA.wt {r : R} {t : List Nat} (x : TxA r t) (h : Nat) (h2 : h ≤ 2) : TxW h r (brT (decide (h < r.lvl)) t):=by
 unfold brT
 by_cases e : h < r.lvl
 ·rw [decide_eq_true e,if_pos rfl]
  exact x.br h h2
 ·rw [decide_eq_false e,if_neg Bool.false_ne_true]
  exact x.in h2 (by omega)
theorem R.tx_ok : ∀ {r : R},r.ok → TxA r r.tx
 | .nev _,h=>Jcc h
 | .most _ _ _,h=>JbA h.1 h.2.1 h.2.2
 | .least _ _ _,h=>JaY h.1 h.2.1 h.2.2
 | .both _ _,h=>Jbh ((R.tx_ok h.1).wt 1 (by decide)) ((R.tx_ok h.2).wt 0 (by decide))
 | .either _ _,h=>J9K ((R.tx_ok h.1).wt 2 (by decide)) ((R.tx_ok h.2).wt 1 (by decide))
 | .neg i,h=>Jcn ((R.tx_ok (r:=i) h).wt 0 (by decide))
theorem Jck (i : R) : wcN i.tx + 1 ≤ wcN (R.neg i).tx:=by
 have w:=J1L (decide (0 < i.lvl)) i.tx
 unfold wcN at w ⊢
 show _ ≤ (Ji 32 ([110,111,116,32] ++ brT (decide (0 < i.lvl)) i.tx)).length
 rw [J3d,List.length_cons,w]
 split <;> omega
theorem Jbi (l r : R) : wcN l.tx + wcN r.tx + 1 ≤ wcN (R.both l r).tx:=by
 have w1:=J1L (decide (1 < l.lvl)) l.tx
 have w2:=J1L (decide (0 < r.lvl)) r.tx
 unfold wcN at w1 w2 ⊢
 show _ ≤ (Ji 32 (brT (decide (1 < l.lvl)) l.tx ++ [32,97,110,100,32] ++ brT (decide (0 < r.lvl)) r.tx)).length
 rw [J3j,List.length_append,List.length_cons,w1,w2]
 split <;> split <;> omega
theorem J9s (l r : R) : wcN l.tx + wcN r.tx + 1 ≤ wcN (R.either l r).tx:=by
 have w1:=J1L (decide (2 < l.lvl)) l.tx
 have w2:=J1L (decide (1 < r.lvl)) r.tx
 unfold wcN at w1 w2 ⊢
 show _ ≤ (Ji 32 (brT (decide (2 < l.lvl)) l.tx ++ [32,111,114,32] ++ brT (decide (1 < r.lvl)) r.tx)).length
 rw [J4l,List.length_append,List.length_cons,w1,w2]
 split <;> split <;> omega
theorem br9 {b : Bool} {t : List Nat} (h : t.length + 1 ≤ 9 * wcN t) : (brT b t).length + 1 ≤ 9 * wcN (brT b t):=by
 rw [J1L]
 have:=J43 b t
 cases b
 ·exact h
 ·show _ ≤ 9 * (wcN t + 2)
  omega
theorem tx9 : ∀ (r : R),r.ok → r.tx.length + 1 ≤ 9 * wcN r.tx
 | .nev w,h=>by
  have:=J3i h
  unfold wcN
  show ([110,101,118,101,114,32] ++ w).length + 1 ≤ 9 * (Ji 32 ([110,101,118,101,114] ++ 32 :: w)).length
  rw [J0n,J13 (w:=[110,101,118,101,114]) (by decide),J13 (J5C h),List.length_append]
  show 6 + w.length + 1 ≤ 9 * 2
  omega
 | .most n m d,h=>by
  have:=J1q h.2.2
  unfold wcN
  show (cnT [109,111,115,116] n m d).length + 1 ≤ 9 * (Ji 32 (cnT [109,111,115,116] n m d)).length
  rw [J4o (by decide) (J2B h.2.2),J72]
  show 4 + m.length + 11 + 1 ≤ 9 * 6
  omega
 | .least n m d,h=>by
  have:=J1q h.2.2
  unfold wcN
  show (cnT [108,101,97,115,116] n m d).length + 1 ≤ 9 * (Ji 32 (cnT [108,101,97,115,116] n m d)).length
  rw [J4o (by decide) (J2B h.2.2),J72]
  show 5 + m.length + 11 + 1 ≤ 9 * 6
  omega
 | .both l r,h=>by
  have a:=br9 (b:=decide (1 < l.lvl)) (tx9 l h.1)
  have b:=br9 (b:=decide (0 < r.lvl)) (tx9 r h.2)
  unfold wcN at a b ⊢
  show (brT (decide (1 < l.lvl)) l.tx ++ [32,97,110,100,32] ++ brT (decide (0 < r.lvl)) r.tx).length + 1 ≤ 9 * (Ji 32 (brT (decide (1 < l.lvl)) l.tx ++ [32,97,110,100,32] ++ brT (decide (0 < r.lvl)) r.tx)).length
  rw [J3j,List.length_append,List.length_append,List.length_append]
  show _ + 5 + _ + 1 ≤ 9 * (_ + (_ + 1))
  omega
 | .either l r,h=>by
  have a:=br9 (b:=decide (2 < l.lvl)) (tx9 l h.1)
  have b:=br9 (b:=decide (1 < r.lvl)) (tx9 r h.2)
  unfold wcN at a b ⊢
  show (brT (decide (2 < l.lvl)) l.tx ++ [32,111,114,32] ++ brT (decide (1 < r.lvl)) r.tx).length + 1 ≤ 9 * (Ji 32 (brT (decide (2 < l.lvl)) l.tx ++ [32,111,114,32] ++ brT (decide (1 < r.lvl)) r.tx)).length
  rw [J4l,List.length_append,List.length_append,List.length_append]
  show _ + 4 + _ + 1 ≤ 9 * (_ + (_ + 1))
  omega
 | .neg i,h=>by
  have a:=br9 (b:=decide (0 < i.lvl)) (tx9 i h)
  unfold wcN at a ⊢
  show ([110,111,116,32] ++ brT (decide (0 < i.lvl)) i.tx).length + 1 ≤ 9 * (Ji 32 ([110,111,116,32] ++ brT (decide (0 < i.lvl)) i.tx)).length
  rw [J3d,List.length_append]
  show 4 + _ + 1 ≤ 9 * (_ + 1)
  omega
section
variable {P : Program} {w : World} {K : PySem.W.Frag} {mg : Str → Option Value} {base : Heap} {J6 Jd J5 Jf J2 Jm J3 J4 Jh Jj Jk Ja J9 Jg : Addr}
theorem J6m (tx : Tx K mg J6 Jd J5 Jf J2 Jm J3 J4 Jh Jj Jk Ja J9 Jg) : MtG P w K mg base J6 "__init__" 1 ["self","word"] (J8J J6):=by
 refine tx.J6E.g tx.J3U.cl J5K (fun _ _ _ _ _ _ us hl=>match us,hl with | [_,_],_=>rfl) (fun vs H Q E h=>?_) (fun f cdv A outer s H vs Q E hr h=>?_)
 ·obtain ⟨p,dx,w,rfl,_⟩:=h
  rfl
 ·obtain ⟨p,dx,w,rfl,hp,q⟩:=h
  refine ⟨_,(Jc (J20 (pv 0) (pv 1) rfl)),?_⟩
  walk_at "st"
  exact ⟨_,rfl,_,rfl,p,J6,dx,[],rfl,hp,tx.J3U.cl,tx.J0M,by decide,q⟩
theorem J7q (tx : Tx K mg J6 Jd J5 Jf J2 Jm J3 J4 Jh Jj Jk Ja J9 Jg) : MtG P w K mg base Jd "__init__" 1 ["self","many","marks","days"] (J3J Jd):=by
 refine tx.J7s.g tx.J3x.cl J6D (fun _ _ _ _ _ _ us hl=>match us,hl with | [_,_,_,_],_=>rfl) (fun vs H Q E h=>?_) (fun f cdv A outer s H vs Q E hr h=>?_)
 ·obtain ⟨p,dx,n,m,d,rfl,_⟩:=h
  rfl
 ·obtain ⟨p,dx,n,m,d,rfl,hp,q⟩:=h
  refine ⟨_,(Jb (J20 (pv 0) (pv 1) rfl)
   (Jb (J20 (pv 0) (pv 2) rfl)
   (Jc (J20 (pv 0) (pv 3) rfl)))),?_⟩
  walk_at "st"
  refine ⟨_,rfl,_,rfl,p,Jd,dx,[],rfl,hp,tx.J3x.cl,tx.J18,by decide,?_⟩
  refine ⟨_,rfl,_,rfl,p,Jd,dx,_,rfl,Jr,tx.J3x.cl,tx.J0R,by show 1 < 1000; decide,?_⟩
  refine ⟨_,rfl,_,rfl,p,Jd,dx,_,rfl,Jr,tx.J3x.cl,tx.J1e,?_,?_⟩
  ·have:=J1r "marks" (T m) (putF "many" (.int n) [])
   have h2:=J1r "many" (V.int n) []
   have h3 : ([] : List (Str × V)).length = 0:=rfl
   omega
  rw [put3]
  exact q
theorem J6d (tx : Tx K mg J6 Jd J5 Jf J2 Jm J3 J4 Jh Jj Jk Ja J9 Jg) : MtG P w K mg base J5 "__init__" 1 ["self","many","marks","days"] (J3J J5):=by
 refine tx.J6i.g tx.J2N.cl J5Q (fun _ _ _ _ _ _ us hl=>match us,hl with | [_,_,_,_],_=>rfl) (fun vs H Q E h=>?_) (fun f cdv A outer s H vs Q E hr h=>?_)
 ·obtain ⟨p,dx,n,m,d,rfl,_⟩:=h
  rfl
 ·obtain ⟨p,dx,n,m,d,rfl,hp,q⟩:=h
  refine ⟨_,(Jb (J20 (pv 0) (pv 1) rfl)
   (Jb (J20 (pv 0) (pv 2) rfl)
   (Jc (J20 (pv 0) (pv 3) rfl)))),?_⟩
  walk_at "st"
  refine ⟨_,rfl,_,rfl,p,J5,dx,[],rfl,hp,tx.J2N.cl,tx.J0Q,by decide,?_⟩
  refine ⟨_,rfl,_,rfl,p,J5,dx,_,rfl,Jr,tx.J2N.cl,tx.J0s,by show 1 < 1000; decide,?_⟩
  refine ⟨_,rfl,_,rfl,p,J5,dx,_,rfl,Jr,tx.J2N.cl,tx.J0T,?_,?_⟩
  ·have:=J1r "marks" (T m) (putF "many" (.int n) [])
   have h2:=J1r "many" (V.int n) []
   have h3 : ([] : List (Str × V)).length = 0:=rfl
   omega
  rw [put3]
  exact q
theorem J7v (tx : Tx K mg J6 Jd J5 Jf J2 Jm J3 J4 Jh Jj Jk Ja J9 Jg) : MtG P w K mg base Jf "__init__" 1 ["self","left","right"] (J3Q Jf):=by
 refine tx.J7g.g tx.J3w.cl J6C (fun _ _ _ _ _ _ us hl=>match us,hl with | [_,_,_],_=>rfl) (fun vs H Q E h=>?_) (fun f cdv A outer s H vs Q E hr h=>?_)
 ·obtain ⟨p,dx,a,b,rfl,_⟩:=h
  rfl
 ·obtain ⟨p,dx,a,b,rfl,hp,q⟩:=h
  refine ⟨_,(Jb (J20 (pv 0) (pv 1) rfl)
   (Jc (J20 (pv 0) (pv 2) rfl))),?_⟩
  walk_at "st"
  refine ⟨_,rfl,_,rfl,p,Jf,dx,[],rfl,hp,tx.J3w.cl,tx.J1j,by decide,?_⟩
  refine ⟨_,rfl,_,rfl,p,Jf,dx,_,rfl,Jr,tx.J3w.cl,tx.J0N,by show 1 < 1000; decide,?_⟩
  rw [put2]
  exact q
theorem J5L (tx : Tx K mg J6 Jd J5 Jf J2 Jm J3 J4 Jh Jj Jk Ja J9 Jg) : MtG P w K mg base J2 "__init__" 1 ["self","left","right"] (J3Q J2):=by
 refine tx.J5R.g tx.J1v.cl J5h (fun _ _ _ _ _ _ us hl=>match us,hl with | [_,_,_],_=>rfl) (fun vs H Q E h=>?_) (fun f cdv A outer s H vs Q E hr h=>?_)
 ·obtain ⟨p,dx,a,b,rfl,_⟩:=h
  rfl
 ·obtain ⟨p,dx,a,b,rfl,hp,q⟩:=h
  refine ⟨_,(Jb (J20 (pv 0) (pv 1) rfl)
   (Jc (J20 (pv 0) (pv 2) rfl))),?_⟩
  walk_at "st"
  refine ⟨_,rfl,_,rfl,p,J2,dx,[],rfl,hp,tx.J1v.cl,tx.J0u,by decide,?_⟩
  refine ⟨_,rfl,_,rfl,p,J2,dx,_,rfl,Jr,tx.J1v.cl,tx.J0k,by show 1 < 1000; decide,?_⟩
  rw [put2]
  exact q
theorem J8a (tx : Tx K mg J6 Jd J5 Jf J2 Jm J3 J4 Jh Jj Jk Ja J9 Jg) : MtG P w K mg base Jm "__init__" 1 ["self","inner"] (J7k Jm):=by
 refine tx.J8g.g tx.J7m.cl J7A (fun _ _ _ _ _ _ us hl=>match us,hl with | [_,_],_=>rfl) (fun vs H Q E h=>?_) (fun f cdv A outer s H vs Q E hr h=>?_)
 ·obtain ⟨p,dx,a,rfl,_⟩:=h
  rfl
 ·obtain ⟨p,dx,a,rfl,hp,q⟩:=h
  refine ⟨_,(Jc (J20 (pv 0) (pv 1) rfl)),?_⟩
  walk_at "st"
  exact ⟨_,rfl,_,rfl,p,Jm,dx,[],rfl,hp,tx.J7m.cl,tx.J1f,by decide,q⟩
end
theorem J7U : ∀ c : Nat,decide (c ∈ sgM) = J4A c:=by
 intro c
 by_cases h : c < 128
 ·have key : ∀ c < 128,decide (c ∈ sgM) = J4A c:=by decide +kernel
  exact key c h
 ·have n1 : ¬ c ∈ sgM:=fun z=>by
   have key : ∀ x ∈ sgM,x < 128:=by decide +kernel
   exact h (key c z)
  have n2 : J4A c = false:=by
   unfold J4A isUp
   rw [decide_eq_false (p:=c ≤ 90) (by omega),Bool.and_false,Bool.false_or]
   rw [show (c == 45) = false from beq_eq_false_iff_ne.mpr (by omega),show (c == 35) = false from beq_eq_false_iff_ne.mpr (by omega)]
   rfl
  rw [decide_eq_false n1,n2]
theorem J85 : ∀ c : Nat,decide (c ∈ sgW) = J4E c:=by
 intro c
 by_cases h : c < 128
 ·have key : ∀ c < 128,decide (c ∈ sgW) = J4E c:=by decide +kernel
  exact key c h
 ·have n1 : ¬ c ∈ sgW:=fun z=>by
   have key : ∀ x ∈ sgW,x < 128:=by decide +kernel
   exact h (key c z)
  have n2 : J4E c = false:=by
   unfold J4E isUp
   rw [decide_eq_false (p:=c ≤ 90) (by omega),Bool.and_false,Bool.false_or]
   rw [show (c == 45) = false from beq_eq_false_iff_ne.mpr (by omega),show (c == 35) = false from beq_eq_false_iff_ne.mpr (by omega),show (c == 63) = false from beq_eq_false_iff_ne.mpr (by omega)]
   rfl
  rw [decide_eq_false n1,n2]
noncomputable def J5B (w l : Wd) : Bool:=(w.map fun c=>decide (c ∈ l)).all id
theorem JcI (w : Wd) : J5B w sgM = w.all J4A:=by
 unfold J5B
 rw [List.all_map]
 congr 1
 funext c
 exact J7U c
theorem Jcy (w : Wd) : J5B w sgW = w.all J4E:=by
 unfold J5B
 rw [List.all_map]
 congr 1
 funext c
 exact J85 c
theorem J4U (l : List Nat) : ∀ i,i ≤ l.length → ∀ s : Str,s ∈ metK (fun i=>(⟨#[l.getD i 0]⟩ : Str)) i ↔ ∃ x ∈ l.take i,s = ⟨#[x]⟩
 | 0,_,s=>by simp [metK]
 | i + 1,h,s=>by
  have ih:=J4U l i (by omega) s
  have e : l.getD i 0 = l[i]:=by rw [List.getD_eq_getElem?_getD,List.getElem?_eq_getElem (by omega)]; rfl
  have et : l.take (i + 1) = l.take i ++ [l[i]]:=by rw [List.take_succ_eq_append_getElem]
  rw [metK,et]
  by_cases hm : (⟨#[l.getD i 0]⟩ : Str) ∈ metK (fun i=>(⟨#[l.getD i 0]⟩ : Str)) i
  ·rw [if_pos hm,ih]
   obtain ⟨x,hx,ex⟩:=(J4U l i (by omega) _).mp hm
   rw [e] at ex
   have ex : l[i] = x:=by injection ex with z; simpa using z
   constructor
   ·rintro ⟨y,hy,rfl⟩
    exact ⟨y,List.mem_append_left _ hy,rfl⟩
   ·rintro ⟨y,hy,rfl⟩
    rcases List.mem_append.mp hy with hy | hy
    ·exact ⟨y,hy,rfl⟩
    ·rw [List.mem_singleton.mp hy,ex]
     exact ⟨x,hx,rfl⟩
  ·rw [if_neg hm,List.mem_append,ih,List.mem_singleton,e]
   constructor
   ·rintro (⟨y,hy,rfl⟩ | rfl)
    ·exact ⟨y,List.mem_append_left _ hy,rfl⟩
    ·exact ⟨l[i],List.mem_append_right _ (List.mem_singleton.mpr rfl),rfl⟩
   ·rintro ⟨y,hy,rfl⟩
    rcases List.mem_append.mp hy with hy | hy
    ·exact .inl ⟨y,hy,rfl⟩
    ·rw [List.mem_singleton.mp hy]
     exact .inr rfl
theorem J68 (l : List Nat) : ∀ i,i ≤ l.length → ((metK (fun i=>(⟨#[l.getD i 0]⟩ : Str)) i).length = i ↔ (l.take i).Nodup)
 | 0,_=>by simp [metK]
 | i + 1,h=>by
  have ih:=J68 l i (by omega)
  have hl:=J5p (fun i=>(⟨#[l.getD i 0]⟩ : Str)) i
  have e : l.getD i 0 = l[i]:=by rw [List.getD_eq_getElem?_getD,List.getElem?_eq_getElem (by omega)]; rfl
  have et : l.take (i + 1) = l.take i ++ [l[i]]:=by rw [List.take_succ_eq_append_getElem]
  have nd : (l.take i ++ [l[i]]).Nodup ↔ (l.take i).Nodup ∧ l[i] ∉ l.take i:=by
   rw [List.nodup_append]
   constructor
   ·rintro ⟨a,_,c⟩
    exact ⟨a,fun z=>c _ z _ (by simp) rfl⟩
   ·rintro ⟨a,c⟩
    exact ⟨a,by simp,fun x hx y hy z=>c (by rw [List.mem_singleton.mp hy] at z; rw [← z]; exact hx)⟩
  rw [metK,et,nd]
  by_cases hm : (⟨#[l.getD i 0]⟩ : Str) ∈ metK (fun i=>(⟨#[l.getD i 0]⟩ : Str)) i
  ·rw [if_pos hm]
   obtain ⟨x,hx,ex⟩:=(J4U l i (by omega) _).mp hm
   rw [e] at ex
   have ex : l[i] = x:=by injection ex with z; simpa using z
   constructor
   ·intro z
    omega
   ·rintro ⟨_,z⟩
    exact absurd (ex ▸ hx) z
  ·rw [if_neg hm,List.length_append,List.length_singleton]
   have nx : l[i] ∉ l.take i:=fun z=>hm ((J4U l i (by omega) _).mpr ⟨_,z,by rw [e]⟩)
   rw [← ih]
   constructor
   ·intro z
    exact ⟨by omega,nx⟩
   ·rintro ⟨z,_⟩
    omega
theorem J8x (l : List Nat) : decide (V.int (J44 l : Int) = V.int (l.length : Int)) = decide l.Nodup:=by
 have k:=J68 l l.length (Nat.le_refl _)
 rw [List.take_length] at k
 have k2 : J44 l = l.length ↔ l.Nodup:=k
 by_cases h : l.Nodup
 ·rw [decide_eq_true h,decide_eq_true (by rw [k2.mpr h])]
 ·rw [decide_eq_false h,decide_eq_false]
  intro z
  injection z with z
  exact h (k2.mp (by omega))
noncomputable def figB (w l : Wd) : Bool:=decide (w.length = 1) && decide (w.getD 0 0 ∈ l)
noncomputable def Jb9 : Sp:=fun vs H Q _=>∃ w l,vs = [T w,T l] ∧ w.length ≤ 100000 ∧ ∀ H',Same H H' → Q (.bl (J5B w l)) H'
noncomputable def J9U : Sp:=fun vs H Q _=>∃ w l,vs = [T w,T l] ∧ w.length ≤ 100000 ∧ Q (.bl (figB w l)) H
noncomputable def J9a : Sp:=fun vs H Q _=>∃ w,vs = [T w] ∧ w.length ≤ 100000 ∧ ∀ H',Same H H' → Q (.bl (J08 w)) H'
noncomputable def J9g : Sp:=fun vs H Q _=>∃ w,vs = [T w] ∧ w.length ≤ 100000 ∧ ∀ H',Same H H' → Q (.bl (J01 w)) H'
noncomputable def cntB (ws : List Wd) (f : Wd) : Bool:=match ws with
 | [a,n,o,m,i,d]=>decide (a = f) && (decide (o = wOf) && (decide (i = wIn) && (figB n fgN && (J01 m && figB d fgD))))
 | _=>false
noncomputable def J9T (K : PySem.W.Frag) : Sp:=fun vs H Q _=>∃ (D : Addr) (ws : List Wd) (f : Wd),vs = [.ref D,T f] ∧ SqL K H D (ws.map T) ∧ ws.length ≤ 1000 ∧ (∀ w ∈ ws,w.length ≤ 100000) ∧ ∀ H',Same H H' → Q (.bl (cntB ws f)) H'
noncomputable def JbM (K : PySem.W.Frag) : Sp:=fun vs H Q _=>∃ (D : Addr) (ws : List Wd) (wd : Wd),vs = [.ref D,T wd] ∧ SqL K H D (ws.map T) ∧ ws.length ≤ 1000 ∧ ∀ H',Same H H' → Q (.int (Jq ws wd)) H'
noncomputable def Jc3 (K : PySem.W.Frag) (c6 : Cs) (CN : Addr) : Sp:=fun vs H Q E=>∃ (D : Addr) (ws : List Wd),vs = [.ref D] ∧ SqL K H D (ws.map T) ∧ ws.length ≤ 1000 ∧ (∀ w ∈ ws,w.length ≤ 100000) ∧ (J00 ws = none → ∀ H',Same H H' → E (.ref CN) none H') ∧ ∀ r,J00 ws = some r → ∀ p H',Same H H' → JS c6 H' r p → Q (.ref p) H'
noncomputable def Jc7 (K : PySem.W.Frag) (c6 : Cs) (CN : Addr) (n : Nat) : Sp:=fun vs H Q E=>∃ (D : Addr) (ws : List Wd),vs = [.ref D] ∧ SqL K H D (ws.map T) ∧ ws.length < n ∧ ws.length ≤ 1000 ∧ (∀ w ∈ ws,w.length ≤ 100000) ∧ (rdW n ws = none → ∀ H',Same H H' → E (.ref CN) none H') ∧ ∀ r,rdW n ws = some r → ∀ p H',Same H H' → JS c6 H' r p → Q (.ref p) H'
noncomputable def JbZ (c6 : Cs) (CN : Addr) : Sp:=fun vs H Q E=>∃ (t : List Nat),vs = [T t] ∧ t.length ≤ 99999 ∧ ((60 < (Ji 32 t).length ∨ rdW 60 (Ji 32 t) = none) → ∀ H',Same H H' → E (.ref CN) none H') ∧
 ∀ r,(Ji 32 t).length ≤ 60 → rdW 60 (Ji 32 t) = some r → ∀ p H',Same H H' → JS c6 H' r p → Q (.ref p) H'
theorem J14 (ws : List Wd) (lo hi : Option Int) : cutV (ws.map T) lo hi = (cutN ws lo hi).map T:=by
 unfold cutV cutN
 rw [List.length_map,List.map_take,List.map_drop]
theorem J8H (ws : List Wd) : (ws.map T).all J3t = true:=by
 rw [List.all_eq_true]
 rintro x hx
 obtain ⟨w,_,rfl⟩:=List.mem_map.mp hx
 rfl
theorem Jan (a b : List Nat) : eqV (T a) (T b) = decide (a = b):=by
 by_cases h : a = b
 ·subst h
  rw [decide_eq_true rfl]
  exact decide_eq_true rfl
 ·rw [decide_eq_false h]
  exact decide_eq_false fun z=>h (J3v (congrArg V.str z))
theorem J6T : ∀ (a b : List Wd),eqVs (a.map T) (b.map T) = decide (a = b)
 | [],[]=>rfl
 | [],y :: b=>rfl
 | x :: a,[]=>rfl
 | x :: a,y :: b=>by
  show (eqV (T x) (T y) && eqVs (a.map T) (b.map T)) = _
  rw [J6T a b,Jan]
  by_cases e : x = y <;> by_cases e2 : a = b <;> simp [e,e2]
theorem JaC {α : Type} (l : List α) : cutN l (some (-1)) none = l.drop (l.length - 1):=by
 unfold cutN
 rw [HT.sIx_none]
 have e : HT.sIx l.length 0 (some (-1)) = l.length - 1:=by
  show (if (-1 : Int) < 0 then ((-1 : Int) + (l.length : Int)).toNat else min (-1 : Int).toNat l.length) = _
  rw [if_pos (by decide)]
  omega
 rw [e]
 exact List.take_of_length_le (by rw [List.length_drop]; omega)
theorem J9t {α : Type} (l : List α) : cutN l (some 1) (some (-1)) = (l.drop 1).take (l.length - 2):=by
 unfold cutN
 have e1 : HT.sIx l.length 0 (some 1) = min 1 l.length:=by
  show (if (1 : Int) < 0 then ((1 : Int) + (l.length : Int)).toNat else min (1 : Int).toNat l.length) = _
  rw [if_neg (by decide)]
  rfl
 have e2 : HT.sIx l.length l.length (some (-1)) = l.length - 1:=by
  show (if (-1 : Int) < 0 then ((-1 : Int) + (l.length : Int)).toNat else min (-1 : Int).toNat l.length) = _
  rw [if_pos (by decide)]
  omega
 rw [e1,e2]
 cases l with
 | nil=>rfl
 | cons x r =>
  have : min 1 (x :: r).length = 1:=by simp
  rw [this]
  rfl
theorem J4C {lo hi : Nat} {w : Wd} {k : Nat} (h : fig lo hi w = some k) : ∃ c,w = [c] ∧ 48 + lo ≤ c ∧ c ≤ 48 + hi ∧ k = c - 48:=by
 unfold fig at h
 split at h
 ·rename_i c
  split at h
  ·rename_i hc
   exact ⟨c,rfl,hc.1,hc.2,(Option.some.inj h).symm⟩
  ·cases h
 ·cases h
theorem figN {c : Nat} (h0 : 48 ≤ c) (h1 : c ≤ 55) : figB [c] fgN = true:=by
 have key : ∀ k : Nat,k < 8 → figB [48 + k] fgN = true:=by decide +kernel
 have:=key (c - 48) (by omega)
 rwa [show 48 + (c - 48) = c by omega] at this
theorem figD {c : Nat} (h0 : 49 ≤ c) (h1 : c ≤ 55) : figB [c] fgD = true:=by
 have key : ∀ k : Nat,k < 7 → figB [49 + k] fgD = true:=by decide +kernel
 have:=key (c - 49) (by omega)
 rwa [show 49 + (c - 49) = c by omega] at this
theorem J4F {ws : List Wd} {r : R} (h : J00 ws = some r) : (∃ w,ws = [JR,w] ∧ J08 w = true ∧ r = .nev w) ∨
  ∃ c m d,ws = [JY,[c],wOf,m,wIn,[d]] ∧ (48 ≤ c ∧ c ≤ 55) ∧ (49 ≤ d ∧ d ≤ 55) ∧ J01 m = true ∧ r = .most ((c : Int) - 48) m ((d : Int) - 48) ∨
  ws = [JO,[c],wOf,m,wIn,[d]] ∧ (48 ≤ c ∧ c ≤ 55) ∧ (49 ≤ d ∧ d ≤ 55) ∧ J01 m = true ∧ r = .least ((c : Int) - 48) m ((d : Int) - 48):=by
 unfold J00 at h
 split at h
 ·rename_i a w
  split at h
  ·rename_i hh
   obtain ⟨rfl,hw⟩:=hh
   exact .inl ⟨w,rfl,hw,(Option.some.inj h).symm⟩
  ·cases h
 ·rename_i a n o m i d
  split at h
  ·rename_i hh
   obtain ⟨rfl,rfl,hm⟩:=hh
   split at h
   ·rename_i n' d' h1 h2
    obtain ⟨c,rfl,c0,c1,rfl⟩:=J4C h1
    obtain ⟨e,rfl,e0,e1,rfl⟩:=J4C h2
    have x1 : ((c - 48 : Nat) : Int) = (c : Int) - 48:=by omega
    have x2 : ((e - 48 : Nat) : Int) = (e : Int) - 48:=by omega
    rw [x1,x2] at h
    split at h
    ·rename_i ea
     subst ea
     exact .inr ⟨c,m,e,.inl ⟨rfl,⟨by omega,by omega⟩,⟨by omega,by omega⟩,hm,(Option.some.inj h).symm⟩⟩
    ·split at h
     ·rename_i ea
      subst ea
      exact .inr ⟨c,m,e,.inr ⟨rfl,⟨by omega,by omega⟩,⟨by omega,by omega⟩,hm,(Option.some.inj h).symm⟩⟩
     ·cases h
   ·cases h
  ·cases h
 ·cases h
theorem nwl {H : Hp} {l : Addr} {xs : List V} (h : H l = none) : ∃ H',H' = upd H l (.lst xs) ∧ H' l = some (.lst xs) ∧ Same H H':=⟨_,rfl,Jr,J0m h _⟩
section
variable {P : Program} {w : World} {K : PySem.W.Frag} {mg : Str → Option Value} {base : Heap} {J6 Jd J5 Jf J2 Jm J3 J4 Jh Jj Jk Ja J9 Jg : Addr}
theorem J5X (tx : Tx K mg J6 Jd J5 Jf J2 Jm J3 J4 Jh Jj Jk Ja J9 Jg) : FnG P w K mg base "made_of" 1 ["word","signs"] Jb9:=by
 refine tx.J9c.g J8e (fun _ _ _ _ _ _ us hl=>match us,hl with | [_,_],_=>rfl) (fun vs H Q E h=>?_) (fun f cdv A outer s H vs Q E hr h=>?_)
 ·obtain ⟨w,l,rfl,_⟩:=h
  rfl
 ·obtain ⟨w,l,rfl,hw,q⟩:=h
  refine ⟨_,(Jc (Jx (Jz (J8o (K:=K) rfl rfl) rfl tx.J7e Jcu (J0 (J4Y (osc:=J8 J1H) (ON:=["word","signs"]) (N:=["sign","signs"]) (js:=[none,some 1]) ⟨rfl,by decide +kernel,by decide +kernel,by decide +kernel,rfl,by decide +kernel⟩ rfl rfl rfl (J8u (pv 0)) (fun _ _ _ _ _=>J1E (i:=0) (show List.Nodup (["sign","signs"] : List Str) from by decide +kernel) rfl (Or.inl rfl)) (fun _ _ _ _ _=>J5r) (fun _ _ _ _ _=>(J2d JaJ (pv 0) (pv 1) rfl))) J7)))),?_⟩
  walk_at "st"
  walk_at "rd"
  refine Jae (fun x=>match x with | .str z=>.bl (decide (z.cps.getD 0 0 ∈ l)) | v=>v) (J65 w) ?_ (fun x hx H' s' R hR=>?_) (fun D H' hD s' hDD=>?_)
  ·rw [List.length_map]; omega
  ·obtain ⟨k,_,rfl⟩:=List.mem_map.mp hx
   walk_at "rd"
   exact hR H' (Same.refl _)
  refine ⟨D,w.map fun c=>decide (c ∈ l),rfl,SqL.of ?_,?_⟩
  ·rw [hDD,List.map_map,List.map_map]
   rfl
  ·exact q H' s'
theorem J7y (tx : Tx K mg J6 Jd J5 Jf J2 Jm J3 J4 Jh Jj Jk Ja J9 Jg) : FnG P w K mg base "is_figure" 1 ["word","figures"] J9U:=by
 refine tx.J77.g J6f (fun _ _ _ _ _ _ us hl=>match us,hl with | [_,_],_=>rfl) (fun vs H Q E h=>?_) (fun f cdv A outer s H vs Q E hr h=>?_)
 ·obtain ⟨w,l,rfl,_⟩:=h
  rfl
 ·obtain ⟨w,l,rfl,hw,q⟩:=h
  refine ⟨_,(Jc (Jx (J2w (J2d J02 (Jz J2h rfl tx.J0B PySem.boot_len (J0 (pv 0) J7)) J1 (Ju _)) (J2t (J2d JaJ (pv 0) (pv 1) rfl))))),?_⟩
  walk_at "st"
  walk_at "rd"
  refine ite2 (fun c=>?_) (fun c=>?_)
  ·have c' : (w.length : Int) = 1:=by have:=of_decide_eq_true c; injection this
   obtain ⟨x,rfl⟩ : ∃ x,w = [x]:=List.length_eq_one_iff.mp (by omega)
   walk_at "rd"
   have e : figB [x] l = decide (x ∈ l):=by unfold figB; rw [decide_eq_true (show [x].length = 1 from rfl),Bool.true_and]; rfl
   rw [e] at q
   exact q
  ·have e : figB w l = false:=by
    unfold figB
    rw [decide_eq_false,Bool.false_and]
    intro z
    exact c (decide_eq_true (by rw [z]; rfl))
   rw [e] at q
   exact q
theorem J9e (tx : Tx K mg J6 Jd J5 Jf J2 Jm J3 J4 Jh Jj Jk Ja J9 Jg) : FnG P w K mg base "is_word" 2 ["word"] J9a:=by
 have J49:=J5X (P:=P) (w:=w) (base:=base) tx
 refine tx.J9j.g J8k (fun _ _ _ _ _ _ us hl=>match us,hl with | [_],_=>rfl) (fun vs H Q E h=>?_) (fun f cdv A outer s H vs Q E hr h=>?_)
 ·obtain ⟨w,rfl,_⟩:=h
  rfl
 ·obtain ⟨w,rfl,hw,q⟩:=h
  refine ⟨_,(Jc (Jx (J2w (J7Y J93 J93 J1 (Jz J2h rfl tx.J0B PySem.boot_len (J0 (pv 0) J7)) J1) (J2t (JH J49 (hr.mono (by decide)) (J0 (pv 0) (J0 (J3X (l:=[65,66,67,68,69,70,71,72,73,74,75,76,77,78,79,80,81,82,83,84,85,86,87,88,89,90,45,35,63]) rfl tx.J1u) J7))))))),?_⟩
  walk_at "st"
  walk_at "rd"
  refine ite2 (fun c1=>?_) (fun c1=>?_)
  ·have d1 : (1 : Int) ≤ (w.length : Int):=of_decide_eq_true c1
   walk_at "rd"
   refine ite2 (fun c2=>?_) (fun c2=>?_)
   ·have d2 : (w.length : Int) ≤ 7:=of_decide_eq_true c2
    walk_at "rd"
    intro H1 s1
    have e : J08 w = J5B w sgW:=by
     rw [Jcy]
     unfold J08
     rw [decide_eq_true (show 1 ≤ w.length by omega),decide_eq_true (show w.length ≤ 7 by omega)]
     rfl
    have q1:=q H1 s1
    rw [e] at q1
    exact q1
   ·have d2 : ¬ (w.length : Int) ≤ 7:=fun z=>c2 (decide_eq_true z)
    have e : J08 w = false:=by
     unfold J08
     rw [decide_eq_false (show ¬ w.length ≤ 7 by omega),Bool.and_false]
     rfl
    have q1:=q H (Same.refl _)
    rw [e] at q1
    exact q1
  ·have d1 : ¬ (1 : Int) ≤ (w.length : Int):=fun z=>c1 (decide_eq_true z)
   have e : J08 w = false:=by
    unfold J08
    rw [decide_eq_false (show ¬ 1 ≤ w.length by omega)]
    rfl
   have q1:=q H (Same.refl _)
   rw [e] at q1
   walk_at "rd"
   exact q1
theorem J78 (tx : Tx K mg J6 Jd J5 Jf J2 Jm J3 J4 Jh Jj Jk Ja J9 Jg) : FnG P w K mg base "are_marks" 2 ["word"] J9g:=by
 have J49:=J5X (P:=P) (w:=w) (base:=base) tx
 refine tx.J7h.g J6o (fun _ _ _ _ _ _ us hl=>match us,hl with | [_],_=>rfl) (fun vs H Q E h=>?_) (fun f cdv A outer s H vs Q E hr h=>?_)
 ·obtain ⟨w,rfl,_⟩:=h
  rfl
 ·obtain ⟨w,rfl,hw,q⟩:=h
  refine ⟨_,(Jc (Jx (J2w (J7Y J93 J93 J1 (Jz J2h rfl tx.J0B PySem.boot_len (J0 (pv 0) J7)) J1) (J2w (JH J49 (hr.mono (by decide)) (J0 (pv 0) (J0 (J3X (l:=[65,66,67,68,69,70,71,72,73,74,75,76,77,78,79,80,81,82,83,84,85,86,87,88,89,90,45,35]) rfl tx.J1w) J7))) (J2t (J2d J02 (Jz J8t rfl tx.J0B PySem.boot_len (J0 (J1p (J9F rfl) rfl tx.J7t J9R (J0 (pv 0) J7)) J7)) (Jz J2h rfl tx.J0B PySem.boot_len (J0 (pv 0) J7)) (Ju _))))))),?_⟩
  walk_at "st"
  walk_at "rd"
  refine ite2 (fun c1=>?_) (fun c1=>?_)
  ·have d1 : (1 : Int) ≤ (w.length : Int):=of_decide_eq_true c1
   walk_at "rd"
   refine ite2 (fun c2=>?_) (fun c2=>?_)
   ·have d2 : (w.length : Int) ≤ 8:=of_decide_eq_true c2
    walk_at "rd"
    intro H1 s1
    have e : J01 w = (J5B w sgM && decide w.Nodup):=by
     rw [JcI]
     unfold J01
     rw [decide_eq_true (show 1 ≤ w.length by omega),decide_eq_true (show w.length ≤ 8 by omega)]
     rfl
    walk_at "rd"
    refine ite2 (fun c3=>?_) (fun c3=>?_)
    ·walk_at "rd"
     intro p hp
     have q1:=q _ (s1.trans (J0m hp (SO p (J44 w))))
     rw [e,c3,Bool.true_and,← J8x] at q1
     walk_at "rd"
     exact q1
    ·have q1:=q H1 s1
     rw [e,Bool.eq_false_iff.mpr c3,Bool.false_and] at q1
     exact q1
   ·have d2 : ¬ (w.length : Int) ≤ 8:=fun z=>c2 (decide_eq_true z)
    have e : J01 w = false:=by
     unfold J01
     rw [decide_eq_false (show ¬ w.length ≤ 8 by omega),Bool.and_false]
     rfl
    have q1:=q H (Same.refl _)
    rw [e] at q1
    exact q1
  ·have d1 : ¬ (1 : Int) ≤ (w.length : Int):=fun z=>c1 (decide_eq_true z)
   have e : J01 w = false:=by
    unfold J01
    rw [decide_eq_false (show ¬ 1 ≤ w.length by omega)]
    rfl
   have q1:=q H (Same.refl _)
   rw [e] at q1
   walk_at "rd"
   exact q1
theorem J30 (tx : Tx K mg J6 Jd J5 Jf J2 Jm J3 J4 Jh Jj Jk Ja J9 Jg) : FnG P w K mg base "last_outside" 1 ["words","wanted"] (JbM K):=by
 refine tx.J55.g JW (fun _ _ _ _ _ _ us hl=>match us,hl with | [_,_],_=>rfl) (fun vs H Q E h=>?_) (fun f cdv A outer s H vs Q E hr h=>?_)
 ·obtain ⟨D,ws,wd,rfl,_⟩:=h
  rfl
 ·obtain ⟨D,ws,wd,rfl,hD,hl,q⟩:=h
  refine ⟨_,(Jb (Jn (i:=2) JW.nd rfl (Or.inl rfl) (J3Z J2P J1))
   (Jb (Jn (i:=3) JW.nd rfl (Or.inl rfl) J1)
   (Jb (J4q PassesOwn.never rfl (J9I (K:=K) rfl rfl tx.J1U (J0 (pv 0) J7)) (JcF rfl (J82 (J1E (i:=4) JW.nd rfl (Or.inl rfl)) (J82 (J1E (i:=5) JW.nd rfl (Or.inl rfl)) Jbn))) (Jc (JQ (Jo J02 (pv 5) (Jl (l:=[40]) (by decide +kernel)) (Ju _)) (Jc (JaH (i:=3) JW.nd rfl (Or.inl rfl) J1 Jcx)) (Jc (JQ (Jo J02 (pv 5) (Jl (l:=[41]) (by decide +kernel)) (Ju _)) (Jc (JaH (i:=3) JW.nd rfl (Or.inl rfl) J1 Jch)) (Jc (JQ (PW.pt (J5A (Jo J02 (pv 5) (pv 1) (Ju _)) (J4X (Jo J02 (pv 3) J1 (Ju _))))) (Jc (Jn (i:=2) JW.nd rfl (Or.inl rfl) (pv 4))) JE)))))))
   (Jc (Jx (pv 2)))))),?_⟩
  walk_at "st"
  walk_at "rd"
  refine J9z (K:=K) (xs:=ws.map T) (fun i σ H2=>Here (∃ v1 v2,σ = [some (.ref D),some (T wd),some (.int (lo wd 0 (-1,0) (ws.take i)).1),some (.int (lo wd 0 (-1,0) (ws.take i)).2),v1,v2] ∧ Same H H2)) (Here.mk ⟨none,none,rfl,Same.refl _⟩) (fun i σ H2 _ hv=>by obtain ⟨_,_,_,s2⟩:=hv.out; exact s2.seq hD) ?_ ?_
  ·rintro i x p σ H2 hx hp hv
   obtain ⟨v1,v2,rfl,s2⟩:=hv.out
   obtain ⟨wi,hwi,rfl⟩ : ∃ wi,ws[i]? = some wi ∧ x = T wi:=by
    rw [List.getElem?_map] at hx
    cases h : ws[i]? with
    | none=>rw [h] at hx; cases hx
    | some z=>rw [h] at hx; exact ⟨z,rfl,(Option.some.inj hx).symm⟩
   have s3 : Same H2 (upd H2 p (.tup [.int i,T wi])):=J0m hp _
   have et : ws.take (i + 1) = ws.take i ++ [wi]:=by
    rw [List.take_add_one,hwi]
    rfl
   have il:=(List.getElem?_eq_some_iff.mp hwi).1
   have el : lo wd 0 (-1,0) (ws.take (i + 1)) = JA wd i (lo wd 0 (-1,0) (ws.take i)) wi:=by
    rw [et,J21,List.length_take,Nat.min_eq_left (by omega),Nat.zero_add]
    rfl
   rw [el]
   obtain ⟨⟨st1,st2⟩,est⟩ : ∃ st,st = lo wd 0 (-1,0) (ws.take i):=⟨_,rfl⟩
   rw [← est]
   walk_at "rd"
   refine ite2 (fun c=>?_) (fun c=>?_)
   ·have c' : wi = wL:=J3v (of_decide_eq_true c)
    walk_at "rd"
    have e : JA wd i (st1,st2) wi = (st1,st2 + 1):=by unfold JA; rw [if_pos c']
    refine Here.mk ⟨some (.int i),some (T wi),?_,s2.trans s3⟩
    rw [e]
    rfl
   ·have c' : ¬ wi = wL:=fun z=>c (decide_eq_true (by rw [z]))
    walk_at "rd"
    refine ite2 (fun c1=>?_) (fun c1=>?_)
    ·have c1' : wi = wR:=J3v (of_decide_eq_true c1)
     walk_at "rd"
     have e : JA wd i (st1,st2) wi = (st1,st2 - 1):=by unfold JA; rw [if_neg c',if_pos c1']
     refine Here.mk ⟨some (.int i),some (T wi),?_,s2.trans s3⟩
     rw [e]
     rfl
    ·have c1' : ¬ wi = wR:=fun z=>c1 (decide_eq_true (by rw [z]))
     walk_at "rd"
     have no : ¬ (wi = wd ∧ st2 = 0) → JA wd i (st1,st2) wi = (st1,st2):=fun z=>by
      unfold JA
      rw [if_neg c',if_neg c1',if_neg z]
     refine ite2 (fun c2=>?_) (fun c2=>?_)
     ·have c2' : wi = wd:=J3v (of_decide_eq_true c2)
      walk_at "rd"
      refine ite2 (fun c3=>?_) (fun c3=>?_)
      ·have c3' : st2 = 0:=by have:=of_decide_eq_true c3; injection this
       walk_at "rd"
       have e : JA wd i (st1,st2) wi = ((i : Int),st2):=by unfold JA; rw [if_neg c',if_neg c1',if_pos ⟨c2',c3'⟩]
       refine Here.mk ⟨some (.int i),some (T wi),?_,s2.trans s3⟩
       rw [e]
      ·have c3' : ¬ st2 = 0:=fun z=>c3 (decide_eq_true (by rw [z]))
       refine Here.mk ⟨some (.int i),some (T wi),?_,s2.trans s3⟩
       rw [no fun z=>c3' z.2]
     ·have c2' : ¬ wi = wd:=fun z=>c2 (decide_eq_true (by rw [z]))
      refine Here.mk ⟨some (.int i),some (T wi),?_,s2.trans s3⟩
      rw [no fun z=>c2' z.1]
  ·rintro σ H2 hv
   obtain ⟨v1,v2,rfl,s2⟩:=hv.out
   rw [List.length_map,List.take_length]
   walk_at "rd"
   exact q H2 s2
theorem J8l (tx : Tx K mg J6 Jd J5 Jf J2 Jm J3 J4 Jh Jj Jk Ja J9 Jg) : FnG P w K mg base "is_count" 3 ["words","first"] (J9T K):=by
 have J4v:=J7y (P:=P) (w:=w) (base:=base) tx
 have J73:=J78 (P:=P) (w:=w) (base:=base) tx
 refine tx.J8f.g J7p (fun _ _ _ _ _ _ us hl=>match us,hl with | [_,_],_=>rfl) (fun vs H Q E h=>?_) (fun f cdv A outer s H vs Q E hr h=>?_)
 ·obtain ⟨D,ws,f,rfl,_⟩:=h
  rfl
 ·obtain ⟨D,ws,f,rfl,hD,hl,hw,q⟩:=h
  refine ⟨_,(Jb (JQ (PW.pt (J3q (Jo J42 (Jz (JJ (K:=K) rfl) rfl tx.J0B PySem.boot_len (J0 (pv 0) J7)) J1 (Ju _)) (J3q (Jo J42 (JL (Jp (K:=K) rfl) (pv 0) J1 (fun _ _=>rfl)) (pv 1) (Ju _)) (J3q (Jo J42 (JL (Jp (K:=K) rfl) (pv 0) J1 (fun _ _=>rfl)) (Jl (l:=[111,102]) (by decide +kernel)) (Ju _)) (J4s (Jo J42 (JL (Jp (K:=K) rfl) (pv 0) J1 (fun _ _=>rfl)) (Jl (l:=[105,110]) (by decide +kernel)) (Ju _))))))) (Jc (Jx J2V)) JE)
   (Jc (Jx (J2w (JH J4v (hr.mono (by decide)) (J0 (JL (Jp (K:=K) rfl) (pv 0) J1 (fun _ _=>rfl)) (J0 (J3X (l:=[48,49,50,51,52,53,54,55]) rfl tx.J0C) J7))) (J2w (JH J73 (hr.mono (by decide)) (J0 (JL (Jp (K:=K) rfl) (pv 0) J1 (fun _ _=>rfl)) J7)) (J2t (JH J4v (hr.mono (by decide)) (J0 (JL (Jp (K:=K) rfl) (pv 0) J1 (fun _ _=>rfl)) (J0 (J3X (l:=[49,50,51,52,53,54,55]) rfl tx.J0D) J7))))))))),?_⟩
  walk_at "st"
  have no : ∀ b,b = false → cntB ws f = b → Q (.bl false) H:=fun b e1 e2=>by
   have q1:=q H (Same.refl _)
   rw [e2,e1] at q1
   exact q1
  walk_at "rd"
  refine ite2 (fun c=>?_) (fun c=>?_)
  ·have c' : ¬ ws.length = 6:=fun z=>by
    rw [decide_eq_true (by rw [List.length_map,z]; rfl)] at c
    cases c
   walk_at "rd"
   refine no _ ?_ rfl
   unfold cntB
   split
   ·exact absurd rfl c'
   ·rfl
  have c' : ws.length = 6:=by
   cases z : decide (V.int ((ws.map T).length : Int) = V.int 6) with
   | true=>have:=of_decide_eq_true z; injection this with this; rw [List.length_map] at this; omega
   | false=>rw [z] at c; exact absurd rfl c
  clear c
  obtain ⟨a,n,o,m,i,d,rfl⟩ : ∃ a n o m i d,ws = [a,n,o,m,i,d]:=by
   match ws,c' with
   | [a,n,o,m,i,d],_=>exact ⟨a,n,o,m,i,d,rfl⟩
  have hD' : SqL K H D [T a,T n,T o,T m,T i,T d]:=hD
  have ln : n.length ≤ 100000:=hw n (by simp)
  have lm : m.length ≤ 100000:=hw m (by simp)
  have ld : d.length ≤ 100000:=hw d (by simp)
  clear hD hw c' hl
  have e0 : atI [T a,T n,T o,T m,T i,T d] (0 : Int) = some (T a):=by simp [atI,ixN]
  have e1 : atI [T a,T n,T o,T m,T i,T d] (1 : Int) = some (T n):=by simp [atI,ixN]
  have e2 : atI [T a,T n,T o,T m,T i,T d] (2 : Int) = some (T o):=by simp [atI,ixN]
  have e3 : atI [T a,T n,T o,T m,T i,T d] (3 : Int) = some (T m):=by simp [atI,ixN]
  have e4 : atI [T a,T n,T o,T m,T i,T d] (4 : Int) = some (T i):=by simp [atI,ixN]
  have e5 : atI [T a,T n,T o,T m,T i,T d] (5 : Int) = some (T d):=by simp [atI,ixN]
  have neT : ∀ (x y : Wd),(!decide (T x = T y)) = true → decide (x = y) = false:=fun x y c=>by
   refine decide_eq_false fun z=>?_
   rw [z,decide_eq_true rfl] at c
   cases c
  have eqT : ∀ (x y : Wd),¬ (!decide (T x = T y)) = true → decide (x = y) = true:=fun x y c=>by
   refine decide_eq_true (J3v ?_)
   cases z : decide (T x = T y) with
   | true=>exact of_decide_eq_true z
   | false=>rw [z] at c; exact absurd rfl c
  have no2 : cntB [a,n,o,m,i,d] f = false → Q (.bl false) H:=fun e=>no _ e rfl
  change cntB [a,n,o,m,i,d] f = false → _ at no2
  have ec : cntB [a,n,o,m,i,d] f = (decide (a = f) && (decide (o = wOf) && (decide (i = wIn) && (figB n fgN && (J01 m && figB d fgD))))):=rfl
  rw [ec] at no2 q
  clear no ec
  walk_at "rd"
  refine ite2 (fun c=>?_) (fun c=>?_)
  ·walk_at "rd"
   exact no2 (by rw [neT _ _ c,Bool.false_and])
  rw [eqT _ _ c,Bool.true_and] at q no2
  walk_at "rd"
  refine ite2 (fun c=>?_) (fun c=>?_)
  ·walk_at "rd"
   exact no2 (by rw [neT _ _ c,Bool.false_and])
  rw [eqT _ _ c,Bool.true_and] at q no2
  walk_at "rd"
  refine ite2 (fun c=>?_) (fun c=>?_)
  ·walk_at "rd"
   exact no2 (by rw [neT _ _ c,Bool.false_and])
  rw [eqT _ _ c,Bool.true_and] at q
  clear neT eqT no2
  walk_at "rd"
  refine ite2 (fun c1=>?_) (fun c1=>?_)
  ·rw [c1,Bool.true_and] at q
   walk_at "rd"
   intro H1 s1
   have hD1:=s1.seq hD'
   walk_at "rd"
   refine ite2 (fun c2=>?_) (fun c2=>?_)
   ·rw [c2,Bool.true_and] at q
    walk_at "rd"
    exact q H1 s1
   ·rw [Bool.eq_false_iff.mpr c2,Bool.false_and] at q
    walk_at "rd"
    exact q H1 s1
  ·rw [Bool.eq_false_iff.mpr c1,Bool.false_and] at q
   walk_at "rd"
   exact q H (Same.refl _)
theorem J5D {ws : List Wd} {f : Wd} (h : cntB ws f = true) : ∃ c m d,ws = [f,[c],wOf,m,wIn,[d]] ∧ (48 ≤ c ∧ c ≤ 55) ∧ (49 ≤ d ∧ d ≤ 55) ∧ J01 m = true:=by
 unfold cntB at h
 split at h
 ·rename_i a n o m i d
  simp only [Bool.and_eq_true,decide_eq_true_eq] at h
  obtain ⟨rfl,rfl,rfl,hn,hm,hd⟩:=h
  unfold figB at hn hd
  simp only [Bool.and_eq_true,decide_eq_true_eq] at hn hd
  obtain ⟨c,rfl⟩:=List.length_eq_one_iff.mp hn.1
  obtain ⟨e,rfl⟩:=List.length_eq_one_iff.mp hd.1
  have k1 : ∀ x ∈ fgN,48 ≤ x ∧ x ≤ 55:=by decide
  have k2 : ∀ x ∈ fgD,49 ≤ x ∧ x ≤ 55:=by decide
  exact ⟨c,m,e,rfl,k1 _ hn.2,k2 _ hd.2,hm⟩
 ·cases h
theorem J4r {c d : Nat} {m f : Wd} (c0 : 48 ≤ c ∧ c ≤ 55) (d0 : 49 ≤ d ∧ d ≤ 55) (hm : J01 m = true) :
  J00 [f,[c],wOf,m,wIn,[d]] = if f = JY then some (.most ((c : Int) - 48) m ((d : Int) - 48)) else if f = JO then some (.least ((c : Int) - 48) m ((d : Int) - 48)) else none:=by
 show (if wOf = wOf ∧ wIn = wIn ∧ J01 m = true then
   match fig 0 7 [c],fig 1 7 [d] with
   | some n,some d=>if f = JY then some (R.most n m d) else if f = JO then some (.least n m d) else none
   | _,_=>none
  else none) = _
 have e1 : fig 0 7 [c] = some (c - 48):=if_pos ⟨by omega,by omega⟩
 have e2 : fig 1 7 [d] = some (d - 48):=if_pos ⟨by omega,by omega⟩
 rw [if_pos ⟨rfl,rfl,hm⟩,e1,e2]
 show (if f = JY then some (R.most ((c - 48 : Nat) : Int) m ((d - 48 : Nat) : Int)) else if f = JO then some (.least ((c - 48 : Nat) : Int) m ((d - 48 : Nat) : Int)) else none) = _
 rw [show ((c - 48 : Nat) : Int) = (c : Int) - 48 by omega,show ((d - 48 : Nat) : Int) = (d : Int) - 48 by omega]
theorem J69 {ws : List Wd} (h1 : ¬ ∃ w,ws = [JR,w] ∧ J08 w = true) (h2 : cntB ws JY = false) (h3 : cntB ws JO = false) : J00 ws = none:=by
 cases h : J00 ws with
 | none=>rfl
 | some r =>
  rcases J4F h with ⟨w,rfl,hw,rfl⟩ | ⟨c,m,d,⟨rfl,⟨c0,c1⟩,⟨d0,d1⟩,hm,rfl⟩ | ⟨rfl,⟨c0,c1⟩,⟨d0,d1⟩,hm,rfl⟩⟩
  ·exact absurd ⟨w,rfl,hw⟩ h1
  ·have e : cntB [JY,[c],wOf,m,wIn,[d]] JY = true:=by
    show (decide (JY = JY) && (decide (wOf = wOf) && (decide (wIn = wIn) && (figB [c] fgN && (J01 m && figB [d] fgD))))) = true
    rw [figN c0 c1,hm,figD d0 d1]
    rfl
   rw [e] at h2
   cases h2
  ·have e : cntB [JO,[c],wOf,m,wIn,[d]] JO = true:=by
    show (decide (JO = JO) && (decide (wOf = wOf) && (decide (wIn = wIn) && (figB [c] fgN && (J01 m && figB [d] fgD))))) = true
    rw [figN c0 c1,hm,figD d0 d1]
    rfl
   rw [e] at h3
   cases h3
theorem J6M (tx : Tx K mg J6 Jd J5 Jf J2 Jm J3 J4 Jh Jj Jk Ja J9 Jg) : FnX P w K mg base "read_plain" 4 ["words"] (Jc3 K (cs6 J6 Jd J5 Jf J2 Jm J3 J4 Jh Jj Jk Ja J9 Jg) J4):=by
 have J9h:=J9e (P:=P) (w:=w) (base:=base) tx
 have J5i:=J8l (P:=P) (w:=w) (base:=base) tx
 have Jb4:=tx.J3U.g (J6m (P:=P) (w:=w) (base:=base) tx)
 have Jc6:=tx.J3x.g (J7q (P:=P) (w:=w) (base:=base) tx)
 have Jb7:=tx.J2N.g (J6d (P:=P) (w:=w) (base:=base) tx)
 refine tx.J6j.x J5J (fun _ _ _ _ _ _ us hl=>match us,hl with | [_],_=>rfl) (fun vs H Q E h=>?_) (fun f cdv A outer s H vs Q E hr h=>?_)
 ·obtain ⟨D,ws,rfl,_⟩:=h
  rfl
 ·obtain ⟨D,ws,rfl,hD,hl,hw,qn,qs⟩:=h
  refine ⟨_,(Jb (J2T (JQ (PW.pt (J5A (Jo J02 (Jz (JJ (K:=K) rfl) rfl tx.J0B PySem.boot_len (J0 (pv 0) J7)) J1 (Ju _)) (J5A (Jo J02 (JL (Jp (K:=K) rfl) (pv 0) J1 (fun _ _=>rfl)) (Jl (l:=[110,101,118,101,114]) (by decide +kernel)) (Ju _)) (J4X (J2u (JH J9h (hr.mono (by decide)) (J0 (JL (Jp (K:=K) rfl) (pv 0) J1 (fun _ _=>rfl)) J7))))))) (Jc (Jx (J4j (r:=rNev (cs6 J6 Jd J5 Jf J2 Jm J3 J4 Jh Jj Jk Ja J9 Jg)) Jb4 (hr.mono (by decide)) Jct (J0 (JL (Jp (K:=K) rfl) (pv 0) J1 (fun _ _=>rfl)) J7)))) JE))
   (Jb (JQ (J2u (JH J5i (hr.mono (by decide)) (J0 (pv 0) (J0 (Jl (l:=[109,111,115,116]) (by decide +kernel)) J7)))) (Jc (Jx (J4j (r:=JbV (cs6 J6 Jd J5 Jf J2 Jm J3 J4 Jh Jj Jk Ja J9 Jg)) Jc6 (hr.mono (by decide)) JbK (J0 (J1p J2c rfl tx.J3I J2z (J0 (JL (Jp (K:=K) rfl) (pv 0) J1 (fun _ _=>rfl)) J7)) (J0 (JL (Jp (K:=K) rfl) (pv 0) J1 (fun _ _=>rfl)) (J0 (J1p J2c rfl tx.J3I J2z (J0 (JL (Jp (K:=K) rfl) (pv 0) J1 (fun _ _=>rfl)) J7)) J7)))))) JE)
   (Jb (JQ (J2u (JH J5i (hr.mono (by decide)) (J0 (pv 0) (J0 (Jl (l:=[108,101,97,115,116]) (by decide +kernel)) J7)))) (Jc (Jx (J4j (r:=Ja1 (cs6 J6 Jd J5 Jf J2 Jm J3 J4 Jh Jj Jk Ja J9 Jg)) Jb7 (hr.mono (by decide)) JaS (J0 (J1p J2c rfl tx.J3I J2z (J0 (JL (Jp (K:=K) rfl) (pv 0) J1 (fun _ _=>rfl)) J7)) (J0 (JL (Jp (K:=K) rfl) (pv 0) J1 (fun _ _=>rfl)) (J0 (J1p J2c rfl tx.J3I J2z (J0 (JL (Jp (K:=K) rfl) (pv 0) J1 (fun _ _=>rfl)) J7)) J7)))))) JE)
   (Jc (J7K J3r tx.J2f tx.J58 (J0 (Jl (l:=[110,111,32,114,117,108,101,32,105,115,32,119,114,105,116,116,101,110,32,115,111]) (by decide +kernel)) J7)))))),?_⟩
  walk_at "st"
  walk_at "rd"
  refine tCut.mk (fun σ' H'=>Here (σ' = [some (.ref D)] ∧ Same H H' ∧ ¬ ∃ w,ws = [JR,w] ∧ J08 w = true)) ?_ ?_
  ·have hT : ∀ (x y : Wd),decide (T x = T y) = true → x = y:=fun x y c=>J3v (of_decide_eq_true c)
   walk_at "rd"
   refine ite2 (fun c=>?_) (fun c=>?_)
   ·have c' : ws.length = 2:=by have:=of_decide_eq_true c; injection this with this; rw [List.length_map] at this; omega
    clear c
    obtain ⟨a,v,rfl⟩ : ∃ a v,ws = [a,v]:=by
     match ws,c' with
     | [a,v],_=>exact ⟨a,v,rfl⟩
    have hD' : SqL K H D [T a,T v]:=hD
    have lv : v.length ≤ 100000:=hw v (by simp)
    have e0 : atI [T a,T v] (0 : Int) = some (T a):=by simp [atI,ixN]
    have e1 : atI [T a,T v] (1 : Int) = some (T v):=by simp [atI,ixN]
    clear hD c' hl hw
    walk_at "rd"
    refine ite2 (fun c=>?_) (fun c=>?_)
    ·have ca : a = JR:=hT _ _ c
     subst ca
     clear c hT
     walk_at "rd"
     intro H1 s1
     have hD1:=s1.seq hD'
     walk_at "rd"
     refine ite2 (fun c=>?_) (fun c=>?_)
     ·have hp : J00 [JR,v] = some (.nev v):=by
       show (if JR = JR ∧ J08 v = true then some (R.nev v) else none) = _
       rw [if_pos ⟨rfl,c⟩]
      obtain ⟨w1,w2⟩:=J3i c
      walk_at "rd"
      intro p H2 s2 r2
      exact qs _ hp p H2 (s1.trans s2) r2
     ·refine Here.mk ⟨rfl,s1,?_⟩
      rintro ⟨z,ez,gz⟩
      cases ez
      exact c gz
    ·refine Here.mk ⟨rfl,Same.refl _,?_⟩
     rintro ⟨z,ez,gz⟩
     cases ez
     exact c (decide_eq_true rfl)
   ·refine Here.mk ⟨rfl,Same.refl _,?_⟩
    rintro ⟨z,rfl,gz⟩
    exact c (decide_eq_true rfl)
  rintro σ' H0 hv
  obtain ⟨rfl,s0,nv⟩:=hv.out
  have hD0:=s0.seq hD
  clear hv
  walk_at "rd"
  intro H1 s1
  have hD1:=s1.seq hD0
  walk_at "rd"
  refine ite2 (fun c=>?_) (fun c=>?_)
  ·obtain ⟨x,m,d,rfl,x0,d0,hm⟩:=J5D c
   have hp:=J4r (f:=JY) x0 d0 hm
   rw [if_pos rfl] at hp
   have hD' : SqL K H1 D [T JY,T [x],T wOf,T m,T wIn,T [d]]:=hD1
   have e1 : atI [T JY,T [x],T wOf,T m,T wIn,T [d]] (1 : Int) = some (T [x]):=by simp [atI,ixN]
   have e3 : atI [T JY,T [x],T wOf,T m,T wIn,T [d]] (3 : Int) = some (T m):=by simp [atI,ixN]
   have e5 : atI [T JY,T [x],T wOf,T m,T wIn,T [d]] (5 : Int) = some (T [d]):=by simp [atI,ixN]
   obtain ⟨m1,m2⟩:=J1q hm
   have x1 : 48 ≤ x:=x0.1
   have x2 : x ≤ 57:=by omega
   have d2 : d ≤ 57:=by omega
   have d3 : 48 ≤ d:=by omega
   clear hD hD0 hD1 c
   walk_at "rd"
   intro p H2 s2 r2
   exact qs _ hp p H2 (s0.trans (s1.trans s2)) r2
  have c1 : cntB ws JY = false:=Bool.eq_false_iff.mpr c
  clear c hD0
  walk_at "rd"
  intro H2 s2
  have hD2:=s2.seq hD1
  walk_at "rd"
  refine ite2 (fun c=>?_) (fun c=>?_)
  ·obtain ⟨x,m,d,rfl,x0,d0,hm⟩:=J5D c
   have hp:=J4r (f:=JO) x0 d0 hm
   rw [if_neg (by decide),if_pos rfl] at hp
   have hD' : SqL K H2 D [T JO,T [x],T wOf,T m,T wIn,T [d]]:=hD2
   have e1 : atI [T JO,T [x],T wOf,T m,T wIn,T [d]] (1 : Int) = some (T [x]):=by simp [atI,ixN]
   have e3 : atI [T JO,T [x],T wOf,T m,T wIn,T [d]] (3 : Int) = some (T m):=by simp [atI,ixN]
   have e5 : atI [T JO,T [x],T wOf,T m,T wIn,T [d]] (5 : Int) = some (T [d]):=by simp [atI,ixN]
   obtain ⟨m1,m2⟩:=J1q hm
   have x1 : 48 ≤ x:=x0.1
   have x2 : x ≤ 57:=by omega
   have d2 : d ≤ 57:=by omega
   have d3 : 48 ≤ d:=by omega
   clear hD hD2 hD1 c
   walk_at "rd"
   intro p H3 s3 r3
   exact qs _ hp p H3 (s0.trans (s1.trans (s2.trans s3))) r3
  have c2 : cntB ws JO = false:=Bool.eq_false_iff.mpr c
  have hp:=J69 nv c1 c2
  walk_at "rd"
  exact qn hp H2 (s0.trans (s1.trans s2))
end
noncomputable def GW (ws : List Wd) : Prop:=∃ r,Rds 2 ws r
theorem Ja5 {n : Nat} {v : List Wd} {y : R} (h2 : Rds n v y) : ∀ {u : List Wd} {x : R},Rds 2 u x → n = 2 → GW (u ++ wOr :: v):=by
 induction h2 with
 | plain _=>intro _ _ _ e; cases e
 | neg _ _=>intro _ _ _ e; cases e
 | br _ _=>intro _ _ _ e; cases e
 | up1 _ _=>intro _ _ _ e; cases e
 | both _ _ _ _=>intro _ _ _ e; cases e
 | up2 h _=>intro u x hu _; exact ⟨_,.either hu h⟩
 | @either a b x' y' _ hb ia _ =>
  intro u x hu _
  obtain ⟨z,hz⟩:=ia hu rfl
  refine ⟨.either z y',?_⟩
  have:=Rds.either hz hb
  rwa [List.append_assoc,List.cons_append] at this
theorem and1 {n : Nat} {v : List Wd} {y : R} (h2 : Rds n v y) : ∀ {u : List Wd} {x : R},Rds 1 u x → n ≤ 1 → ∃ r,Rds 1 (u ++ wAnd :: v) r:=by
 induction h2 with
 | plain hp=>intro u x hu _; exact ⟨_,.both hu (.plain hp)⟩
 | neg h _=>intro u x hu _; exact ⟨_,.both hu (.neg h)⟩
 | br h _=>intro u x hu _; exact ⟨_,.both hu (.br h)⟩
 | up1 h _=>intro u x hu _; exact ⟨_,.both hu h⟩
 | @both a b x' y' _ hb ia _ =>
  intro u x hu _
  obtain ⟨z,hz⟩:=ia hu (Nat.le_refl _)
  refine ⟨.both z y',?_⟩
  have:=Rds.both hz hb
  rwa [List.append_assoc,List.cons_append] at this
 | up2 _ _=>intro _ _ _ e; omega
 | either _ _ _ _=>intro _ _ _ e; omega
theorem JbW {n : Nat} {v : List Wd} {y : R} (h2 : Rds n v y) : ∀ {u : List Wd} {x : R},Rds 1 u x → n = 2 → GW (u ++ wAnd :: v):=by
 induction h2 with
 | plain _=>intro _ _ _ e; cases e
 | neg _ _=>intro _ _ _ e; cases e
 | br _ _=>intro _ _ _ e; cases e
 | up1 _ _=>intro _ _ _ e; cases e
 | both _ _ _ _=>intro _ _ _ e; cases e
 | up2 h _ =>
  intro u x hu _
  obtain ⟨z,hz⟩:=and1 h hu (Nat.le_refl _)
  exact ⟨z,.up2 hz⟩
 | @either a b x' y' _ hb ia _ =>
  intro u x hu _
  obtain ⟨z,hz⟩:=ia hu rfl
  refine ⟨.either z y',?_⟩
  have:=Rds.either hz hb
  rwa [List.append_assoc,List.cons_append] at this
theorem and2 {n : Nat} {u : List Wd} {x : R} (h1 : Rds n u x) : ∀ {v : List Wd} {y : R},Rds 2 v y → n = 2 → GW (u ++ wAnd :: v):=by
 cases h1 with
 | plain _=>intro _ _ _ e; cases e
 | neg _=>intro _ _ _ e; cases e
 | br _=>intro _ _ _ e; cases e
 | up1 _=>intro _ _ _ e; cases e
 | both _ _=>intro _ _ _ e; cases e
 | up2 h=>intro v y hv _; exact JbW hv h rfl
 | @either a b x' y' ha hb =>
  intro v y hv _
  obtain ⟨z,hz⟩:=JbW hv hb rfl
  have:=Ja5 hz ha rfl
  rwa [List.append_assoc,List.cons_append]
theorem JbF {n : Nat} {v : List Wd} {y : R} (h2 : Rds n v y) : ∃ r,Rds n (wNot :: v) r:=by
 induction h2 with
 | plain hp=>exact ⟨_,.neg (.plain hp)⟩
 | neg h _=>exact ⟨_,.neg (.neg h)⟩
 | br h _=>exact ⟨_,.neg (.br h)⟩
 | up1 _ ih=>obtain ⟨z,hz⟩:=ih; exact ⟨z,.up1 hz⟩
 | both _ hb ia _=>obtain ⟨z,hz⟩:=ia; exact ⟨_,.both hz hb⟩
 | up2 _ ih=>obtain ⟨z,hz⟩:=ih; exact ⟨z,.up2 hz⟩
 | either _ hb ia _=>obtain ⟨z,hz⟩:=ia; exact ⟨_,.either hz hb⟩
theorem GW.or {u v : List Wd} : GW u → GW v → GW (u ++ wOr :: v):=fun ⟨_,a⟩ ⟨_,b⟩=>Ja5 b a rfl
theorem GW.and {u v : List Wd} : GW u → GW v → GW (u ++ wAnd :: v):=fun ⟨_,a⟩ ⟨_,b⟩=>and2 a b rfl
theorem GW.not {v : List Wd} : GW v → GW (wNot :: v):=fun ⟨_,a⟩=>JbF a
theorem GW.br {v : List Wd} : GW v → GW (wL :: (v ++ [wR])):=fun ⟨_,a⟩=>⟨_,.up2 (.up1 (.br a))⟩
theorem GW.plain {v : List Wd} {r : R} (h : J00 v = some r) : GW v:=⟨r,.up2 (.up1 (.plain h))⟩
theorem J5t (wd : Wd) : ∀ (ws : List Wd) (i : Nat) (st : Int × Int),(lo wd i st ws).1 = st.1 ∨ ∃ k,(lo wd i st ws).1 = ((i + k : Nat) : Int) ∧ ws[k]? = some wd
 | [],i,st=>.inl rfl
 | w :: r,i,st=>by
  have ih:=J5t wd r (i + 1) (JA wd i st w)
  show (lo wd (i + 1) (JA wd i st w) r).1 = _ ∨ _
  rcases ih with ih | ⟨k,e,hk⟩
  ·by_cases c : (JA wd i st w).1 = st.1
   ·exact .inl (ih.trans c)
   ·refine .inr ⟨0,?_,?_⟩
    ·show (lo wd (i + 1) (JA wd i st w) r).1 = _
     rw [ih]
     unfold JA at c ⊢
     split
     ·rename_i z; rw [if_pos z] at c; exact absurd rfl c
     ·rename_i z1
      split
      ·rename_i z; rw [if_neg z1,if_pos z] at c; exact absurd rfl c
      ·rename_i z2
       split
       ·rfl
       ·rename_i z; rw [if_neg z1,if_neg z2,if_neg z] at c; exact absurd rfl c
    ·unfold JA at c
     split at c
     ·exact absurd rfl c
     ·split at c
      ·exact absurd rfl c
      ·split at c
       ·rename_i z; rw [z.1]; rfl
       ·exact absurd rfl c
  ·refine .inr ⟨k + 1,?_,hk⟩
   show (lo wd (i + 1) (JA wd i st w) r).1 = _
   rw [e,show i + 1 + k = i + (k + 1) by omega]
theorem J6a {ws : List Wd} {wd : Wd} (h : 0 ≤ Jq ws wd) : ws = ws.take (Jq ws wd).toNat ++ wd :: ws.drop ((Jq ws wd).toNat + 1):=by
 rcases J5t wd ws 0 (-1,0) with e | ⟨k,e,hk⟩
 ·unfold Jq at h
  rw [e] at h
  exact absurd h (by decide)
 ·have e2 : (Jq ws wd).toNat = k:=by unfold Jq; rw [e]; omega
  rw [e2]
  obtain ⟨hl,hw⟩:=List.getElem?_eq_some_iff.mp hk
  conv=>lhs; rw [← List.take_append_drop k ws,List.drop_eq_getElem_cons hl,hw]
theorem GW.pos {ws : List Wd} (h : GW ws) : 0 < ws.length:=h.elim fun _ d=>d.pos
theorem rd_G : ∀ (n : Nat) (ws : List Wd) (r : R),rdW n ws = some r → GW ws
 | 0,_,_,h=>by cases h
 | n + 1,ws,r,h=>by
  rw [rdW] at h
  split at h
  ·rename_i c
   split at h
   ·rename_i x y hx hy
    rw [J6a c]
    exact (rd_G n _ _ hx).or (rd_G n _ _ hy)
   ·cases h
  ·split at h
   ·rename_i c
    split at h
    ·rename_i x y hx hy
     rw [J6a c]
     exact (rd_G n _ _ hx).and (rd_G n _ _ hy)
    ·cases h
   ·split at h
    ·rename_i c
     split at h
     ·rename_i x hx
      have e : ws = wNot :: ws.drop 1:=by
       conv=>lhs; rw [← List.take_append_drop 1 ws,c]
       rfl
      rw [e]
      exact (rd_G n _ _ hx).not
     ·cases h
    ·split at h
     ·rename_i c
      have g:=rd_G n _ _ h
      have gp:=g.pos
      have e : ws = wL :: ((ws.drop 1).take (ws.length - 2) ++ [wR]):=by
       have hl : 2 ≤ ws.length:=by
        rw [List.length_take] at gp
        omega
       conv=>lhs; rw [← List.take_append_drop 1 ws,c.1]
       show wL :: ws.drop 1 = _
       congr 1
       conv=>lhs; rw [← List.take_append_drop (ws.length - 2) (ws.drop 1)]
       congr 1
       rw [List.drop_drop,show 1 + (ws.length - 2) = ws.length - 1 by omega]
       exact c.2
      rw [e]
      exact g.br
     ·exact GW.plain h
theorem JaE {ws : List Wd} {r : R} (h : rdW 60 ws = some r) (hl : ws.length ≤ 60) : Rds 2 ws r:=by
 obtain ⟨r',d⟩:=rd_G 60 ws r h
 have:=J7H d 60 hl
 rw [h] at this
 cases this
 exact d
noncomputable abbrev Tk:=Option Wd
noncomputable def isPl (ws : List Wd) : Bool:=(J00 (ws.take 2)).isSome || (J00 (ws.take 6)).isSome
noncomputable def plK (w : Wd) : Nat:=if w = JR then 2 else 6
inductive TK : List Wd → List Tk → Prop where
 | nil : TK [] []
 | pl {w t ts} : isPl (w :: t) = true → TK ((w :: t).drop (plK w)) ts → TK (w :: t) (none :: ts)
 | wd {w t ts} : isPl (w :: t) = false → TK t ts → TK (w :: t) (some w :: ts)
noncomputable def redR : List Tk → Option (List Tk)
 | none :: some w :: t=>if w = wNot then some (none :: t) else
   match t with
   | none :: t'=>if w = wAnd ∨ w = wOr then some (none :: t') else none
   | _=>none
 | some w :: none :: some v :: t=>if w = wR ∧ v = wL then some (none :: t) else none
 | _=>none
inductive Nrm : List Tk → List Tk → Prop where
 | done {s} : redR s = none → Nrm s s
 | step {s s1 s2} : redR s = some s1 → Nrm s1 s2 → Nrm s s2
inductive Run : List Tk → List Tk → List Tk → Prop where
 | nil {s} : Run s [] s
 | cons {s t s1 ts f} : Nrm (t :: s) s1 → Run s1 ts f → Run s (t :: ts) f
theorem Nrm.stay {s s1 : List Tk} (h : Nrm s s1) (e : redR s = none) : s1 = s:=by
 cases h with
 | done _=>rfl
 | step e2 _=>rw [e] at e2; cases e2
theorem Nrm.go {s s0 s1 : List Tk} (h : Nrm s s1) (e : redR s = some s0) : Nrm s0 s1:=by
 cases h with
 | done e2=>rw [e] at e2; cases e2
 | step e2 h=>rw [e] at e2; cases e2; exact h
theorem Nrm.end {s s1 : List Tk} (h : Nrm s s1) : redR s1 = none:=by
 induction h with
 | done e=>exact e
 | step _ _ ih=>exact ih
theorem Jaq {s s1 : List Tk} (h : redR s = some s1) : ∃ s',s1 = none :: s':=by
 unfold redR at h
 split at h
 ·split at h
  ·cases h; exact ⟨_,rfl⟩
  ·split at h
   ·split at h
    ·cases h; exact ⟨_,rfl⟩
    ·cases h
   ·cases h
 ·split at h
  ·cases h; exact ⟨_,rfl⟩
  ·cases h
 ·cases h
theorem Nrm.top {s s1 : List Tk} (h : Nrm s s1) : (∃ s',s = none :: s') → ∃ s',s1 = none :: s':=by
 induction h with
 | done _=>exact id
 | step e _ ih=>exact fun _=>ih (Jaq e)
inductive Stk : List Tk → List Wd → Prop where
 | nil : Stk [] []
 | one {s ws u} : Stk s ws → GW u → Stk (none :: s) (ws ++ u)
 | tok {s ws w} : Stk s ws → Stk (some w :: s) (ws ++ [w])
theorem Stk.red {s s1 : List Tk} {ws : List Wd} (h : Stk s ws) (e : redR s = some s1) : Stk s1 ws:=by
 unfold redR at e
 split at e
 ·rename_i w t
  split at e
  ·rename_i ew
   cases e
   cases h with
   | one h1 g =>
    cases h1 with
    | tok h2 =>
     subst ew
     rw [List.append_assoc]
     exact .one h2 g.not
  ·split at e
   ·rename_i t'
    split at e
    ·rename_i ew
     cases e
     cases h with
     | one h1 g =>
      cases h1 with
      | tok h2 =>
       cases h2 with
       | one h3 g3 =>
        rw [List.append_assoc,List.append_assoc]
        rcases ew with rfl | rfl
        ·exact .one h3 (g3.and g)
        ·exact .one h3 (g3.or g)
    ·cases e
   ·cases e
 ·rename_i w v t
  split at e
  ·rename_i ew
   cases e
   cases h with
   | tok h1 =>
    cases h1 with
    | one h2 g =>
     cases h2 with
     | tok h3 =>
      rw [List.append_assoc,List.append_assoc,ew.1,ew.2]
      exact .one h3 g.br
  ·cases e
 ·cases e
theorem Stk.nrm {s s1 : List Tk} (h : Nrm s s1) : ∀ {ws : List Wd},Stk s ws → Stk s1 ws:=by
 induction h with
 | done _=>exact id
 | step e _ ih=>exact fun h=>ih (h.red e)
theorem J0z {ws : List Wd} {r : R} (h : J00 ws = some r) : (ws.length = 2 ∧ ws.head? = some JR) ∨ (ws.length = 6 ∧ (ws.head? = some JY ∨ ws.head? = some JO)):=by
 unfold J00 at h
 split at h
 ·split at h
  ·rename_i hh; rw [hh.1]; exact .inl ⟨rfl,rfl⟩
  ·cases h
 ·split at h
  ·split at h
   ·split at h
    ·rename_i ea; rw [ea]; exact .inr ⟨rfl,.inl rfl⟩
    ·split at h
     ·rename_i ea; rw [ea]; exact .inr ⟨rfl,.inr rfl⟩
     ·cases h
   ·cases h
  ·cases h
 ·cases h
theorem JaV {w : Wd} {t : List Wd} (h : isPl (w :: t) = true) : GW ((w :: t).take (plK w)):=by
 unfold isPl at h
 rcases Bool.or_eq_true_iff.mp h with h | h
 ·obtain ⟨r,hr⟩:=Option.isSome_iff_exists.mp h
  rcases J0z hr with ⟨_,e⟩ | ⟨e,_⟩
  ·have e' : w = JR:=by simpa using e
   unfold plK
   rw [if_pos e']
   exact .plain hr
  ·rw [List.length_take] at e
   omega
 ·obtain ⟨r,hr⟩:=Option.isSome_iff_exists.mp h
  rcases J0z hr with ⟨el,e⟩ | ⟨_,e⟩
  ·have e' : w = JR:=by simpa using e
   unfold plK
   rw [if_pos e']
   have el2 : (w :: t).length = 2:=by rw [List.length_take] at el; omega
   rw [List.take_of_length_le (by omega)] at hr ⊢
   exact .plain hr
  ·have e' : ¬ w = JR:=by
    rcases e with e | e
    ·have : w = JY:=by simpa using e
     rw [this]; decide
    ·have : w = JO:=by simpa using e
     rw [this]; decide
   unfold plK
   rw [if_neg e']
   exact .plain hr
theorem JbI {s ts f : List Tk} (h : Run s ts f) : ∀ {ws u : List Wd},TK ws ts → Stk s u → Stk f (u ++ ws):=by
 induction h with
 | nil =>
  intro ws u hT hs
  cases hT
  rw [List.append_nil]
  exact hs
 | @cons s t s1 ts f hn _ ih =>
  intro ws u hT hs
  cases hT with
  | @pl w tl _ hp hT =>
   have:=ih hT (Stk.nrm hn (.one hs (JaV hp)))
   rwa [List.append_assoc,List.take_append_drop] at this
  | @wd w tl _ hp hT =>
   have:=ih hT (Stk.nrm hn (.tok hs))
   rwa [List.append_assoc] at this
theorem Jbc {ws : List Wd} {ts : List Tk} (hT : TK ws ts) (h : Run [] ts [none]) : GW ws:=by
 have:=JbI h hT .nil
 cases this with
 | one h1 g =>
  cases h1
  exact g
theorem J95 {w : Wd} {t : List Wd} (h1 : w ≠ JR) (h2 : w ≠ JY) (h3 : w ≠ JO) : isPl (w :: t) = false:=by
 cases h : isPl (w :: t) with
 | false=>rfl
 | true =>
  unfold isPl at h
  rcases Bool.or_eq_true_iff.mp h with h | h
  ·obtain ⟨r,hr⟩:=Option.isSome_iff_exists.mp h
   rcases J0z hr with ⟨_,e⟩ | ⟨_,e | e⟩
   ·exact absurd (by simpa using e) h1
   ·exact absurd (by simpa using e) h2
   ·exact absurd (by simpa using e) h3
  ·obtain ⟨r,hr⟩:=Option.isSome_iff_exists.mp h
   rcases J0z hr with ⟨_,e⟩ | ⟨_,e | e⟩
   ·exact absurd (by simpa using e) h1
   ·exact absurd (by simpa using e) h2
   ·exact absurd (by simpa using e) h3
theorem TK.word {w : Wd} {t : List Wd} {ts : List Tk} (h : TK (w :: t) ts) (h1 : w ≠ JR) (h2 : w ≠ JY) (h3 : w ≠ JO) : ∃ ts',ts = some w :: ts' ∧ TK t ts':=by
 cases h with
 | pl hp _=>rw [J95 h1 h2 h3] at hp; cases hp
 | wd _ hT=>exact ⟨_,rfl,hT⟩
theorem Run.tok {s ts f : List Tk} {w : Wd} (h : Run s (some w :: ts) f) (e : redR (some w :: s) = none) : Run (some w :: s) ts f:=by
 cases h with
 | cons hn h=>rw [hn.stay e] at h; exact h
theorem J6U {w : Wd} {s : List Tk} (h : w ≠ wR) : redR (some w :: s) = none:=by
 unfold redR
 split
 ·rename_i e; cases e
 ·rename_i e
  injection e with e1 e2
  injection e1 with e1
  rw [if_neg (fun z=>h (e1.trans z.1))]
 ·rfl
theorem TK.plain {ws rest : List Wd} {r : R} {ts : List Tk} (hp : J00 ws = some r) (hT : TK (ws ++ rest) ts) : ∃ ts',ts = none :: ts' ∧ TK rest ts':=by
 have key : ∀ w t,ws = w :: t → isPl (w :: (t ++ rest)) = true ∧ ((w :: (t ++ rest)).drop (plK w)) = rest:=by
  intro w t e
  rcases J0z hp with ⟨el,eh⟩ | ⟨el,eh⟩
  ·have ew : w = JR:=by rw [e] at eh; simpa using eh
   refine ⟨?_,?_⟩
   ·unfold isPl
    rw [Bool.or_eq_true_iff]
    left
    rw [show w :: (t ++ rest) = ws ++ rest by rw [e]; rfl,List.take_append_of_le_length (by omega),List.take_of_length_le (by omega),hp]
    rfl
   ·unfold plK
    rw [if_pos ew,show w :: (t ++ rest) = ws ++ rest by rw [e]; rfl,← el,List.drop_left]
  ·have ew : ¬ w = JR:=by
    rw [e] at eh
    rcases eh with eh | eh
    ·have : w = JY:=by simpa using eh
     rw [this]; decide
    ·have : w = JO:=by simpa using eh
     rw [this]; decide
   refine ⟨?_,?_⟩
   ·unfold isPl
    rw [Bool.or_eq_true_iff]
    right
    rw [show w :: (t ++ rest) = ws ++ rest by rw [e]; rfl,List.take_append_of_le_length (by omega),List.take_of_length_le (by omega),hp]
    rfl
   ·unfold plK
    rw [if_neg ew,show w :: (t ++ rest) = ws ++ rest by rw [e]; rfl,← el,List.drop_left]
 cases ws with
 | nil=>exact absurd rfl (J0r hp).2
 | cons w t =>
  obtain ⟨k1,k2⟩:=key w t rfl
  rw [List.cons_append] at hT
  cases hT with
  | pl _ h=>rw [k2] at h; exact ⟨_,rfl,h⟩
  | wd h _=>rw [k1] at h; cases h
theorem J7C (s : List Tk) : redR (none :: some wNot :: s) = some (none :: s):=by
 cases s with
 | nil=>rfl
 | cons x t=>cases x <;> rfl
theorem J4V {w : Wd} (h : w = wAnd ∨ w = wOr) (s : List Tk) : redR (none :: some w :: none :: s) = some (none :: s):=by
 have hn : ¬ w = wNot:=by rcases h with rfl | rfl <;> decide
 rw [redR,if_neg hn]
 show (if w = wAnd ∨ w = wOr then some (none :: s) else none) = _
 rw [if_pos h]
theorem J8W (s : List Tk) : redR (some wR :: none :: some wL :: s) = some (none :: s):=by
 rw [redR,if_pos ⟨rfl,rfl⟩]
theorem JbH {n : Nat} {ws : List Wd} {r : R} (d : Rds n ws r) : ∀ {rest : List Wd} {s ts f : List Tk},TK (ws ++ rest) ts → Run s ts f → ∃ ts' s1,TK rest ts' ∧ Nrm (none :: s) s1 ∧ Run s1 ts' f:=by
 induction d with
 | plain hp =>
  intro rest s ts f hT hR
  obtain ⟨ts',rfl,hT'⟩:=TK.plain hp hT
  cases hR with
  | cons hn h=>exact ⟨_,_,hT',hn,h⟩
 | @neg ws r _ ih =>
  intro rest s ts f hT hR
  obtain ⟨ts1,rfl,hT1⟩:=TK.word (w:=wNot) (t:=ws ++ rest) hT (by decide) (by decide) (by decide)
  obtain ⟨ts',s1,a,b,c⟩:=ih hT1 (hR.tok (J6U (by decide)))
  exact ⟨ts',s1,a,b.go (J7C s),c⟩
 | @br ws r _ ih =>
  intro rest s ts f hT hR
  have hT0 : TK (wL :: (ws ++ (wR :: rest))) ts:=by
   have e : wL :: (ws ++ [wR]) ++ rest = wL :: (ws ++ (wR :: rest)):=by simp
   rwa [e] at hT
  obtain ⟨ts1,rfl,hT1⟩:=hT0.word (by decide) (by decide) (by decide)
  obtain ⟨ts',s1,a,b,c⟩:=ih hT1 (hR.tok (J6U (by decide)))
  have e1 : redR (none :: some wL :: s) = none:=by
   unfold redR
   show (if wL = wNot then some (none :: s) else _) = none
   rw [if_neg (by decide)]
   split
   ·rw [if_neg (by decide)]
   ·rfl
  obtain ⟨ts2,rfl,hT2⟩:=a.word (by decide) (by decide) (by decide)
  rw [b.stay e1] at c
  cases c with
  | @cons _ _ s2 _ _ hn h =>
   exact ⟨ts2,s2,hT2,hn.go (J8W s),h⟩
 | up1 _ ih=>exact ih
 | @both a b x y _ _ ia ib =>
  intro rest s ts f hT hR
  rw [List.append_assoc,List.cons_append] at hT
  obtain ⟨ts1,s1,h1,n1,r1⟩:=ia hT hR
  obtain ⟨s',rfl⟩:=n1.top ⟨_,rfl⟩
  obtain ⟨ts2,rfl,h2⟩:=h1.word (by decide) (by decide) (by decide)
  obtain ⟨ts3,s3,h3,n3,r3⟩:=ib h2 (r1.tok (J6U (by decide)))
  have n4:=n3.go (J4V (.inl rfl) s')
  rw [n4.stay n1.end] at r3
  exact ⟨ts3,_,h3,n1,r3⟩
 | up2 _ ih=>exact ih
 | @either a b x y _ _ ia ib =>
  intro rest s ts f hT hR
  rw [List.append_assoc,List.cons_append] at hT
  obtain ⟨ts1,s1,h1,n1,r1⟩:=ia hT hR
  obtain ⟨s',rfl⟩:=n1.top ⟨_,rfl⟩
  obtain ⟨ts2,rfl,h2⟩:=h1.word (by decide) (by decide) (by decide)
  obtain ⟨ts3,s3,h3,n3,r3⟩:=ib h2 (r1.tok (J6U (by decide)))
  have n4:=n3.go (J4V (.inr rfl) s')
  rw [n4.stay n1.end] at r3
  exact ⟨ts3,_,h3,n1,r3⟩
theorem Jb8 {ws : List Wd} {ts f : List Tk} (g : GW ws) (hT : TK ws ts) (h : Run [] ts f) : f = [none]:=by
 obtain ⟨r,d⟩:=g
 have hT' : TK (ws ++ []) ts:=by rwa [List.append_nil]
 obtain ⟨ts',s1,a,b,c⟩:=JbH d hT' h
 cases a
 have e:=b.stay rfl
 rw [e] at c
 cases c
 rfl
theorem Jdi {ws : List Wd} {ts f : List Tk} (hT : TK ws ts) (h : Run [] ts f) (hl : ws.length ≤ 60) : decide (f = [none]) = (rdW 60 ws).isSome:=by
 by_cases e : f = [none]
 ·rw [decide_eq_true e]
  rw [e] at h
  obtain ⟨r,d⟩:=Jbc hT h
  rw [J7H d 60 hl]
  rfl
 ·rw [decide_eq_false e]
  cases hr : rdW 60 ws with
  | none=>rfl
  | some r=>exact absurd (Jb8 (rd_G 60 ws r hr) hT h) e
theorem Jaa {ws : List Wd} {r : R} (h : J00 ws = some r) : r.ok ∧ r.sz = 1 ∧ wcN r.tx ≤ ws.length ∧ r.lvl = 0:=by
 rcases J4F h with ⟨w,rfl,hw,rfl⟩ | ⟨c,m,d,⟨rfl,⟨c0,c1⟩,⟨d0,d1⟩,hm,rfl⟩ | ⟨rfl,⟨c0,c1⟩,⟨d0,d1⟩,hm,rfl⟩⟩
 ·refine ⟨hw,rfl,?_,rfl⟩
  unfold wcN
  show (Ji 32 ([110,101,118,101,114] ++ 32 :: w)).length ≤ 2
  rw [J0n,J13 (w:=[110,101,118,101,114]) (by decide),J13 (J5C hw)]
  exact Nat.le_refl _
 ·refine ⟨⟨⟨by omega,by omega⟩,⟨by omega,by omega⟩,hm⟩,rfl,?_,rfl⟩
  unfold wcN
  show (Ji 32 (cnT [109,111,115,116] _ m _)).length ≤ 6
  rw [J4o (by decide) (J2B hm)]
  exact Nat.le_refl _
 ·refine ⟨⟨⟨by omega,by omega⟩,⟨by omega,by omega⟩,hm⟩,rfl,?_,rfl⟩
  unfold wcN
  show (Ji 32 (cnT [108,101,97,115,116] _ m _)).length ≤ 6
  rw [J4o (by decide) (J2B hm)]
  exact Nat.le_refl _
theorem Rds.fine {n : Nat} {ws : List Wd} {r : R} (d : Rds n ws r) : r.ok ∧ r.sz ≤ ws.length ∧ wcN r.tx ≤ ws.length ∧ (n < r.lvl → wcN r.tx + 2 ≤ ws.length):=by
 induction d with
 | @plain ws r hp =>
  obtain ⟨a,b,c,e⟩:=Jaa hp
  have:=List.length_pos_iff.mpr (J0r hp).2
  exact ⟨a,by omega,c,fun z=>by omega⟩
 | @neg ws i _ ih =>
  obtain ⟨a,b,c,e⟩:=ih
  refine ⟨a,by show i.sz + 1 ≤ ws.length + 1; omega,?_,fun z=>absurd z (by show ¬ 0 < 0; omega)⟩
  unfold wcN at c e ⊢
  show (Ji 32 ([110,111,116,32] ++ brT (decide (0 < i.lvl)) i.tx)).length ≤ ws.length + 1
  rw [J3d]
  have w:=J1L (decide (0 < i.lvl)) i.tx
  unfold wcN at w
  rw [List.length_cons,w]
  split
  ·rename_i z
   have:=e (of_decide_eq_true z)
   omega
  ·omega
 | @br ws r _ ih =>
  obtain ⟨a,b,c,e⟩:=ih
  have hl : (wL :: (ws ++ [wR])).length = ws.length + 2:=by simp
  exact ⟨a,by omega,by omega,fun _=>by omega⟩
 | up1 _ ih =>
  obtain ⟨a,b,c,e⟩:=ih
  exact ⟨a,b,c,fun z=>e (by omega)⟩
 | @both a b x y _ _ ia ib =>
  obtain ⟨a1,b1,c1,e1⟩:=ia
  obtain ⟨a2,b2,c2,e2⟩:=ib
  have hl : (a ++ wAnd :: b).length = a.length + b.length + 1:=by simp; omega
  refine ⟨⟨a1,a2⟩,by rw [hl]; show x.sz + y.sz + 1 ≤ _; omega,?_,fun z=>absurd z (by show ¬ 1 < 1; omega)⟩
  have w1:=J1L (decide (1 < x.lvl)) x.tx
  have w2:=J1L (decide (0 < y.lvl)) y.tx
  unfold wcN at c1 c2 e1 e2 w1 w2 ⊢
  show (Ji 32 (brT (decide (1 < x.lvl)) x.tx ++ [32,97,110,100,32] ++ brT (decide (0 < y.lvl)) y.tx)).length ≤ _
  rw [J3j,List.length_append,List.length_cons,w1,w2,hl]
  split
  ·rename_i z1
   have:=e1 (of_decide_eq_true z1)
   split
   ·rename_i z2
    have:=e2 (of_decide_eq_true z2)
    omega
   ·omega
  ·split
   ·rename_i z2
    have:=e2 (of_decide_eq_true z2)
    omega
   ·omega
 | up2 _ ih =>
  obtain ⟨a,b,c,e⟩:=ih
  exact ⟨a,b,c,fun z=>e (by omega)⟩
 | @either a b x y _ _ ia ib =>
  obtain ⟨a1,b1,c1,e1⟩:=ia
  obtain ⟨a2,b2,c2,e2⟩:=ib
  have hl : (a ++ wOr :: b).length = a.length + b.length + 1:=by simp; omega
  refine ⟨⟨a1,a2⟩,by rw [hl]; show x.sz + y.sz + 1 ≤ _; omega,?_,fun z=>absurd z (by show ¬ 2 < 2; omega)⟩
  have w1:=J1L (decide (2 < x.lvl)) x.tx
  have w2:=J1L (decide (1 < y.lvl)) y.tx
  unfold wcN at c1 c2 e1 e2 w1 w2 ⊢
  show (Ji 32 (brT (decide (2 < x.lvl)) x.tx ++ [32,111,114,32] ++ brT (decide (1 < y.lvl)) y.tx)).length ≤ _
  rw [J4l,List.length_append,List.length_cons,w1,w2,hl]
  split
  ·rename_i z1
   have:=e1 (of_decide_eq_true z1)
   split
   ·rename_i z2
    have:=e2 (of_decide_eq_true z2)
    omega
   ·omega
  ·split
   ·rename_i z2
    have:=e2 (of_decide_eq_true z2)
    omega
   ·omega
theorem Jaw {ws : List Wd} {r : R} (h : rdW 60 ws = some r) (hl : ws.length ≤ 60) : r.ok ∧ r.sz ≤ 60 ∧ r.tx.length ≤ 2000 ∧ (Ji 32 r.tx).length ≤ 60 ∧ rdW 60 (Ji 32 r.tx) = some r:=by
 obtain ⟨a,b,c,_⟩:=(JaE h hl).fine
 have x:=R.tx_ok a
 have hw : (Ji 32 r.tx).length ≤ 60:=by unfold wcN at c; omega
 refine ⟨a,by omega,by have:=x.ln; omega,hw,?_⟩
 exact J7H (x.rd.up (R.lvl2 r) (Nat.le_refl _)) 60 hw
section
variable {P : Program} {w : World} {K : PySem.W.Frag} {mg : Str → Option Value} {base : Heap} {J6 Jd J5 Jf J2 Jm J3 J4 Jh Jj Jk Ja J9 Jg : Addr}
theorem Jad {ws : List Wd} {wd : Wd} (h : 0 ≤ Jq ws wd) : (Jq ws wd).toNat < ws.length:=by
 rcases J5t wd ws 0 (-1,0) with e | ⟨k,e,hk⟩
 ·unfold Jq at h
  rw [e] at h
  exact absurd h (by decide)
 ·have e2 : (Jq ws wd).toNat = k:=by unfold Jq; rw [e]; omega
  rw [e2]
  exact (List.getElem?_eq_some_iff.mp hk).1
theorem J4t {ws : List Wd} {k : Nat} {P : Wd → Prop} (h : ∀ w ∈ ws,P w) : ∀ w ∈ ws.take k,P w:=fun w z=>h w (List.mem_of_mem_take z)
theorem J3n {ws : List Wd} {k : Nat} {P : Wd → Prop} (h : ∀ w ∈ ws,P w) : ∀ w ∈ ws.drop k,P w:=fun w z=>h w (List.mem_of_mem_drop z)
theorem J3P (tx : Tx K mg J6 Jd J5 Jf J2 Jm J3 J4 Jh Jj Jk Ja J9 Jg) : ∀ n,FnX P w K mg base "read_words" (5 + n) ["words"] (Jc7 K (cs6 J6 Jd J5 Jf J2 Jm J3 J4 Jh Jj Jk Ja J9 Jg) J4 n)
 | 0=>by
  have J07 : FnG P w K mg base "last_outside" 1 ["words","wanted"] (JbM K):=J30 (P:=P) (w:=w) (base:=base) tx
  refine FnX.mono (j:=5) (tx.J3M.x J1Q (fun _ _ _ _ _ _ us hl=>match us,hl with | [_],_=>rfl) (fun vs H Q E h=>?_) (fun f cdv A outer s H vs Q E hr h=>?_)) (by omega)
  ·obtain ⟨D,ws,rfl,_⟩:=h
   rfl
  ·obtain ⟨D,ws,_,_,hn,_⟩:=h
   omega
 | n + 1=>by
  have J07:=J3P tx n
  have J32:=J30 (P:=P) (w:=w) (base:=base) tx
  have J6J:=J6M (P:=P) (w:=w) (base:=base) tx
  have Jc4:=tx.J3w.g (J7v (P:=P) (w:=w) (base:=base) tx)
  have J9S:=tx.J1v.g (J5L (P:=P) (w:=w) (base:=base) tx)
  have JcS:=tx.J7m.g (J8a (P:=P) (w:=w) (base:=base) tx)
  refine FnX.mono (j:=(5 + n) + 1) (tx.J3M.x J1Q (fun _ _ _ _ _ _ us hl=>match us,hl with | [_],_=>rfl) (fun vs H Q E h=>?_) (fun f cdv A outer s H vs Q E hr h=>?_)) (by omega)
  ·obtain ⟨D,ws,rfl,_⟩:=h
   rfl
  ·obtain ⟨D,ws,rfl,hD,hn,hl,hw,qn,qs⟩:=h
   refine ⟨_,(Jb (Jn (i:=1) J1Q.nd rfl (Or.inl rfl) (JH J32 (hr.mono (by omega)) (J0 (pv 0) (J0 (Jl (l:=[111,114]) (by decide +kernel)) J7))))
   (Jb (JQ (Jo Jav (pv 1) J1 (Ju _)) (Jc (Jx (J4j (r:=J96 (cs6 J6 Jd J5 Jf J2 Jm J3 J4 Jh Jj Jk Ja J9 Jg)) J9S (hr.mono (by omega)) J9J (J0 (J2v J07 (hr.mono (by omega)) J3r.pass (J0 (Jy (JF (K:=K) rfl) (pv 0) JD (JB (pv 1))) J7)) (J0 (J2v J07 (hr.mono (by omega)) J3r.pass (J0 (Jy (JF (K:=K) rfl) (pv 0) (JB (Je JU (pv 1) J1)) JD) J7)) J7))))) JE)
   (Jb (Jn (i:=1) J1Q.nd rfl (Or.inl rfl) (JH J32 (hr.mono (by omega)) (J0 (pv 0) (J0 (Jl (l:=[97,110,100]) (by decide +kernel)) J7))))
   (Jb (JQ (Jo Jav (pv 1) J1 (Ju _)) (Jc (Jx (J4j (r:=JbU (cs6 J6 Jd J5 Jf J2 Jm J3 J4 Jh Jj Jk Ja J9 Jg)) Jc4 (hr.mono (by omega)) JbG (J0 (J2v J07 (hr.mono (by omega)) J3r.pass (J0 (Jy (JF (K:=K) rfl) (pv 0) JD (JB (pv 1))) J7)) (J0 (J2v J07 (hr.mono (by omega)) J3r.pass (J0 (Jy (JF (K:=K) rfl) (pv 0) (JB (Je JU (pv 1) J1)) JD) J7)) J7))))) JE)
   (Jb (JQ (Jo (J2U (K:=K) rfl hr.units0) (Jy (JF (K:=K) rfl) (pv 0) JD (JB J1)) (JV (J0 (Jl (l:=[110,111,116]) (by decide +kernel)) J7)) (Ju _)) (Jc (Jx (J4j (r:=rNot (cs6 J6 Jd J5 Jf J2 Jm J3 J4 Jh Jj Jk Ja J9 Jg)) JcS (hr.mono (by omega)) Jcq (J0 (J2v J07 (hr.mono (by omega)) J3r.pass (J0 (Jy (JF (K:=K) rfl) (pv 0) (JB J1) JD) J7)) J7)))) JE)
   (Jb (JQ (PW.pt (J5A (Jo (J2U (K:=K) rfl hr.units0) (Jy (JF (K:=K) rfl) (pv 0) JD (JB J1)) (JV (J0 (Jl (l:=[40]) (by decide +kernel)) J7)) (Ju _)) (J4X (Jo (J2U (K:=K) rfl hr.units0) (Jy (JF (K:=K) rfl) (pv 0) (JB (J3Z J2P J1)) JD) (JV (J0 (Jl (l:=[41]) (by decide +kernel)) J7)) (Ju _))))) (Jc (Jx (J2v J07 (hr.mono (by omega)) J3r.pass (J0 (Jy (JF (K:=K) rfl) (pv 0) (JB J1) (JB (J3Z J2P J1))) J7)))) JE)
   (Jc (Jx (J2v J6J (hr.mono (by omega)) J3r.pass (J0 (pv 0) J7)))))))))),?_⟩
   walk_at "st"
   rw [rdW] at qn qs
   walk_at "rd"
   intro H1 s1
   have hD1:=s1.seq hD
   walk_at "rd"
   refine ite2 (fun c=>?_) (fun c=>?_)
   ·have c' : 0 ≤ Jq ws wOr:=of_decide_eq_true c
    rw [if_pos c'] at qn qs
    clear c
    walk_at "rd"
    intro p1 hp1
    obtain ⟨H2,e2,hp2,s2⟩:=nwl (xs:=cutV (ws.map T) none (some (Jq ws wOr))) hp1
    rw [← e2]
    clear e2
    have lt:=Jad c'
    have q2 : SqL K H2 p1 ((ws.take (Jq ws wOr).toNat).map T):=by
     rw [← J3B _ _ c',← J14]
     exact SqL.of hp2
    have l2 : (ws.take (Jq ws wOr).toNat).length ≤ 1000:=by rw [List.length_take]; omega
    have l2b : (ws.take (Jq ws wOr).toNat).length < n:=by rw [List.length_take]; omega
    have w2 : ∀ w ∈ ws.take (Jq ws wOr).toNat,w.length ≤ 100000:=J4t hw
    have hD2:=s2.seq hD1
    clear hp1 hp2
    walk_at "rd"
    refine ⟨fun hx H' s'=>?_,fun x hx pa Ha sa ra=>?_⟩
    ·rw [hx] at qn
     exact qn rfl H' (s1.trans (s2.trans s'))
    rw [hx] at qn qs
    have hDa:=sa.seq hD2
    walk_at "rd"
    intro p3 hp3
    obtain ⟨H3,e3,hp4,s3⟩:=nwl (xs:=cutV (ws.map T) (some (Jq ws wOr + 1)) none) hp3
    rw [← e3]
    clear e3
    have q3 : SqL K H3 p3 ((ws.drop ((Jq ws wOr).toNat + 1)).map T):=by
     rw [show (Jq ws wOr).toNat + 1 = (Jq ws wOr + 1).toNat by omega,← J1Y _ _ (by omega),← J14]
     exact SqL.of hp4
    have l3 : (ws.drop ((Jq ws wOr).toNat + 1)).length ≤ 1000:=by rw [List.length_drop]; omega
    have l3b : (ws.drop ((Jq ws wOr).toNat + 1)).length < n:=by rw [List.length_drop]; omega
    have w3 : ∀ w ∈ ws.drop ((Jq ws wOr).toNat + 1),w.length ≤ 100000:=J3n hw
    clear hp3 hp4 q2
    walk_at "rd"
    refine ⟨fun hy H' s'=>?_,fun y hy pb Hb sb rb=>?_⟩
    ·rw [hy] at qn
     exact qn rfl H' (s1.trans (s2.trans (sa.trans (s3.trans s'))))
    rw [hy] at qs
    have ra':=(ra.same s3).same sb
    walk_at "rd"
    intro p dx H5 s5 r5 _
    exact qs _ rfl p H5 (s1.trans (s2.trans (sa.trans (s3.trans (sb.trans s5))))) r5
   ·have c' : ¬ 0 ≤ Jq ws wOr:=fun z=>c (decide_eq_true z)
    rw [if_neg c'] at qn qs
    clear c c'
    walk_at "rd"
    intro H1b s1b
    have hD1b:=s1b.seq hD1
    have s1c:=s1.trans s1b
    clear hD1 s1 s1b
    walk_at "rd"
    refine ite2 (fun c=>?_) (fun c=>?_)
    ·have c' : 0 ≤ Jq ws wAnd:=of_decide_eq_true c
     rw [if_pos c'] at qn qs
     clear c
     walk_at "rd"
     intro p1 hp1
     obtain ⟨H2,e2,hp2,s2⟩:=nwl (xs:=cutV (ws.map T) none (some (Jq ws wAnd))) hp1
     rw [← e2]
     clear e2
     have lt:=Jad c'
     have q2 : SqL K H2 p1 ((ws.take (Jq ws wAnd).toNat).map T):=by
      rw [← J3B _ _ c',← J14]
      exact SqL.of hp2
     have l2 : (ws.take (Jq ws wAnd).toNat).length ≤ 1000:=by rw [List.length_take]; omega
     have l2b : (ws.take (Jq ws wAnd).toNat).length < n:=by rw [List.length_take]; omega
     have w2 : ∀ w ∈ ws.take (Jq ws wAnd).toNat,w.length ≤ 100000:=J4t hw
     have hD2:=s2.seq hD1b
     clear hp1 hp2
     walk_at "rd"
     refine ⟨fun hx H' s'=>?_,fun x hx pa Ha sa ra=>?_⟩
     ·rw [hx] at qn
      exact qn rfl H' (s1c.trans (s2.trans s'))
     rw [hx] at qn qs
     have hDa:=sa.seq hD2
     walk_at "rd"
     intro p3 hp3
     obtain ⟨H3,e3,hp4,s3⟩:=nwl (xs:=cutV (ws.map T) (some (Jq ws wAnd + 1)) none) hp3
     rw [← e3]
     clear e3
     have q3 : SqL K H3 p3 ((ws.drop ((Jq ws wAnd).toNat + 1)).map T):=by
      rw [show (Jq ws wAnd).toNat + 1 = (Jq ws wAnd + 1).toNat by omega,← J1Y _ _ (by omega),← J14]
      exact SqL.of hp4
     have l3 : (ws.drop ((Jq ws wAnd).toNat + 1)).length ≤ 1000:=by rw [List.length_drop]; omega
     have l3b : (ws.drop ((Jq ws wAnd).toNat + 1)).length < n:=by rw [List.length_drop]; omega
     have w3 : ∀ w ∈ ws.drop ((Jq ws wAnd).toNat + 1),w.length ≤ 100000:=J3n hw
     clear hp3 hp4 q2
     walk_at "rd"
     refine ⟨fun hy H' s'=>?_,fun y hy pb Hb sb rb=>?_⟩
     ·rw [hy] at qn
      exact qn rfl H' (s1c.trans (s2.trans (sa.trans (s3.trans s'))))
     rw [hy] at qs
     have ra':=(ra.same s3).same sb
     walk_at "rd"
     intro p dx H5 s5 r5 _
     exact qs _ rfl p H5 (s1c.trans (s2.trans (sa.trans (s3.trans (sb.trans s5))))) r5
    ·have c' : ¬ 0 ≤ Jq ws wAnd:=fun z=>c (decide_eq_true z)
     rw [if_neg c'] at qn qs
     clear c c'
     have f1 : (cutV (ws.map T) none (some 1)).all J3t = true:=by rw [J14]; exact J8H _
     have f2 : (cutV (ws.map T) (some (-1)) none).all J3t = true:=by rw [J14]; exact J8H _
     have k1 : ∀ w : Wd,eqVs (cutV (ws.map T) none (some 1)) [T w] = decide (ws.take 1 = [w]):=fun w=>by
      rw [J14,J3B _ _ (by decide)]
      exact J6T _ [w]
     have k2 : ∀ w : Wd,eqVs (cutV (ws.map T) (some (-1)) none) [T w] = decide (ws.drop (ws.length - 1) = [w]):=fun w=>by
      rw [J14,JaC]
      exact J6T _ [w]
     walk_at "rd"
     intro p1 hp1
     obtain ⟨H2,e2,hp2,s2⟩:=nwl (xs:=cutV (ws.map T) none (some 1)) hp1
     rw [← e2]
     clear e2
     have hD2:=s2.seq hD1b
     walk_at "rd"
     intro p3 hp3
     obtain ⟨H3,e3,hp4,s3⟩:=nwl (xs:=[T [110,111,116]]) hp3
     rw [← e3]
     clear e3
     have hp5:=s3 _ _ hp2
     have hD3:=s3.seq hD2
     walk_at "rd"
     refine ite2 (fun c=>?_) (fun c=>?_)
     ·have c' : ws.take 1 = [wNot]:=by
       have c2 : eqVs (cutV (ws.map T) none (some 1)) [T wNot] = true:=c
       rw [k1] at c2
       exact of_decide_eq_true c2
      rw [if_pos c'] at qn qs
      have lp : 1 ≤ ws.length:=by
       cases ws with
       | nil=>cases c'
       | cons _ _=>simp
      walk_at "rd"
      intro p6 hp6
      obtain ⟨H4,e4,hp7,s4⟩:=nwl (xs:=cutV (ws.map T) (some 1) none) hp6
      rw [← e4]
      clear e4
      have q4 : SqL K H4 p6 ((ws.drop 1).map T):=by
       have e:=J1Y ws 1 (by decide)
       rw [J14,e] at hp7
       exact SqL.of hp7
      have l4 : (ws.drop 1).length ≤ 1000:=by rw [List.length_drop]; omega
      have l4b : (ws.drop 1).length < n:=by rw [List.length_drop]; omega
      have w4 : ∀ w ∈ ws.drop 1,w.length ≤ 100000:=J3n hw
      clear hp5 hp4 hp3 hp2 hp1 hp6 hp7
      walk_at "rd"
      refine ⟨fun hx H' s'=>?_,fun x hx pa Ha sa ra=>?_⟩
      ·rw [hx] at qn
       exact qn rfl H' (s1c.trans (s2.trans (s3.trans (s4.trans s'))))
      rw [hx] at qs
      walk_at "rd"
      intro p dx H5 s5 r5 _
      exact qs _ rfl p H5 (s1c.trans (s2.trans (s3.trans (s4.trans (sa.trans s5))))) r5
     ·have c' : ¬ ws.take 1 = [wNot]:=fun z=>c (by
       show eqVs (cutV (ws.map T) none (some 1)) [T wNot] = true
       rw [k1]
       exact decide_eq_true z)
      rw [if_neg c'] at qn qs
      clear c c'
      have s03:=s1c.trans (s2.trans s3)
      clear hp5 hp4 hp3 hp2 hp1 hD2 s1c s2 s3 hD1b
      walk_at "rd"
      intro p6 hp6
      obtain ⟨H4,e4,hp7,s4⟩:=nwl (xs:=cutV (ws.map T) none (some 1)) hp6
      rw [← e4]
      clear e4
      have hD4:=s4.seq hD3
      walk_at "rd"
      intro p8 hp8
      obtain ⟨H5,e5,hp9,s5⟩:=nwl (xs:=[T [40]]) hp8
      rw [← e5]
      clear e5
      have hp10:=s5 _ _ hp7
      have hD5:=s5.seq hD4
      have s05:=s03.trans (s4.trans s5)
      walk_at "rd"
      refine ite2 (fun c=>?_) (fun c=>?_)
      ·have c1 : ws.take 1 = [wL]:=by
        have c2 : eqVs (cutV (ws.map T) none (some 1)) [T wL] = true:=c
        rw [k1] at c2
        exact of_decide_eq_true c2
       have lp : 1 ≤ ws.length:=by
        cases ws with
        | nil=>cases c1
        | cons _ _=>simp
       clear c hp10 hp9 hp8 hp7 hp6 hD4 s4 s5 hD3 s03
       walk_at "rd"
       intro pb hpb
       obtain ⟨H6,e6,hpb2,s6⟩:=nwl (xs:=cutV (ws.map T) (some (-1)) none) hpb
       rw [← e6]
       clear e6
       have hD6:=s6.seq hD5
       walk_at "rd"
       intro pc hpc
       obtain ⟨H7,e7,hpc2,s7⟩:=nwl (xs:=[T [41]]) hpc
       rw [← e7]
       clear e7
       have hpb3:=s7 _ _ hpb2
       have hD7:=s7.seq hD6
       have s07:=s05.trans (s6.trans s7)
       walk_at "rd"
       refine ite2 (fun c=>?_) (fun c=>?_)
       ·have c3 : ws.drop (ws.length - 1) = [wR]:=by
         have c2 : eqVs (cutV (ws.map T) (some (-1)) none) [T wR] = true:=c
         rw [k2] at c2
         exact of_decide_eq_true c2
        rw [if_pos ⟨c1,c3⟩] at qn qs
        walk_at "rd"
        intro pd hpd
        obtain ⟨H8,e8,hpd2,s8⟩:=nwl (xs:=cutV (ws.map T) (some 1) (some (-1))) hpd
        rw [← e8]
        clear e8
        have q8 : SqL K H8 pd (((ws.drop 1).take (ws.length - 2)).map T):=by
         rw [J14,J9t] at hpd2
         exact SqL.of hpd2
        have l8 : ((ws.drop 1).take (ws.length - 2)).length ≤ 1000:=by rw [List.length_take,List.length_drop]; omega
        have l8b : ((ws.drop 1).take (ws.length - 2)).length < n:=by rw [List.length_take,List.length_drop]; omega
        have w8 : ∀ w ∈ (ws.drop 1).take (ws.length - 2),w.length ≤ 100000:=J4t (J3n hw)
        clear hpb3 hpc2 hpc hpb2 hpb hpd hpd2
        walk_at "rd"
        refine ⟨fun hx H' s'=>qn hx H' (s07.trans (s8.trans s')),fun x hx p H9 s9 r9=>?_⟩
        walk_at "rd"
        exact qs _ hx p H9 (s07.trans (s8.trans s9)) r9
       ·have c3 : ¬ ws.drop (ws.length - 1) = [wR]:=fun z=>c (by
         show eqVs (cutV (ws.map T) (some (-1)) none) [T wR] = true
         rw [k2]
         exact decide_eq_true z)
        rw [if_neg fun z=>c3 z.2] at qn qs
        walk_at "rd"
        refine ⟨fun hx H' s'=>qn hx H' (s07.trans s'),fun x hx p H9 s9 r9=>?_⟩
        walk_at "rd"
        exact qs _ hx p H9 (s07.trans s9) r9
      ·have c1 : ¬ ws.take 1 = [wL]:=fun z=>c (by
        show eqVs (cutV (ws.map T) none (some 1)) [T wL] = true
        rw [k1]
        exact decide_eq_true z)
       rw [if_neg fun z=>c1 z.1] at qn qs
       clear hp10 hp9 hp8 hp7 hp6
       walk_at "rd"
       refine ⟨fun hx H' s'=>qn hx H' (s05.trans s'),fun x hx p H9 s9 r9=>?_⟩
       walk_at "rd"
       exact qs _ hx p H9 (s05.trans s9) r9
theorem rd61 {ws : List Wd} (hl : ws.length ≤ 60) : rdW 61 ws = rdW 60 ws:=by
 cases h : rdW 60 ws with
 | some r=>exact J7H (JaE h hl) 61 (by omega)
 | none =>
  cases h2 : rdW 61 ws with
  | none=>rfl
  | some r =>
   obtain ⟨r',d⟩:=rd_G 61 ws r h2
   rw [J7H d 60 hl] at h
   cases h
theorem J40 : ∀ (l : List Nat),∀ w ∈ Ji 32 l,w.length ≤ l.length
 | [],w,h=>by
  rw [Ji] at h
  rw [List.mem_singleton.mp h]
  exact Nat.le_refl _
 | x :: r,w,h=>by
  by_cases e : x = 32
  ·rw [Ji,if_pos e] at h
   rcases List.mem_cons.mp h with rfl | h
   ·simp
   ·have:=J40 r w h
    simp
    omega
  ·rw [Ji,if_neg e] at h
   obtain ⟨a,t,eq⟩:=J1o 32 r
   rw [eq] at h
   have ih:=J40 r
   rw [eq] at ih
   rcases List.mem_cons.mp h with rfl | h
   ·have:=ih a (by simp)
    simp
    omega
   ·have:=ih w (by simp [h])
    simp
    omega
theorem J4w (tx : Tx K mg J6 Jd J5 Jf J2 Jm J3 J4 Jh Jj Jk Ja J9 Jg) : FnX P w K mg base "read_rule" 67 ["text"] (JbZ (cs6 J6 Jd J5 Jf J2 Jm J3 J4 Jh Jj Jk Ja J9 Jg) J4):=by
 have J07:=J3P (P:=P) (w:=w) (base:=base) tx 61
 refine tx.J7o.x J3F (fun _ _ _ _ _ _ us hl=>match us,hl with | [_],_=>rfl) (fun vs H Q E h=>?_) (fun f cdv A outer s H vs Q E hr h=>?_)
 ·obtain ⟨t,rfl,_⟩:=h
  rfl
 ·obtain ⟨t,rfl,ht,qn,qy⟩:=h
  refine ⟨_,(Jb (Jn (i:=1) J3F.nd rfl (Or.inl rfl) (J3m (K:=K) rfl (pv 0) (J0 (Jl (l:=[32]) (by decide +kernel)) J7)))
   (Jb (JQ (Jo J92 (Jz (JJ (K:=K) rfl) rfl tx.J0B PySem.boot_len (J0 (pv 1) J7)) (JaU rfl tx.J1z) (Ju _)) (Jc (J7K J3r tx.J2f tx.J58 (J0 (Jl (l:=[97,32,114,117,108,101,32,104,97,115,32,97,116,32,109,111,115,116,32,115,105,120,116,121,32,119,111,114,100,115]) (by decide +kernel)) J7))) JE)
   (Jc (Jx (J2v J07 (hr.mono (by decide)) J3r.pass (J0 (pv 1) J7)))))),?_⟩
  walk_at "st"
  have ht2 : t.length ≤ 100000:=by omega
  walk_at "rd"
  intro p hp
  obtain ⟨H1,e1,hp1,s1⟩:=nwl (xs:=(Ji 32 t).map T) hp
  rw [← e1]
  clear e1
  have q1 : SqL K H1 p ((Ji 32 t).map T):=SqL.of hp1
  walk_at "rd"
  refine ite2 (fun c=>?_) (fun c=>?_)
  ·have c':=of_decide_eq_true c
   rw [List.length_map] at c'
   refine ⟨by show 1 ≤ sizeLine; decide,qn (.inl (by omega)) H1 s1⟩
  have c':=of_decide_eq_false (Bool.eq_false_iff.mpr c)
  rw [List.length_map] at c'
  have l0 : (Ji 32 t).length ≤ 60:=by omega
  have l1 : (Ji 32 t).length ≤ 1000:=by omega
  have l2 : (Ji 32 t).length < 61:=by omega
  have w1 : ∀ w ∈ Ji 32 t,w.length ≤ 100000:=fun w hw=>by have:=J40 t w hw; omega
  walk_at "rd"
  rw [rd61 l0]
  refine ⟨fun hx H' s'=>qn (.inr hx) H' (s1.trans s'),fun r hr' p2 H2 s2 r2=>?_⟩
  walk_at "rd"
  exact qy r l0 hr' p2 H2 (s1.trans s2) r2
end
noncomputable def JcT : Sp:=fun vs H Q _=>∃ w n m d,vs = [T w,.int n,T m,.int d] ∧ 0 ≤ n ∧ n ≤ 9 ∧ 0 ≤ d ∧ d ≤ 9 ∧ w.length ≤ 9 ∧ m.length ≤ 9 ∧ Q (T (cnT w n m d)) H
noncomputable def Jc2 (c : Cs) : Sp:=fun vs H Q _=>∃ (r : R) (p : Addr),vs = [.ref p] ∧ JS c H r p ∧ Q (.bl (decide (0 < r.lvl))) H
noncomputable def J74 (c : Cs) (r : R) : Sp:=fun vs H Q _=>∃ p,vs = [.ref p] ∧ JS c H r p ∧ Q (T r.tx) H
noncomputable def JcZ (c : Cs) (n : Nat) : Sp:=fun vs H Q _=>∃ (r : R) (p : Addr) (b : Bool),vs = [.ref p,.bl b] ∧ JS c H r p ∧ r.ok ∧ r.sz ≤ n ∧ wcN r.tx ≤ 60 ∧ Q (T (brT b r.tx)) H
section
variable {P : Program} {w : World} {K : PySem.W.Frag} {mg : Str → Option Value} {base : Heap} {J6 Jd J5 Jf J2 Jm J3 J4 Jh Jj Jk Ja J9 Jg : Addr}
local macro_rules | `(tactic| walk_at "lk")=>`(tactic| first | exact wl _ | exact J99 _ _ _ | exact J7W _ _ _ | exact J8T _ _ _ | exact J8S _ _ | exact J7O _ _ | exact J7P _)
theorem J3O (tx : Tx K mg J6 Jd J5 Jf J2 Jm J3 J4 Jh Jj Jk Ja J9 Jg) : FnG P w K mg base "count_text" 1 ["word","many","marks","days"] JcT:=by
 refine tx.J6s.g J5O (fun _ _ _ _ _ _ us hl=>match us,hl with | [_,_,_,_],_=>rfl) (fun vs H Q E h=>?_) (fun f cdv A outer s H vs Q E hr h=>?_)
 ·obtain ⟨w,n,m,d,rfl,_⟩:=h
  rfl
 ·obtain ⟨w,n,m,d,rfl,n0,n1,d0,d1,hw,hm,q⟩:=h
  obtain ⟨n,rfl⟩ : ∃ k : Nat,n = (k : Int):=⟨n.toNat,by omega⟩
  obtain ⟨d,rfl⟩ : ∃ k : Nat,d = (k : Int):=⟨d.toNat,by omega⟩
  refine ⟨_,(Jc (Jx (J4T (J05 (J3y (pv 0)) (J05 (J3C (l:=[32]) (by decide +kernel)) (J05 (JaA (pv 1)) (J05 (J3C (l:=[32,111,102,32]) (by decide +kernel)) (J05 (J3y (pv 2)) (J05 (J3C (l:=[32,105,110,32]) (by decide +kernel)) (J05 (JaA (pv 3)) J50)))))))))),?_⟩
  walk_at "st"
  have n2 : n ≤ 9:=by omega
  have d2 : d ≤ 9:=by omega
  walk_at "rd"
  exact q
theorem R.kinds (tx : Tx K mg J6 Jd J5 Jf J2 Jm J3 J4 Jh Jj Jk Ja J9 Jg) {H : Hp} {r : R} {p : Addr} (h : JS (cs6 J6 Jd J5 Jf J2 Jm J3 J4 Jh Jj Jk Ja J9 Jg) H r p) : ∃ dx fs b1 b2,H p = some (.ins (r.cls (cs6 J6 Jd J5 Jf J2 Jm J3 J4 Jh Jj Jk Ja J9 Jg)) dx fs) ∧ J4G K (r.cls (cs6 J6 Jd J5 Jf J2 Jm J3 J4 Jh Jj Jk Ja J9 Jg)) ∧ PySem.W.kitOne K (.ref (r.cls (cs6 J6 Jd J5 Jf J2 Jm J3 J4 Jh Jj Jk Ja J9 Jg))) (.ref Jf) = some b1 ∧ PySem.W.kitOne K (.ref (r.cls (cs6 J6 Jd J5 Jf J2 Jm J3 J4 Jh Jj Jk Ja J9 Jg))) (.ref J2) = some b2 ∧
  (b1 || b2) = decide (0 < r.lvl) ∧ b2 = decide (1 < r.lvl) ∧ fs.lookup ("text" : Str) = none:=by
 obtain ⟨dx,fs,ob,_,_,nt⟩:=h.obj
 cases r with
 | nev _=>exact ⟨dx,fs,_,_,ob,tx.Jb1,tx.J1D,tx.J0E,rfl,rfl,nt⟩
 | most _ _ _=>exact ⟨dx,fs,_,_,ob,tx.Jc8,tx.J1V,tx.J0Z,rfl,rfl,nt⟩
 | least _ _ _=>exact ⟨dx,fs,_,_,ob,tx.Jb2,tx.J1B,tx.J0F,rfl,rfl,nt⟩
 | both _ _=>exact ⟨dx,fs,_,_,ob,tx.Jc9,tx.J1T,tx.J11,rfl,rfl,nt⟩
 | either _ _=>exact ⟨dx,fs,_,_,ob,tx.J9W,tx.J0Y,tx.J0q,rfl,rfl,nt⟩
 | neg _=>exact ⟨dx,fs,_,_,ob,tx.JcY,tx.J2j,tx.J1A,rfl,rfl,nt⟩
theorem J4x (tx : Tx K mg J6 Jd J5 Jf J2 Jm J3 J4 Jh Jj Jk Ja J9 Jg) : FnG P w K mg base "is_joined" 1 ["rule"] (Jc2 (cs6 J6 Jd J5 Jf J2 Jm J3 J4 Jh Jj Jk Ja J9 Jg)):=by
 refine tx.J7j.g J6K (fun _ _ _ _ _ _ us hl=>match us,hl with | [_],_=>rfl) (fun vs H Q E h=>?_) (fun f cdv A outer s H vs Q E hr h=>?_)
 ·obtain ⟨r,p,rfl,_⟩:=h
  rfl
 ·obtain ⟨r,p,rfl,hR,q⟩:=h
  refine ⟨_,(Jc (Jx (J5Y (Jz (J2O (K:=K) rfl) rfl tx.JC JK (J0 (pv 0) (J0 (J0W (v:=.ref Jf) rfl tx.J3w.mg rfl) J7))) (J2t (Jz (J2O (K:=K) rfl) rfl tx.JC JK (J0 (pv 0) (J0 (J0W (v:=.ref J2) rfl tx.J1v.mg rfl) J7))))))),?_⟩
  walk_at "st"
  obtain ⟨dx,fs,b1,b2,ob,hy,i1,i2,e1,e2,_⟩:=R.kinds tx hR
  rw [← e1] at q
  clear hR
  walk_at "rd"
  refine ite2 (fun c=>?_) (fun c=>?_)
  ·rw [c,Bool.true_or] at q
   exact q
  ·rw [Bool.eq_false_iff.mpr c,Bool.false_or] at q
   walk_at "rd"
   exact q
theorem J6y (tx : Tx K mg J6 Jd J5 Jf J2 Jm J3 J4 Jh Jj Jk Ja J9 Jg) : ∀ wd,J08 wd = true → MtG P w K mg base J6 "text" 1 ["self"] (J74 (cs6 J6 Jd J5 Jf J2 Jm J3 J4 Jh Jj Jk Ja J9 Jg) (.nev wd)):=fun wd hw=>by
 refine tx.J6v.g tx.J3U.cl J5M (fun _ _ _ _ _ _ us hl=>match us,hl with | [_],_=>rfl) (fun vs H Q E h=>?_) (fun f cdv A outer s H vs Q E hr h=>?_)
 ·obtain ⟨p,rfl,_⟩:=h
  rfl
 ·obtain ⟨p,rfl,⟨⟨dx,hp⟩,_⟩,q⟩:=h
  refine ⟨_,(Jc (Jx (Je Js (Jl (l:=[110,101,118,101,114,32]) (by decide +kernel)) (J0f (K:=K) rfl (pv 0) rfl)))),?_⟩
  walk_at "st"
  have c1:=tx.J3U.cl
  have n1:=tx.J0M
  obtain ⟨w1,w2⟩:=J3i hw
  have hp' : H p = some (.ins J6 dx [("word",T wd)]):=hp
  clear hp
  walk_at "rd"
  exact q
theorem J7n (tx : Tx K mg J6 Jd J5 Jf J2 Jm J3 J4 Jh Jj Jk Ja J9 Jg) : ∀ n m d,(R.most n m d).ok → MtG P w K mg base Jd "text" 2 ["self"] (J74 (cs6 J6 Jd J5 Jf J2 Jm J3 J4 Jh Jj Jk Ja J9 Jg) (.most n m d)):=fun n m d ho=>by
 have J1t:=J3O (P:=P) (w:=w) (base:=base) tx
 refine tx.J7u.g tx.J3x.cl J6u (fun _ _ _ _ _ _ us hl=>match us,hl with | [_],_=>rfl) (fun vs H Q E h=>?_) (fun f cdv A outer s H vs Q E hr h=>?_)
 ·obtain ⟨p,rfl,_⟩:=h
  rfl
 ·obtain ⟨p,rfl,⟨⟨dx,hp⟩,_⟩,q⟩:=h
  refine ⟨_,(Jc (Jx (JH J1t (hr.mono (by decide)) (J0 (Jl (l:=[109,111,115,116]) (by decide +kernel)) (J0 (J0f (K:=K) rfl (pv 0) rfl) (J0 (J0f (K:=K) rfl (pv 0) rfl) (J0 (J0f (K:=K) rfl (pv 0) rfl) J7))))))),?_⟩
  walk_at "st"
  clear J1t
  have c1:=tx.J3x.cl
  have k1:=tx.J18
  have k2:=tx.J0R
  have k3:=tx.J1e
  obtain ⟨⟨n0,n1⟩,⟨d0,d1⟩,hm⟩:=ho
  obtain ⟨m1,m2⟩:=J1q hm
  have n2 : n ≤ 9:=by omega
  have d2 : d ≤ 9:=by omega
  have d3 : 0 ≤ d:=by omega
  have hp' : H p = some (.ins Jd dx [("many",.int n),("marks",T m),("days",.int d)]):=hp
  clear hp
  walk_at "rd"
  exact q
theorem J6G (tx : Tx K mg J6 Jd J5 Jf J2 Jm J3 J4 Jh Jj Jk Ja J9 Jg) : ∀ n m d,(R.least n m d).ok → MtG P w K mg base J5 "text" 2 ["self"] (J74 (cs6 J6 Jd J5 Jf J2 Jm J3 J4 Jh Jj Jk Ja J9 Jg) (.least n m d)):=fun n m d ho=>by
 have J1t:=J3O (P:=P) (w:=w) (base:=base) tx
 refine tx.J6r.g tx.J2N.cl J5G (fun _ _ _ _ _ _ us hl=>match us,hl with | [_],_=>rfl) (fun vs H Q E h=>?_) (fun f cdv A outer s H vs Q E hr h=>?_)
 ·obtain ⟨p,rfl,_⟩:=h
  rfl
 ·obtain ⟨p,rfl,⟨⟨dx,hp⟩,_⟩,q⟩:=h
  refine ⟨_,(Jc (Jx (JH J1t (hr.mono (by decide)) (J0 (Jl (l:=[108,101,97,115,116]) (by decide +kernel)) (J0 (J0f (K:=K) rfl (pv 0) rfl) (J0 (J0f (K:=K) rfl (pv 0) rfl) (J0 (J0f (K:=K) rfl (pv 0) rfl) J7))))))),?_⟩
  walk_at "st"
  clear J1t
  have c1:=tx.J2N.cl
  have k1:=tx.J0Q
  have k2:=tx.J0s
  have k3:=tx.J0T
  obtain ⟨⟨n0,n1⟩,⟨d0,d1⟩,hm⟩:=ho
  obtain ⟨m1,m2⟩:=J1q hm
  have n2 : n ≤ 9:=by omega
  have d2 : d ≤ 9:=by omega
  have d3 : 0 ≤ d:=by omega
  have hp' : H p = some (.ins J5 dx [("many",.int n),("marks",T m),("days",.int d)]):=hp
  clear hp
  walk_at "rd"
  exact q
theorem J2X (tx : Tx K mg J6 Jd J5 Jf J2 Jm J3 J4 Jh Jj Jk Ja J9 Jg) {n : Nat} (G : ∀ r : R,r.ok → r.sz ≤ n → wcN r.tx ≤ 60 → MtG P w K mg base (r.cls (cs6 J6 Jd J5 Jf J2 Jm J3 J4 Jh Jj Jk Ja J9 Jg)) "text" (2 + 2 * n) ["self"] (J74 (cs6 J6 Jd J5 Jf J2 Jm J3 J4 Jh Jj Jk Ja J9 Jg) r)) : FnG P w K mg base "part_text" (3 + 2 * n) ["rule","in_brackets"] (JcZ (cs6 J6 Jd J5 Jf J2 Jm J3 J4 Jh Jj Jk Ja J9 Jg) n):=by
 refine FnG.mono (j:=(2 + 2 * n) + 1) (tx.J75.g J3E (fun _ _ _ _ _ _ us hl=>match us,hl with | [_,_],_=>rfl) (fun vs H Q E h=>?_) (fun f cdv A outer s H vs Q E hr h=>?_)) (by omega)
 ·obtain ⟨r,p,b,rfl,_⟩:=h
  rfl
 ·obtain ⟨r,p,b,rfl,hR,ho,hz,hz2,q⟩:=h
  refine ⟨_,(Jb (Jn (i:=2) J3E.nd rfl (Or.inl rfl) (J4W (P:=P) (w:=w) (K:=K) (mg:=mg) (base:=base) hr (pv 0) rfl rfl rfl rfl rfl))
   (Jc (Jx (Jam (J2u (pv 1)) (J4T (J05 (J3C (l:=[40,32]) (by decide +kernel)) (J05 (J3y (pv 2)) (J05 (J3C (l:=[32,41]) (by decide +kernel)) J50)))) (pv 2))))),?_⟩
  walk_at "st"
  obtain ⟨dx,fs,ob,_,_,nt⟩:=hR.obj
  have Gr:=G r ho hz hz2
  have hl:=tx9 r ho
  have hl2 : r.tx.length ≤ 960:=by omega
  clear G
  walk_at "rd"
  refine ite2 (fun c=>?_) (fun c=>?_)
  ·rw [c] at q
   walk_at "rd"
   exact q
  ·rw [Bool.eq_false_iff.mpr c] at q
   walk_at "rd"
   exact q
theorem J9Y (tx : Tx K mg J6 Jd J5 Jf J2 Jm J3 J4 Jh Jj Jk Ja J9 Jg) : ∀ (n : Nat) (r : R),r.ok → r.sz ≤ n → wcN r.tx ≤ 60 → MtG P w K mg base (r.cls (cs6 J6 Jd J5 Jf J2 Jm J3 J4 Jh Jj Jk Ja J9 Jg)) "text" (2 + 2 * n) ["self"] (J74 (cs6 J6 Jd J5 Jf J2 Jm J3 J4 Jh Jj Jk Ja J9 Jg) r)
 | 0,r,_,hz,_=>by have:=r.sz_pos; omega
 | n + 1,.nev w,ho,_,_=>(J6y tx w ho).mono (by omega)
 | n + 1,.most a m d,ho,_,_=>(J7n tx a m d ho).mono (by omega)
 | n + 1,.least a m d,ho,_,_=>(J6G tx a m d ho).mono (by omega)
 | n + 1,.neg i,ho,hz,h24=>by
  have hi : i.sz ≤ n:=by have : i.sz + 1 ≤ n + 1:=hz; omega
  have hi2 : wcN i.tx ≤ 60:=by have:=Jck i; omega
  have hoi : i.ok:=ho
  have J0a:=J2X (P:=P) (w:=w) (base:=base) tx (n:=n) fun r h1 h2=>J9Y tx n r h1 h2
  have J1S:=J4x (P:=P) (w:=w) (base:=base) tx
  refine MtG.mono (j:=(3 + 2 * n) + 1) (tx.J86.g tx.J7m.cl J7a (fun _ _ _ _ _ _ us hl=>match us,hl with | [_],_=>rfl) (fun vs H Q E h=>?_) (fun f cdv A outer s H vs Q E hr h=>?_)) (by omega)
  ·obtain ⟨p,rfl,_⟩:=h
   rfl
  ·obtain ⟨p,rfl,⟨dx,a,e,ha⟩,q⟩:=h
   refine ⟨_,(Jc (Jx (Je Js (Jl (l:=[110,111,116,32]) (by decide +kernel)) (JH J0a (hr.mono (by omega)) (J0 (J0f (K:=K) rfl (pv 0) rfl) (J0 (JH J1S (hr.mono (by omega)) (J0 (J0f (K:=K) rfl (pv 0) rfl) J7)) J7)))))),?_⟩
   walk_at "st"
   have c1:=tx.J7m.cl
   have n1:=tx.J1f
   have hl:=tx9 i hoi
   have hb:=J43 (decide (0 < i.lvl)) i.tx
   have hb2 : (brT (decide (0 < i.lvl)) i.tx).length ≤ 964:=by omega
   have e' : H p = some (.ins Jm dx [("inner",.ref a)]):=e
   clear e J0a J1S
   walk_at "rd"
   exact q
 | n + 1,.both l r,ho,hz,h24=>by
  have z1 : l.sz + r.sz + 1 ≤ n + 1:=hz
  have z2 : wcN l.tx + wcN r.tx + 1 ≤ 60:=by have:=Jbi l r; omega
  have hl1 : l.sz ≤ n:=by omega
  have hl2 : wcN l.tx ≤ 60:=by omega
  have hr1 : r.sz ≤ n:=by omega
  have hr2 : wcN r.tx ≤ 60:=by omega
  obtain ⟨ol,or⟩ : l.ok ∧ r.ok:=ho
  have tl:=tx9 l ol
  have tr:=tx9 r or
  have J0a:=J2X (P:=P) (w:=w) (base:=base) tx (n:=n) fun r h1 h2=>J9Y tx n r h1 h2
  have J1S:=J4x (P:=P) (w:=w) (base:=base) tx
  refine MtG.mono (j:=(3 + 2 * n) + 1) (tx.J7i.g tx.J3w.cl J2J (fun _ _ _ _ _ _ us hl=>match us,hl with | [_],_=>rfl) (fun vs H Q E h=>?_) (fun f cdv A outer s H vs Q E hr h=>?_)) (by omega)
  ·obtain ⟨p,rfl,_⟩:=h
   rfl
  ·obtain ⟨p,rfl,⟨dx,a,b,e,ha,hb⟩,q⟩:=h
   refine ⟨_,(Jb (Jn (i:=1) J2J.nd rfl (Or.inl rfl) (JH J0a (hr.mono (by omega)) (J0 (J0f (K:=K) rfl (pv 0) rfl) (J0 (Jz (J2O (K:=K) rfl) rfl tx.JC JK (J0 (J0f (K:=K) rfl (pv 0) rfl) (J0 (J0W (v:=.ref J2) rfl tx.J1v.mg rfl) J7))) J7))))
   (Jb (Jn (i:=2) J2J.nd rfl (Or.inl rfl) (JH J0a (hr.mono (by omega)) (J0 (J0f (K:=K) rfl (pv 0) rfl) (J0 (JH J1S (hr.mono (by omega)) (J0 (J0f (K:=K) rfl (pv 0) rfl) J7)) J7))))
   (Jc (Jx (J4T (J05 (J3y (pv 1)) (J05 (J3C (l:=[32,97,110,100,32]) (by decide +kernel)) (J05 (J3y (pv 2)) J50)))))))),?_⟩
   walk_at "st"
   have c1:=tx.J3w.cl
   have n1:=tx.J1j
   have n2:=tx.J0N
   have e' : H p = some (.ins Jf dx [("left",.ref a),("right",.ref b)]):=e
   clear e
   obtain ⟨dxl,fsl,b1,b2,obl,yl,il1,il2,el1,el2,_⟩:=R.kinds tx ha
   have w1:=J43 b2 l.tx
   have w2:=J43 (decide (0 < r.lvl)) r.tx
   have w3 : (brT b2 l.tx).length + (brT (decide (0 < r.lvl)) r.tx).length ≤ 930:=by omega
   have w4 : (brT b2 l.tx).length ≤ 930:=by omega
   have w5 : (brT (decide (0 < r.lvl)) r.tx).length ≤ 930:=by omega
   clear J0a J1S
   walk_at "rd"
   have eq : brT b2 l.tx ++ [32,97,110,100,32] ++ brT (decide (0 < r.lvl)) r.tx = (R.both l r).tx:=by rw [el2]; rfl
   rw [← eq] at q
   exact q
 | n + 1,.either l r,ho,hz,h24=>by
  have z1 : l.sz + r.sz + 1 ≤ n + 1:=hz
  have z2 : wcN l.tx + wcN r.tx + 1 ≤ 60:=by have:=J9s l r; omega
  have hl1 : l.sz ≤ n:=by omega
  have hl2 : wcN l.tx ≤ 60:=by omega
  have hr1 : r.sz ≤ n:=by omega
  have hr2 : wcN r.tx ≤ 60:=by omega
  obtain ⟨ol,or⟩ : l.ok ∧ r.ok:=ho
  have tl:=tx9 l ol
  have tr:=tx9 r or
  have J0a:=J2X (P:=P) (w:=w) (base:=base) tx (n:=n) fun r h1 h2=>J9Y tx n r h1 h2
  have Gl:=J9Y tx n l ol hl1 hl2
  refine MtG.mono (j:=(3 + 2 * n) + 1) (tx.J5P.g tx.J1v.cl J2i (fun _ _ _ _ _ _ us hl=>match us,hl with | [_],_=>rfl) (fun vs H Q E h=>?_) (fun f cdv A outer s H vs Q E hr h=>?_)) (by omega)
  ·obtain ⟨p,rfl,_⟩:=h
   rfl
  ·obtain ⟨p,rfl,⟨dx,a,b,e,ha,hb⟩,q⟩:=h
   refine ⟨_,(Jb (Jn (i:=1) J2i.nd rfl (Or.inl rfl) (J4W (P:=P) (w:=w) (K:=K) (mg:=mg) (base:=base) hr (J0f (K:=K) rfl (pv 0) rfl) rfl rfl rfl rfl rfl))
   (Jb (Jn (i:=2) J2i.nd rfl (Or.inl rfl) (JH J0a (hr.mono (by omega)) (J0 (J0f (K:=K) rfl (pv 0) rfl) (J0 (Jz (J2O (K:=K) rfl) rfl tx.JC JK (J0 (J0f (K:=K) rfl (pv 0) rfl) (J0 (J0W (v:=.ref J2) rfl tx.J1v.mg rfl) J7))) J7))))
   (Jc (Jx (J4T (J05 (J3y (pv 1)) (J05 (J3C (l:=[32,111,114,32]) (by decide +kernel)) (J05 (J3y (pv 2)) J50)))))))),?_⟩
   walk_at "st"
   have c1:=tx.J1v.cl
   have n1:=tx.J0u
   have n2:=tx.J0k
   have e' : H p = some (.ins J2 dx [("left",.ref a),("right",.ref b)]):=e
   clear e
   obtain ⟨dxl,fsl,obl,_,_,ntl⟩:=ha.obj
   obtain ⟨dxr,fsr,b1,b2,obr,yr,ir1,ir2,er1,er2,_⟩:=R.kinds tx hb
   have w2:=J43 b2 r.tx
   have w3 : l.tx.length + (brT b2 r.tx).length ≤ 930:=by omega
   have w4 : l.tx.length ≤ 930:=by omega
   have w5 : (brT b2 r.tx).length ≤ 930:=by omega
   clear J0a
   walk_at "rd"
   have eq : l.tx ++ [32,111,114,32] ++ brT b2 r.tx = (R.either l r).tx:=by
    have el : brT (decide (2 < l.lvl)) l.tx = l.tx:=by rw [decide_eq_false (by have:=l.lvl2; omega)]; rfl
    rw [er2,← el]
    show _ = brT (decide (2 < l.lvl)) l.tx ++ [32,111,114,32] ++ brT (decide (1 < r.lvl)) r.tx
    rw [el]
   rw [← eq] at q
   exact q
end
theorem at_T (L : List Wd) (k : Int) (h0 : 0 ≤ k) (h1 : k < L.length) : ∃ t ∈ L,atI (L.map T) k = some (T t):=by
 obtain ⟨v,hv,e⟩:=J41 (L.map T) k h0 (by rw [List.length_map]; exact h1)
 rw [List.getElem?_map] at e
 cases h : L[k.toNat]? with
 | none=>rw [h] at e; cases e
 | some t =>
  rw [h] at e
  cases e
  exact ⟨t,List.mem_of_getElem? h,hv⟩
theorem at_c (L : List Nat) (k : Int) (h0 : 0 ≤ k) (h1 : k < L.length) : ∃ c,atI L k = some c:=by
 obtain ⟨v,hv,_⟩:=J41 L k h0 h1
 exact ⟨v,hv⟩
noncomputable def J8i (n : Nat) : Sp:=fun vs H Q _=>∃ c : Int,vs = [.int c] ∧ ∀ (t : List Nat) H',t.length ≤ n → Same H H' → Q (T t) H'
noncomputable def Jb5 (K : PySem.W.Frag) : Sp:=fun vs H Q _=>∃ (cs : Addr) (ns : List Int),vs = [.ref cs] ∧ SqL K H cs (ns.map V.int) ∧ 1 ≤ ns.length ∧ ns.length ≤ 8 ∧ ∀ (t : List Nat) H',t.length ≤ 310 → Same H H' → Q (T t) H'
noncomputable def Jc1 : Sp:=fun vs H Q _=>∃ c k : Int,vs = [.int c,.int k] ∧ 0 ≤ k ∧ k ≤ 10 ∧ ∀ z : Int,Q (.int z) H
section
variable {P : Program} {w : World} {K : PySem.W.Frag} {mg : Str → Option Value} {base : Heap} {J6 Jd J5 Jf J2 Jm J3 J4 Jh Jj Jk Ja J9 Jg : Addr}
theorem J5N (tx : Tx K mg J6 Jd J5 Jf J2 Jm J3 J4 Jh Jj Jk Ja J9 Jg) : FnG P w K mg base "_law_cell_at" 1 ["_law_script","_law_k"] (Jb3 K):=by
 refine tx.J5T.g J5n (fun _ _ _ _ _ _ us hl=>match us,hl with | [_,_],_=>rfl) (fun vs H Q E h=>?_) (fun f cdv A outer s H vs Q E hr h=>?_)
 ·obtain ⟨a,ns,k,rfl,_⟩:=h
  rfl
 ·obtain ⟨a,ns,k,rfl,hS,h0,q⟩:=h
  refine ⟨_,(Jb (JQ (Jo Jap (pv 1) (Jz (JJ (K:=K) rfl) rfl tx.J0B PySem.boot_len (J0 (pv 0) J7)) (Ju _)) (Jc (Jx (JL (Jp (K:=K) rfl) (pv 0) (pv 1) (fun _ _=>rfl)))) JE)
   (Jc (Jx J1))),?_⟩
  walk_at "st"
  refine ⟨_,rfl,_,rfl,a,_,rfl,.inl hS,_,_,rfl,rfl,_,rfl,?_⟩
  refine ite2 (fun c=>?_) (fun c=>?_)
  ·have c' : k < ((ns.map V.int).length : Int):=of_decide_eq_true c
   rw [List.length_map] at c'
   obtain ⟨v,hv,_⟩:=J41 (ns.map V.int) k h0 (by rw [List.length_map]; exact c')
   have hv' : ∃ z,v = .int z:=by
    obtain ⟨_,hm⟩:=J41 (ns.map V.int) k h0 (by rw [List.length_map]; exact c')
    rw [hv] at hm
    obtain ⟨e1,e2⟩:=hm
    cases e1
    rw [List.getElem?_map] at e2
    cases h : ns[k.toNat]? with
    | none=>rw [h] at e2; cases e2
    | some z=>rw [h] at e2; exact ⟨z,(Option.some.inj e2).symm⟩
   obtain ⟨z,rfl⟩:=hv'
   exact ⟨_,rfl,_,rfl,a,_,_,_,rfl,rfl,hS,hv,q z⟩
  ·exact q 0
theorem J7z (tx : Tx K mg J6 Jd J5 Jf J2 Jm J3 J4 Jh Jj Jk Ja J9 Jg) : FnG P w K mg base "_law_mixed" 1 ["_law_cell","_law_k"] Jc1:=by
 refine tx.J7d.g J2I (fun _ _ _ _ _ _ us hl=>match us,hl with | [_,_],_=>rfl) (fun vs H Q E h=>?_) (fun f cdv A outer s H vs Q E hr h=>?_)
 ·obtain ⟨c,k,rfl,_⟩:=h
  rfl
 ·obtain ⟨c,k,rfl,k0,k1,q⟩:=h
  refine ⟨_,(Jb (Jn (i:=2) J2I.nd rfl (Or.inl rfl) (Je JN (Je J6Z (Je JU (Je JU (Je JN (pv 0) J1) (Je J6Z J1 (pv 1))) J1) J1) J1))
   (Jb (Jn (i:=2) J2I.nd rfl (Or.inl rfl) (Je JN (Je J6Z (pv 2) (Je JU (Je JM (pv 2) J1) J1)) J1))
   (Jc (Jx (Je JN (Je J6Z (pv 2) (Je JU (Je JM (pv 2) J1) J1)) J1))))),?_⟩
  walk_at "st"
  walk_at "rd"
  exact q _
theorem J7f (tx : Tx K mg J6 Jd J5 Jf J2 Jm J3 J4 Jh Jj Jk Ja J9 Jg) : FnG P w K mg base "_law_plain" 1 ["_law_cell"] (J8i 30):=by
 refine tx.J7x.g J0S (fun _ _ _ _ _ _ us hl=>match us,hl with | [_],_=>rfl) (fun vs H Q E h=>?_) (fun f cdv A outer s H vs Q E hr h=>?_)
 ·obtain ⟨c,rfl,_⟩:=h
  rfl
 ·obtain ⟨c,rfl,q⟩:=h
  refine ⟨_,(Jb (Jn (i:=1) J0S.nd rfl (Or.inl rfl) (Jl (l:=[65,66,67,68,69,70,71,72,73,74,75,76,77,78,79,80,81,82,83,84,85,86,87,88,89,90]) (by decide +kernel)))
   (Jb (Jn (i:=2) J0S.nd rfl (Or.inl rfl) (JL J8v (pv 1) (Je JN (Je JM (pv 0) J1) J1) (fun _ _=>rfl)))
   (Jb (JQ (Jo J02 (Je JN (pv 0) J1) J1 (Ju _)) (Jc (Jx (Je Js (Jl (l:=[110,101,118,101,114,32]) (by decide +kernel)) (JL (Jp (K:=K) rfl) (JV (J0 (pv 2) (J0 (Je Js (pv 2) (pv 2)) (J0 (Je Js (Je Js (Jl (l:=[45]) (by decide +kernel)) (pv 2)) (Jl (l:=[63]) (by decide +kernel))) (J0 (Je Js (Je Js (Jl (l:=[35]) (by decide +kernel)) (pv 2)) (Jl (l:=[45,45,45,45,45]) (by decide +kernel))) J7))))) (Je JN (Je JM (pv 0) J1) J1) (fun _ _=>rfl))))) JE)
   (Jb (Jn (i:=3) J0S.nd rfl (Or.inl rfl) (JL (Jp (K:=K) rfl) (JV (J0 (pv 2) (J0 (Jl (l:=[45]) (by decide +kernel)) (J0 (Je Js (Jl (l:=[35]) (by decide +kernel)) (pv 2)) (J0 (Je Js (pv 2) (Jl (l:=[45,35]) (by decide +kernel))) J7))))) (Je JN (Je JM (pv 0) J1) J1) (fun _ _=>rfl)))
   (Jb (Jn (i:=4) J0S.nd rfl (Or.inl rfl) (JL (Jp (K:=K) rfl) (JV (J0 (Jl (l:=[109,111,115,116]) (by decide +kernel)) (J0 (Jl (l:=[108,101,97,115,116]) (by decide +kernel)) J7))) (Je JaP (Je JN (pv 0) J1) J1) (fun _ _=>rfl)))
   (Jb (Jn (i:=5) J0S.nd rfl (Or.inl rfl) (Je Js (Je Js (J1p J3u rfl tx.J5l J4h (J0 (Je JN (Je JM (pv 0) J1) J1) J7)) (Jl (l:=[32,111,102,32]) (by decide +kernel))) (pv 3)))
   (Jc (Jx (Je Js (Je Js (Je Js (Je Js (pv 4) (Jl (l:=[32]) (by decide +kernel))) (pv 5)) (Jl (l:=[32,105,110,32]) (by decide +kernel))) (J1p J3u rfl tx.J5l J4h (J0 (Je JU J1 (Je JN (Je JM (pv 0) J1) J1)) J7))))))))))),?_⟩
  walk_at "st"
  have a0 : 0 ≤ c / 3 % 26:=Int.emod_nonneg _ (by decide)
  have a1 : c / 3 % 26 < 26:=Int.emod_lt_of_pos _ (by decide)
  have b0 : 0 ≤ c / 78 % 4:=Int.emod_nonneg _ (by decide)
  have b1 : c / 78 % 4 < 4:=Int.emod_lt_of_pos _ (by decide)
  obtain ⟨x,ex⟩:=at_c [65,66,67,68,69,70,71,72,73,74,75,76,77,78,79,80,81,82,83,84,85,86,87,88,89,90] (c / 3 % 26) a0 (by simpa using a1)
  obtain ⟨t1,m1,e1⟩:=at_T [[x],[x] ++ [x],[45] ++ [x] ++ [63],[35] ++ [x] ++ [45,45,45,45,45]] (c / 78 % 4) b0 (by simpa using b1)
  have e1' : atI [T [x],T ([x] ++ [x]),T ([45] ++ [x] ++ [63]),T ([35] ++ [x] ++ [45,45,45,45,45])] (c / 78 % 4) = some (T t1):=e1
  have l1 : t1.length ≤ 7:=by
   simp only [List.mem_cons,List.not_mem_nil,or_false] at m1
   rcases m1 with rfl | rfl | rfl | rfl <;> (show _ ≤ _; simp)
  obtain ⟨t2,m2,e2⟩:=at_T [[x],[45],[35] ++ [x],[x] ++ [45,35]] (c / 78 % 4) b0 (by simpa using b1)
  have e2' : atI [T [x],T [45],T ([35] ++ [x]),T ([x] ++ [45,35])] (c / 78 % 4) = some (T t2):=e2
  have l2 : t2.length ≤ 3:=by
   simp only [List.mem_cons,List.not_mem_nil,or_false] at m2
   rcases m2 with rfl | rfl | rfl | rfl <;> (show _ ≤ _; simp)
  clear e1 e2 m1 m2 a0 a1
  walk_at "rd"
  refine ite2 (fun c1=>?_) (fun c1=>?_)
  ·walk_at "rd"
   intro p hp
   obtain ⟨H2,eH,hp2,s2⟩:=nwl (xs:=[T [x],T ([x] ++ [x]),T ([45] ++ [x] ++ [63]),T ([35] ++ [x] ++ [45,45,45,45,45])]) hp
   rw [← eH]
   clear eH
   walk_at "rd"
   exact q _ H2 (by rw [List.length_append]; show 6 + _ ≤ _; omega) s2
  have c2 : ¬ c % 3 = 0:=fun z=>c1 (decide_eq_true (show V.int (c % 3) = V.int 0 by rw [z]))
  clear c1
  obtain ⟨t3,m3,e3⟩:=at_T [JY,JO] (c % 3 - 1) (by omega) (by show _ < (2 : Int); omega)
  have e3' : atI [T JY,T JO] (c % 3 - 1) = some (T t3):=e3
  have l3 : t3.length ≤ 5:=by
   simp only [List.mem_cons,List.not_mem_nil,or_false] at m3
   rcases m3 with rfl | rfl <;> (show _ ≤ _; simp)
  obtain ⟨n1,hn1⟩ : ∃ n : Nat,c / 312 % 8 = (n : Int):=⟨(c / 312 % 8).toNat,by omega⟩
  obtain ⟨n2,hn2⟩ : ∃ n : Nat,1 + c / 2496 % 7 = (n : Int):=⟨(1 + c / 2496 % 7).toNat,by omega⟩
  have k1 : n1 ≤ 9:=by omega
  have k2 : n2 ≤ 9:=by omega
  clear e3 m3 e1' l1
  walk_at "rd"
  intro p hp
  obtain ⟨H2,eH,hp2,s2⟩:=nwl (xs:=[T [x],T [45],T ([35] ++ [x]),T ([x] ++ [45,35])]) hp
  rw [← eH]
  clear eH
  walk_at "rd"
  intro p3 hp3
  obtain ⟨H3,eH,hp4,s3⟩:=nwl (xs:=[T [109,111,115,116],T [108,101,97,115,116]]) hp3
  rw [← eH]
  clear eH
  walk_at "rd"
  refine ⟨by show [V.int (c / 312 % 8)] = [V.int (n1 : Int)]; rw [hn1],k1,?_⟩
  walk_at "rd"
  refine ⟨by show [V.int (1 + c / 2496 % 7)] = [V.int (n2 : Int)]; rw [hn2],k2,?_⟩
  walk_at "rd"
  refine q _ H3 ?_ (s2.trans s3)
  simp only [List.length_append,List.length_cons,List.length_nil]
  omega
theorem J89 (tx : Tx K mg J6 Jd J5 Jf J2 Jm J3 J4 Jh Jj Jk Ja J9 Jg) : FnG P w K mg base "_law_good" 2 ["_law_cells"] (Jb5 K):=by
 have J31:=J7f (P:=P) (w:=w) (base:=base) tx
 refine tx.J87.g J0c (fun _ _ _ _ _ _ us hl=>match us,hl with | [_],_=>rfl) (fun vs H Q E h=>?_) (fun f cdv A outer s H vs Q E hr h=>?_)
 ·obtain ⟨cs,ns,rfl,_⟩:=h
  rfl
 ·obtain ⟨cs,ns,rfl,hS,hl0,hl,q⟩:=h
  refine ⟨_,(Jb (Jn (i:=1) J0c.nd rfl (Or.inl rfl) (JH J31 (hr.mono (by decide)) (J0 (JL (Jp (K:=K) rfl) (pv 0) J1 (fun _ _=>rfl)) J7)))
   (Jb (J4q PassesOwn.never rfl (J5E (K:=K) rfl (Jy (JF (K:=K) rfl) (pv 0) (JB J1) JD)) (J1E (i:=2) J0c.nd rfl (Or.inl rfl)) (Jb (Jn (i:=3) J0c.nd rfl (Or.inl rfl) (Je JN (pv 2) J1))
   (Jc (JQ (Jo J02 (pv 3) J1 (Ju _)) (Jc (Jn (i:=1) J0c.nd rfl (Or.inl rfl) (Je Js (Jl (l:=[110,111,116,32]) (by decide +kernel)) (pv 1)))) (Jc (JQ (Jo J02 (pv 3) J1 (Ju _)) (Jc (Jn (i:=1) J0c.nd rfl (Or.inl rfl) (Je Js (Je Js (Jl (l:=[40,32]) (by decide +kernel)) (pv 1)) (Jl (l:=[32,41]) (by decide +kernel))))) (Jc (JQ (Jo J02 (pv 3) J1 (Ju _)) (Jc (Jn (i:=1) J0c.nd rfl (Or.inl rfl) (Je Js (Je Js (pv 1) (Jl (l:=[32,97,110,100,32]) (by decide +kernel))) (JH J31 (hr.mono (by decide)) (J0 (Je JM (pv 2) J1) J7))))) (Jc (JQ (Jo J02 (pv 3) J1 (Ju _)) (Jc (Jn (i:=1) J0c.nd rfl (Or.inl rfl) (Je Js (Je Js (JH J31 (hr.mono (by decide)) (J0 (Je JM (pv 2) J1) J7)) (Jl (l:=[32,111,114,32]) (by decide +kernel))) (pv 1)))) (Jc (JQ (Jo J02 (pv 3) J1 (Ju _)) (Jc (Jn (i:=1) J0c.nd rfl (Or.inl rfl) (Je Js (Je Js (Jl (l:=[110,111,116,32,40,32]) (by decide +kernel)) (pv 1)) (Jl (l:=[32,41]) (by decide +kernel))))) JE))))))))))))
   (Jc (Jx (pv 1))))),?_⟩
  walk_at "st"
  obtain ⟨n0,e0,_⟩:=JcR ns 0 (by decide) (by omega)
  walk_at "rd"
  intro t0 H0 l0 s0
  have hS0:=s0.seq hS
  walk_at "rd"
  intro p1 hp1
  obtain ⟨H1,e1,hp1',s1⟩:=nwl (xs:=cutV (ns.map V.int) (some 1) none) hp1
  rw [← e1]
  clear e1
  have q1 : SqL K H1 p1 ((ns.drop 1).map V.int):=by
   have e:=J1Y ns 1 (by decide)
   rw [J7I,e] at hp1'
   exact SqL.of hp1'
  clear hp1' hp1
  walk_at "rd"
  refine J5F (K:=K) (xs:=(ns.drop 1).map V.int) (fun i σ H2=>Here (∃ t v1 v2,σ = [some (.ref cs),some (T t),v1,v2] ∧ t.length ≤ 30 + 40 * i ∧ Same H1 H2))
   (Here.mk ⟨t0,none,none,rfl,by omega,Same.refl _⟩) (fun i σ H2 _ hv=>by obtain ⟨_,_,_,_,_,s⟩:=hv.out; exact s.seq q1) ?_ ?_
  ·rintro i x σ H2 hx hv
   obtain ⟨t,v1,v2,rfl,tl,s2⟩:=hv.out
   have hi : i < (ns.drop 1).length:=by have:=(List.getElem?_eq_some_iff.mp hx).1; rwa [List.length_map] at this
   rw [List.length_drop] at hi
   obtain ⟨n,rfl⟩ : ∃ n,x = .int n:=by
    obtain ⟨n,_,e⟩:=List.mem_map.mp (List.mem_of_getElem? hx)
    exact ⟨n,e.symm⟩
   have tl2 : t.length ≤ 400:=by omega
   clear hv hx
   walk_at "rd"
   refine ite2 (fun c1=>?_) (fun c1=>?_)
   ·walk_at "rd"
    refine Here.mk ⟨_,_,_,rfl,?_,s2⟩
    simp only [List.length_append,List.length_cons,List.length_nil]
    omega
   walk_at "rd"
   refine ite2 (fun c2=>?_) (fun c2=>?_)
   ·walk_at "rd"
    refine Here.mk ⟨_,_,_,rfl,?_,s2⟩
    simp only [List.length_append,List.length_cons,List.length_nil]
    omega
   walk_at "rd"
   refine ite2 (fun c3=>?_) (fun c3=>?_)
   ·walk_at "rd"
    intro t3 H3 l3 s3
    walk_at "rd"
    refine Here.mk ⟨_,_,_,rfl,?_,s2.trans s3⟩
    simp only [List.length_append,List.length_cons,List.length_nil]
    omega
   walk_at "rd"
   refine ite2 (fun c4=>?_) (fun c4=>?_)
   ·walk_at "rd"
    intro t3 H3 l3 s3
    walk_at "rd"
    refine Here.mk ⟨_,_,_,rfl,?_,s2.trans s3⟩
    simp only [List.length_append,List.length_cons,List.length_nil]
    omega
   walk_at "rd"
   refine ite2 (fun c5=>?_) (fun c5=>?_)
   ·walk_at "rd"
    refine Here.mk ⟨_,_,_,rfl,?_,s2⟩
    simp only [List.length_append,List.length_cons,List.length_nil]
    omega
   ·exact Here.mk ⟨_,_,_,rfl,by omega,s2⟩
  ·rintro σ H2 hv
   obtain ⟨t,v1,v2,rfl,tl,s2⟩:=hv.out
   rw [List.length_map,List.length_drop] at tl
   walk_at "rd"
   exact q t H2 (by omega) (s0.trans (s1.trans s2))
end
section
variable {P : Program} {w : World} {K : PySem.W.Frag} {mg : Str → Option Value} {base : Heap} {J6 Jd J5 Jf J2 Jm J3 J4 Jh Jj Jk Ja J9 Jg : Addr}
noncomputable def lwA : List Wd:=[[110,101,118,101,114],[109,111,115,116],[108,101,97,115,116],[111,102],[105,110],[97,110,100],[111,114],[110,111,116],[40],[41],[78,78],[65],[45],[35],[63],[48]]
noncomputable def lwB : List Wd:=[[51],[55],[56],[49,48],[65,65],[97],[78,101,118,101,114],[79,82],[],[65,66,67,68,69,70,71,72],[65,66,67,68,69,70,71,72,73],[45,45],[40,41],[43,49]]
theorem J8c (tx : Tx K mg J6 Jd J5 Jf J2 Jm J3 J4 Jh Jj Jk Ja J9 Jg) : FnG P w K mg base "_law_word" 1 ["_law_cell"] (J8i 10):=by
 refine tx.J8j.g J2Y (fun _ _ _ _ _ _ us hl=>match us,hl with | [_],_=>rfl) (fun vs H Q E h=>?_) (fun f cdv A outer s H vs Q E hr h=>?_)
 ·obtain ⟨c,rfl,_⟩:=h
  rfl
 ·obtain ⟨c,rfl,q⟩:=h
  refine ⟨_,(@Jb _ _ _ _ _ (@Jn _ 1 _ _ _ _ _ J2Y.nd rfl (Or.inl rfl) (@JV _ _ _ _ (@J3Y _ _ [[110,101,118,101,114],[109,111,115,116],[108,101,97,115,116],[111,102],[105,110],[97,110,100],[111,114],[110,111,116],[40],[41],[78,78],[65],[45],[35],[63],[48]] (by decide +kernel))) rfl (Or.inl rfl))
   (Jb (Jn (i:=1) J2Y.nd rfl (Or.inl rfl) (Je J2l (pv 1) (@JV _ _ _ _ (@J3Y _ _ [[51],[55],[56],[49,48],[65,65],[97],[78,101,118,101,114],[79,82],[],[65,66,67,68,69,70,71,72],[65,66,67,68,69,70,71,72,73],[45,45],[40,41],[43,49]] (by decide +kernel)))))
   (Jc (Jx (JL (Jp (K:=K) rfl) (pv 1) (Je JN (pv 0) J1) (fun _ _=>rfl)))))),?_⟩
  walk_at "st"
  walk_at "rd"
  intro p hp
  obtain ⟨H1,e1,hp1,s1⟩:=nwl (xs:=List.map T lwA) hp
  rw [show (List.map T [[110,101,118,101,114],[109,111,115,116],[108,101,97,115,116],[111,102],[105,110],[97,110,100],[111,114],[110,111,116],[40],[41],[78,78],[65],[45],[35],[63],[48]]) = List.map T lwA from rfl,← e1]
  clear e1
  walk_at "rd"
  intro p2 hp2
  obtain ⟨H2,e2,hp3,s2⟩:=nwl (xs:=List.map T lwB) hp2
  rw [show (List.map T [[51],[55],[56],[49,48],[65,65],[97],[78,101,118,101,114],[79,82],[],[65,66,67,68,69,70,71,72],[65,66,67,68,69,70,71,72,73],[45,45],[40,41],[43,49]]) = List.map T lwB from rfl,← e2]
  clear e2
  have hp4:=s2 _ _ hp1
  walk_at "rd"
  refine ⟨by show 30 ≤ sizeLine; decide,?_⟩
  intro p5 hp5
  obtain ⟨H3,e3,hp6,s3⟩:=nwl (xs:=List.map T lwA ++ List.map T lwB) hp5
  rw [← e3]
  clear e3
  have k0 : 0 ≤ c % 30:=Int.emod_nonneg _ (by decide)
  have k1 : c % 30 < 30:=Int.emod_lt_of_pos _ (by decide)
  obtain ⟨t,mt,et⟩:=at_T (lwA ++ lwB) (c % 30) k0 k1
  rw [List.map_append] at et
  have q6 : SqL K H3 p5 (List.map T lwA ++ List.map T lwB):=SqL.of hp6
  walk_at "rd"
  refine q t H3 ?_ (s1.trans (s2.trans s3))
  have key : ∀ x ∈ lwA ++ lwB,x.length ≤ 10:=by decide
  exact key t mt
end
section
variable {P : Program} {w : World} {K : PySem.W.Frag} {mg : Str → Option Value} {base : Heap} {J6 Jd J5 Jf J2 Jm J3 J4 Jh Jj Jk Ja J9 Jg : Addr}
noncomputable abbrev alph : Wd:=[65,66,67,68,69,70,71,72,73,74,75,76,77,78,79,80,81,82,83,84,85,86,87,88,89,90]
noncomputable def lo0 : List Wd:=[[48],[55],[56],[57],[49,48],[45,49],[],[48,55]]
noncomputable def lo2 : List Wd:=[[48],[49],[55],[56],[48,55],[49,48],[],[52]]
theorem J9d (tx : Tx K mg J6 Jd J5 Jf J2 Jm J3 J4 Jh Jj Jk Ja J9 Jg) : FnG P w K mg base "_law_odd" 1 ["_law_cell"] (J8i 60):=by
 refine tx.J9f.g J0e (fun _ _ _ _ _ _ us hl=>match us,hl with | [_],_=>rfl) (fun vs H Q E h=>?_) (fun f cdv A outer s H vs Q E hr h=>?_)
 ·obtain ⟨c,rfl,_⟩:=h
  rfl
 ·obtain ⟨c,rfl,q⟩:=h
  refine ⟨_,(Jb (Jn (i:=1) J0e.nd rfl (Or.inl rfl) (Jy J2R (Jl (l:=[65,66,67,68,69,70,71,72,73,74,75,76,77,78,79,80,81,82,83,84,85,86,87,88,89,90]) (by decide +kernel)) (JB (Je JN (Je JM (pv 0) J1) J1)) JD))
   (Jb (Jn (i:=2) J0e.nd rfl (Or.inl rfl) (JL J8v (pv 1) J1 (fun _ _=>rfl)))
   (Jb (Jn (i:=3) J0e.nd rfl (Or.inl rfl) (Je JN (Je JM (pv 0) J1) J1))
   (Jb (Jn (i:=4) J0e.nd rfl (Or.inl rfl) (Jl (l:=[50]) (by decide +kernel)))
   (Jb (Jn (i:=5) J0e.nd rfl (Or.inl rfl) (Je Js (pv 2) (Jl (l:=[45]) (by decide +kernel))))
   (Jb (Jn (i:=6) J0e.nd rfl (Or.inl rfl) (Jl (l:=[53]) (by decide +kernel)))
   (Jb (J2T (JQ (Jo J02 (Je JN (pv 0) J1) J1 (Ju _)) (Jc (Jn (i:=4) J0e.nd rfl (Or.inl rfl) (JL (Jp (K:=K) rfl) (@JV _ _ _ _ (@J3Y _ _ [[48],[55],[56],[57],[49,48],[45,49],[],[48,55]] (by decide +kernel))) (pv 3) (fun _ _=>rfl)))) JE))
   (Jb (J2T (JQ (Jo J02 (Je JN (pv 0) J1) J1 (Ju _)) (Jc (Jn (i:=5) J0e.nd rfl (Or.inl rfl) (JL (Jp (K:=K) rfl) (JV (J0 (Je Js (pv 2) (pv 2)) (J0 (Je Js (Je Js (pv 2) (Jl (l:=[45]) (by decide +kernel))) (pv 2)) (J0 (Jl (l:=[35,63]) (by decide +kernel)) (J0 (Je Js (Jl (l:=[45,35]) (by decide +kernel)) (pv 2)) (J0 (Jy J2R (pv 1) JD (JB J1)) (J0 (Jy J2R (pv 1) JD (JB J1)) (J0 (J8V (K:=K) rfl (pv 2)) (J0 (Jl (l:=[63]) (by decide +kernel)) J7))))))))) (pv 3) (fun _ _=>rfl)))) JE))
   (Jb (J2T (JQ (Jo J02 (Je JN (pv 0) J1) J1 (Ju _)) (Jc (Jn (i:=6) J0e.nd rfl (Or.inl rfl) (JL (Jp (K:=K) rfl) (@JV _ _ _ _ (@J3Y _ _ [[48],[49],[55],[56],[48,55],[49,48],[],[52]] (by decide +kernel))) (pv 3) (fun _ _=>rfl)))) JE))
   (Jb (JQ (Jo J02 (Je JN (pv 0) J1) J1 (Ju _)) (Jc (Jx (Je Js (Jl (l:=[110,101,118,101,114,32]) (by decide +kernel)) (JL (Jp (K:=K) rfl) (JV (J0 (Je J35 (pv 2) J1) (J0 (Je J35 (pv 2) J1) (J0 (Je J35 (Jl (l:=[63]) (by decide +kernel)) J1) (J0 (Je Js (Jl (l:=[45,35]) (by decide +kernel)) (pv 2)) (J0 (J8V (K:=K) rfl (pv 2)) (J0 (Je J35 (Jl (l:=[63]) (by decide +kernel)) J1) (J0 (Jy J2R (pv 1) JD (JB J1)) (J0 (Jl (l:=[]) (by decide +kernel)) J7))))))))) (pv 3) (fun _ _=>rfl))))) JE)
   (Jb (JQ (Jo J02 (Je JN (pv 0) J1) J1 (Ju _)) (Jc (Jx (Je Js (Je Js (Je Js (Je Js (Jl (l:=[109,111,115,116,32,50,32]) (by decide +kernel)) (JL (Jp (K:=K) rfl) (JV (J0 (Jl (l:=[111,102]) (by decide +kernel)) (J0 (Jl (l:=[105,110]) (by decide +kernel)) (J0 (Jl (l:=[111,114]) (by decide +kernel)) (J0 (Jl (l:=[111,102,102]) (by decide +kernel)) J7))))) (Je JN (pv 3) J1) (fun _ _=>rfl))) (Jl (l:=[32,65,32]) (by decide +kernel))) (JL (Jp (K:=K) rfl) (JV (J0 (Jl (l:=[105,110]) (by decide +kernel)) (J0 (Jl (l:=[111,102]) (by decide +kernel)) J7))) (Je JM (pv 3) J1) (fun _ _=>rfl))) (Jl (l:=[32,53]) (by decide +kernel))))) JE)
   (Jc (Jx (Je Js (Je Js (Je Js (Je Js (Je Js (Je Js (JL (Jp (K:=K) rfl) (JV (J0 (Jl (l:=[109,111,115,116]) (by decide +kernel)) (J0 (Jl (l:=[108,101,97,115,116]) (by decide +kernel)) J7))) (Je JN (Je JM (pv 0) J1) J1) (fun _ _=>rfl)) (Jl (l:=[32]) (by decide +kernel))) (pv 4)) (Jl (l:=[32,111,102,32]) (by decide +kernel))) (pv 5)) (Jl (l:=[32,105,110,32]) (by decide +kernel))) (pv 6))))))))))))))),?_⟩
  walk_at "st"
  have j0 : 0 ≤ c / 5 % 18:=Int.emod_nonneg _ (by decide)
  have j1 : c / 5 % 18 < 18:=Int.emod_lt_of_pos _ (by decide)
  have a0 : 0 ≤ c / 90 % 8:=Int.emod_nonneg _ (by decide)
  have a1 : c / 90 % 8 < 8:=Int.emod_lt_of_pos _ (by decide)
  have lr : (cutN alph (some (c / 5 % 18)) none).length ≤ 26 ∧ 9 ≤ (cutN alph (some (c / 5 % 18)) none).length:=by
   rw [J1Y _ _ j0,List.length_drop]
   have : alph.length = 26:=rfl
   omega
  obtain ⟨x,ex⟩:=at_c (cutN alph (some (c / 5 % 18)) none) 0 (by decide) (by omega)
  have lr1 : (cutN [65,66,67,68,69,70,71,72,73,74,75,76,77,78,79,80,81,82,83,84,85,86,87,88,89,90] (some (c / 5 % 18)) none).length ≤ 26:=lr.1
  have ex' : atI (cutN [65,66,67,68,69,70,71,72,73,74,75,76,77,78,79,80,81,82,83,84,85,86,87,88,89,90] (some (c / 5 % 18)) none) 0 = some x:=ex
  walk_at "rd"
  obtain ⟨row,hrow⟩ : ∃ row,row = cutN [65,66,67,68,69,70,71,72,73,74,75,76,77,78,79,80,81,82,83,84,85,86,87,88,89,90] (some (c / 5 % 18)) none:=⟨_,rfl⟩
  have lrow : row.length ≤ 26:=by rw [hrow]; exact lr1
  have lrow9 : 9 ≤ row.length:=by rw [hrow]; exact lr.2
  rw [← hrow]
  clear lr lr1 ex ex' hrow j0 j1
  refine tCut.mk (fun σ' H'=>Here (∃ m : List Nat,σ' = [some (.int c),some (T row),some (T [x]),some (.int (c / 90 % 8)),some (T m),some (T ([x] ++ [45])),some (T [53])] ∧ m.length ≤ 4 ∧ Same H H')) ?_ ?_
  ·obtain ⟨m,mm,em⟩:=at_T lo0 (c / 90 % 8) a0 (by show _ < (8 : Int); omega)
   walk_at "rd"
   refine ite2 (fun _=>?_) (fun _=>?_)
   ·walk_at "rd"
    intro p hp
    obtain ⟨H1,e1,hp1,s1⟩:=nwl (xs:=List.map T lo0) hp
    rw [show (List.map T [[48],[55],[56],[57],[49,48],[45,49],[],[48,55]]) = List.map T lo0 from rfl,← e1]
    clear e1
    walk_at "rd"
    have key : ∀ x ∈ lo0,x.length ≤ 4:=by decide
    exact Here.mk ⟨m,rfl,key m mm,s1⟩
   ·exact Here.mk ⟨[50],rfl,by decide,Same.refl _⟩
  rintro σ' H1 hv
  obtain ⟨m,rfl,lm,s1⟩:=hv.out
  clear hv
  walk_at "rd"
  refine tCut.mk (fun σ' H'=>Here (∃ g : List Nat,σ' = [some (.int c),some (T row),some (T [x]),some (.int (c / 90 % 8)),some (T m),some (T g),some (T [53])] ∧ g.length ≤ 30 ∧ Same H H')) ?_ ?_
  ·walk_at "rd"
   refine ite2 (fun _=>?_) (fun _=>?_)
   ·walk_at "rd"
    intro lw hlw
    obtain ⟨g,mg',eg⟩:=at_T [[x] ++ [x],[x] ++ [45] ++ [x],[35,63],[45,35] ++ [x],cutN row none (some 8),cutN row none (some 9),lw,[63]] (c / 90 % 8) a0 (by show _ < (8 : Int); omega)
    have eg' : atI [T ([x] ++ [x]),T ([x] ++ [45] ++ [x]),T [35,63],T ([45,35] ++ [x]),T (cutN row none (some 8)),T (cutN row none (some 9)),T lw,T [63]] (c / 90 % 8) = some (T g):=eg
    have lg : g.length ≤ 30:=by
     have h8 : (cutN row none (some 8)).length ≤ 26:=by rw [J3B _ _ (by decide),List.length_take]; omega
     have h9 : (cutN row none (some 9)).length ≤ 26:=by rw [J3B _ _ (by decide),List.length_take]; omega
     have hlw' : lw.length ≤ 3:=hlw
     simp only [List.mem_cons,List.not_mem_nil,or_false] at mg'
     rcases mg' with rfl | rfl | rfl | rfl | rfl | rfl | rfl | rfl
     ·show 2 ≤ 30; decide
     ·show 3 ≤ 30; decide
     ·decide
     ·show 3 ≤ 30; decide
     ·omega
     ·omega
     ·omega
     ·decide
    clear eg mg'
    walk_at "rd"
    intro p hp
    obtain ⟨H2,e2,hp2,s2⟩:=nwl (xs:=[T ([x] ++ [x]),T ([x] ++ [45] ++ [x]),T [35,63],T ([45,35] ++ [x]),T (cutN row none (some 8)),T (cutN row none (some 9)),T lw,T [63]]) hp
    rw [← e2]
    clear e2
    walk_at "rd"
    exact Here.mk ⟨g,rfl,lg,s1.trans s2⟩
   ·exact Here.mk ⟨_,rfl,by show 2 ≤ 30; decide,s1⟩
  rintro σ' H2 hv
  obtain ⟨g,rfl,lg,s2⟩:=hv.out
  clear hv s1 H1
  walk_at "rd"
  refine tCut.mk (fun σ' H'=>Here (∃ d : List Nat,σ' = [some (.int c),some (T row),some (T [x]),some (.int (c / 90 % 8)),some (T m),some (T g),some (T d)] ∧ d.length ≤ 4 ∧ Same H H')) ?_ ?_
  ·obtain ⟨d,md,ed⟩:=at_T lo2 (c / 90 % 8) a0 (by show _ < (8 : Int); omega)
   walk_at "rd"
   refine ite2 (fun _=>?_) (fun _=>?_)
   ·walk_at "rd"
    intro p hp
    obtain ⟨H1,e1,hp1,s1⟩:=nwl (xs:=List.map T lo2) hp
    rw [show (List.map T [[48],[49],[55],[56],[48,55],[49,48],[],[52]]) = List.map T lo2 from rfl,← e1]
    clear e1
    walk_at "rd"
    have key : ∀ x ∈ lo2,x.length ≤ 4:=by decide
    exact Here.mk ⟨d,rfl,key d md,s2.trans s1⟩
   ·exact Here.mk ⟨[53],rfl,by decide,s2⟩
  rintro σ' H3 hv
  obtain ⟨d,rfl,ld,s3⟩:=hv.out
  clear hv s2 H2
  walk_at "rd"
  refine ite2 (fun _=>?_) (fun _=>?_)
  ·walk_at "rd"
   intro u1 h1
   walk_at "rd"
   intro u2 h2
   walk_at "rd"
   intro u3 h3
   walk_at "rd"
   intro lw hlw
   walk_at "rd"
   intro u4 h4
   obtain ⟨v,mv,ev⟩:=at_T [u1,u2,u3,[45,35] ++ [x],lw,u4,cutN row none (some 7),[]] (c / 90 % 8) a0 (by show _ < (8 : Int); omega)
   have ev' : atI [T u1,T u2,T u3,T ([45,35] ++ [x]),T lw,T u4,T (cutN row none (some 7)),T []] (c / 90 % 8) = some (T v):=ev
   have lv : v.length ≤ 30:=by
    have h8 : (cutN row none (some 7)).length ≤ 26:=by rw [J3B _ _ (by decide),List.length_take]; omega
    have hlw' : lw.length ≤ 3:=hlw
    have k1 : u1.length ≤ 7:=h1
    have k2 : u2.length ≤ 8:=h2
    have k3 : u3.length ≤ 7:=h3
    have k4 : u4.length ≤ 8:=h4
    simp only [List.mem_cons,List.not_mem_nil,or_false] at mv
    rcases mv with rfl | rfl | rfl | rfl | rfl | rfl | rfl | rfl
    ·omega
    ·omega
    ·omega
    ·show 3 ≤ 30; decide
    ·omega
    ·omega
    ·omega
    ·decide
   clear ev mv
   walk_at "rd"
   intro p hp
   obtain ⟨H1,e1,hp1,s1⟩:=nwl (xs:=[T u1,T u2,T u3,T ([45,35] ++ [x]),T lw,T u4,T (cutN row none (some 7)),T []]) hp
   rw [← e1]
   clear e1
   walk_at "rd"
   exact q _ H1 (by rw [List.length_append]; show 6 + _ ≤ _; omega) (s3.trans s1)
  walk_at "rd"
  refine ite2 (fun _=>?_) (fun _=>?_)
  ·have b0 : 0 ≤ c / 90 % 8 % 4:=Int.emod_nonneg _ (by decide)
   have b1 : c / 90 % 8 % 4 < 4:=Int.emod_lt_of_pos _ (by decide)
   obtain ⟨v,mv,ev⟩:=at_T [[111,102],[105,110],[111,114],[111,102,102]] (c / 90 % 8 % 4) b0 (by show _ < (4 : Int); omega)
   have ev' : atI [T [111,102],T [105,110],T [111,114],T [111,102,102]] (c / 90 % 8 % 4) = some (T v):=ev
   obtain ⟨v2,mv2,ev2⟩:=at_T [[105,110],[111,102]] (c / 90 % 8 / 4) (by omega) (by show _ < (2 : Int); omega)
   have ev2' : atI [T [105,110],T [111,102]] (c / 90 % 8 / 4) = some (T v2):=ev2
   have lv : v.length ≤ 3:=by
    have key : ∀ x ∈ [[111,102],[105,110],[111,114],[111,102,102]],x.length ≤ 3:=by decide
    exact key v mv
   have lv2 : v2.length ≤ 3:=by
    have key : ∀ x ∈ [[105,110],[111,102]],x.length ≤ 3:=by decide
    exact key v2 mv2
   clear ev ev2 mv mv2
   walk_at "rd"
   intro p hp
   obtain ⟨H1,e1,hp1,s1⟩:=nwl (xs:=[T [111,102],T [105,110],T [111,114],T [111,102,102]]) hp
   rw [← e1]
   clear e1
   walk_at "rd"
   intro p2 hp2
   obtain ⟨H2,e2,hp3,s2⟩:=nwl (xs:=[T [105,110],T [111,102]]) hp2
   rw [← e2]
   clear e2
   walk_at "rd"
   refine q _ H2 ?_ (s3.trans (s1.trans s2))
   simp only [List.length_append,List.length_cons,List.length_nil]
   omega
  have b0 : 0 ≤ c / 720 % 2:=Int.emod_nonneg _ (by decide)
  have b1 : c / 720 % 2 < 2:=Int.emod_lt_of_pos _ (by decide)
  obtain ⟨v,mv,ev⟩:=at_T [JY,JO] (c / 720 % 2) b0 (by show _ < (2 : Int); omega)
  have ev' : atI [T [109,111,115,116],T [108,101,97,115,116]] (c / 720 % 2) = some (T v):=ev
  have lv : v.length ≤ 5:=by
   have key : ∀ x ∈ [JY,JO],x.length ≤ 5:=by decide
   exact key v mv
  clear ev mv
  walk_at "rd"
  intro p hp
  obtain ⟨H1,e1,hp1,s1⟩:=nwl (xs:=[T [109,111,115,116],T [108,101,97,115,116]]) hp
  rw [← e1]
  clear e1
  walk_at "rd"
  refine q _ H1 ?_ (s3.trans s1)
  simp only [List.length_append,List.length_cons,List.length_nil]
  omega
end
noncomputable def Jc0 : Sp:=fun vs H Q _=>∃ (t : List Nat) (c : Int),vs = [T t,.int c] ∧ t.length ≤ 20000 ∧ ∀ (t' : List Nat) H',t'.length ≤ 2 * t.length + 20 → Same H H' → Q (T t') H'
noncomputable def wsum : List Wd → Nat
 | []=>0
 | w :: r=>w.length + 1 + wsum r
theorem J2C : ∀ a b : List Wd,wsum (a ++ b) = wsum a + wsum b
 | [],b=>by rw [wsum,List.nil_append]; omega
 | w :: r,b=>by
  show w.length + 1 + wsum (r ++ b) = w.length + 1 + wsum r + wsum b
  rw [J2C r b]
  omega
theorem J5w : ∀ t : List Nat,wsum (Ji 32 t) = t.length + 1
 | []=>rfl
 | x :: r=>by
  have ih:=J5w r
  by_cases e : x = 32
  ·rw [Ji,if_pos e]
   show 0 + 1 + wsum (Ji 32 r) = r.length + 1 + 1
   omega
  ·rw [Ji,if_neg e]
   obtain ⟨a,b,eq⟩:=J1o 32 r
   rw [eq] at ih ⊢
   show (x :: a).length + 1 + wsum b = r.length + 1 + 1
   have ih' : a.length + 1 + wsum b = r.length + 1:=ih
   simp
   omega
theorem J1W : ∀ ws : List Wd,(J4H [32] ws).length ≤ wsum ws
 | []=>Nat.le_refl _
 | [w]=>by
  show w.length ≤ w.length + 1 + 0
  omega
 | w :: v :: r=>by
  have ih:=J1W (v :: r)
  show (w ++ [32] ++ J4H [32] (v :: r)).length ≤ w.length + 1 + wsum (v :: r)
  rw [List.length_append,List.length_append]
  show w.length + 1 + _ ≤ _
  omega
theorem J2b : ∀ ws : List Wd,(ws.map List.length).sum + ws.length * 1 = wsum ws
 | []=>rfl
 | w :: r=>by
  have ih:=J2b r
  show ((w.length :: r.map List.length).sum) + (r.length + 1) * 1 = w.length + 1 + wsum r
  rw [List.sum_cons]
  omega
theorem J2D (ws : List Wd) (k : Nat) : wsum (ws.take k) + wsum (ws.drop k) = wsum ws:=by rw [← J2C,List.take_append_drop]
theorem J34 {ws : List Wd} {k : Nat} {w : Wd} (h : ws[k]? = some w) : wsum (ws.drop k) = w.length + 1 + wsum (ws.drop (k + 1)):=by
 obtain ⟨hl,e⟩:=List.getElem?_eq_some_iff.mp h
 rw [List.drop_eq_getElem_cons hl,e]
 rfl
theorem J7F : ∀ (ws : List Wd) (k : Nat) (v : Wd),wsum (ws.set k v) ≤ wsum ws + v.length
 | [],k,v=>by simp
 | w :: r,0,v=>by
  show v.length + 1 + wsum r ≤ w.length + 1 + wsum r + v.length
  omega
 | w :: r,k + 1,v=>by
  have:=J7F r k v
  show w.length + 1 + wsum (r.set k v) ≤ w.length + 1 + wsum r + v.length
  omega
theorem J4m : ∀ (ws : List Wd) (k : Nat) (w v : Wd),ws[k]? = some w → wsum (ws.set k v) + w.length = wsum ws + v.length
 | [],k,w,v,h=>by cases h
 | x :: r,0,w,v,h=>by
  obtain rfl : x = w:=Option.some.inj h
  show v.length + 1 + wsum r + x.length = x.length + 1 + wsum r + v.length
  omega
 | x :: r,k + 1,w,v,h=>by
  have:=J4m r k w v h
  show x.length + 1 + wsum (r.set k v) + w.length = x.length + 1 + wsum r + v.length
  omega
theorem Jby {α : Type} (l : List α) (a : Nat) : cutN l (some ((a : Int) + 1)) (some ((a : Int) + 2)) = (l.drop (a + 1)).take 1:=by
 unfold cutN
 have e1 : HT.sIx l.length 0 (some ((a : Int) + 1)) = min (a + 1) l.length:=by
  show (if (a : Int) + 1 < 0 then ((a : Int) + 1 + (l.length : Int)).toNat else min ((a : Int) + 1).toNat l.length) = _
  rw [if_neg (by omega),show ((a : Int) + 1).toNat = a + 1 by omega]
 have e2 : HT.sIx l.length l.length (some ((a : Int) + 2)) = min (a + 2) l.length:=by
  show (if (a : Int) + 2 < 0 then ((a : Int) + 2 + (l.length : Int)).toNat else min ((a : Int) + 2).toNat l.length) = _
  rw [if_neg (by omega),show ((a : Int) + 2).toNat = a + 2 by omega]
 rw [e1,e2]
 by_cases h : a + 1 < l.length
 ·rw [Nat.min_eq_left (by omega),Nat.min_eq_left (by omega),show a + 2 - (a + 1) = 1 by omega]
 ·rw [Nat.min_eq_right (show l.length ≤ a + 2 by omega),Nat.min_eq_right (show l.length ≤ a + 1 by omega),List.drop_eq_nil_of_le (Nat.le_refl _),List.drop_eq_nil_of_le (by omega),List.take_nil,List.take_nil]
section
variable {P : Program} {w : World} {K : PySem.W.Frag} {mg : Str → Option Value} {base : Heap} {J6 Jd J5 Jf J2 Jm J3 J4 Jh Jj Jk Ja J9 Jg : Addr}
theorem J5I (tx : Tx K mg J6 Jd J5 Jf J2 Jm J3 J4 Jh Jj Jk Ja J9 Jg) : FnG P w K mg base "_law_changed" 2 ["_law_text","_law_cell"] Jc0:=by
 have J5e:=J8c (P:=P) (w:=w) (base:=base) tx
 refine tx.J5H.g JP (fun _ _ _ _ _ _ us hl=>match us,hl with | [_,_],_=>rfl) (fun vs H Q E h=>?_) (fun f cdv A outer s H vs Q E hr h=>?_)
 ·obtain ⟨t,c,rfl,_⟩:=h
  rfl
 ·obtain ⟨t,c,rfl,lt,q⟩:=h
  refine ⟨_,(Jb (Jn (i:=2) JP.nd rfl (Or.inl rfl) (J3m (K:=K) rfl (pv 0) (J0 (Jl (l:=[32]) (by decide +kernel)) J7)))
   (Jb (Jn (i:=3) JP.nd rfl (Or.inl rfl) (Je JN (Je JM (pv 1) J1) (Jz (JJ (K:=K) rfl) rfl tx.J0B PySem.boot_len (J0 (pv 2) J7))))
   (Jb (Jn (i:=4) JP.nd rfl (Or.inl rfl) (Je JN (pv 1) J1))
   (Jb (JQ (Jo J02 (pv 4) J1 (Ju _)) (Jc (Jn (i:=2) JP.nd rfl (Or.inl rfl) (Je J2l (Jy (JF (K:=K) rfl) (pv 2) JD (JB (pv 3))) (Jy (JF (K:=K) rfl) (pv 2) (JB (Je JU (pv 3) J1)) JD)))) (Jc (JQ (Jo J02 (pv 4) J1 (Ju _)) (Jc (Jn (i:=2) JP.nd rfl (Or.inl rfl) (Je J2l (Je J2l (Jy (JF (K:=K) rfl) (pv 2) JD (JB (pv 3))) (JV (J0 (JL (Jp (K:=K) rfl) (pv 2) (pv 3) (fun _ _=>rfl)) J7))) (Jy (JF (K:=K) rfl) (pv 2) (JB (pv 3)) JD)))) (Jc (JQ (Jo J02 (pv 4) J1 (Ju _)) (Jb (Jn (i:=5) JP.nd rfl (Or.inl rfl) (Jy (JF (K:=K) rfl) (pv 2) (JB (Je JU (pv 3) J1)) (JB (Je JU (pv 3) J1))))
   (Jc (Jn (i:=2) JP.nd rfl (Or.inl rfl) (Je J2l (Je J2l (Je J2l (Jy (JF (K:=K) rfl) (pv 2) JD (JB (pv 3))) (pv 5)) (JV (J0 (JL (Jp (K:=K) rfl) (pv 2) (pv 3) (fun _ _=>rfl)) J7))) (Jy (JF (K:=K) rfl) (pv 2) (JB (Je JU (pv 3) J1)) JD))))) (Jc (JQ (Jo J02 (pv 4) J1 (Ju _)) (Jb (Jn (i:=6) JP.nd rfl (Or.inl rfl) (JH J5e (hr.mono (by decide)) (J0 (Je JM (Je JM (pv 1) J1) (Jz (JJ (K:=K) rfl) rfl tx.J0B PySem.boot_len (J0 (pv 2) J7))) J7)))
   (Jc (Jn (i:=2) JP.nd rfl (Or.inl rfl) (Je J2l (Je J2l (Jy (JF (K:=K) rfl) (pv 2) JD (JB (pv 3))) (JV (J0 (pv 6) J7))) (Jy (JF (K:=K) rfl) (pv 2) (JB (pv 3)) JD))))) (Jc (JQ (Jo J02 (pv 4) J1 (Ju _)) (Jc (J8A (JH J5e (hr.mono (by decide)) (J0 (Je JM (Je JM (pv 1) J1) (Jz (JJ (K:=K) rfl) rfl tx.J0B PySem.boot_len (J0 (pv 2) J7))) J7)) (J8y (pv 2) (pv 3) J5s))) (Jc (JQ (Jo J02 (pv 4) J1 (Ju _)) (Jc (J8A (Je Js (JL (Jp (K:=K) rfl) (pv 2) (pv 3) (fun _ _=>rfl)) (JL J8v (Jl (l:=[65,90,45,35,63,48,55,32,56,120,110,46]) (by decide +kernel)) (Je JN (Je JM (Je JM (pv 1) J1) (Jz (JJ (K:=K) rfl) rfl tx.J0B PySem.boot_len (J0 (pv 2) J7))) J1) (fun _ _=>rfl))) (J8y (pv 2) (pv 3) J5s))) (Jc (JQ (Jo J02 (pv 4) J1 (Ju _)) (Jc (J8A (Jy J2R (JL (Jp (K:=K) rfl) (pv 2) (pv 3) (fun _ _=>rfl)) (JB J1) JD) (J8y (pv 2) (pv 3) J5s))) (Jb (Jn (i:=7) JP.nd rfl (Or.inl rfl) (Je JN (Je JM (pv 1) J1) (Je JU (Jz J2h rfl tx.J0B PySem.boot_len (J0 (pv 0) J7)) J1)))
   (Jb (JQ (Jo J02 (Je JN (Je JM (pv 1) J1) J1) J1 (Ju _)) (Jc (Jx (Je Js (Je Js (Jy J2R (pv 0) JD (JB (pv 7))) (Jl (l:=[32]) (by decide +kernel))) (Jy J2R (pv 0) (JB (pv 7)) JD)))) JE)
   (Jc (Jx (Je Js (Jy J2R (pv 0) JD (JB (pv 7))) (Jy J2R (pv 0) (JB (Je JU (pv 7) J1)) JD)))))))))))))))))))
   (Jc (Jx (J7R (K:=K) rfl (Jl (l:=[32]) (by decide +kernel)) (J0 (pv 2) J7)))))))),?_⟩
  walk_at "st"
  have lt2 : t.length ≤ 100000:=by omega
  walk_at "rd"
  intro p hp
  obtain ⟨H1,e1,hp1,s1⟩:=nwl (xs:=(Ji 32 t).map T) hp
  rw [← e1]
  clear e1
  have q1 : SqL K H1 p ((Ji 32 t).map T):=SqL.of hp1
  obtain ⟨ws,hws⟩ : ∃ ws,ws = Ji 32 t:=⟨_,rfl⟩
  rw [← hws] at q1 hp1
  have hn0 : 0 < ws.length:=by
   obtain ⟨a,b,e⟩:=J1o 32 t
   rw [hws,e]
   simp
  have hpos : (0 : Int) < ((List.map T ws).length : Int):=by rw [List.length_map]; omega
  obtain ⟨a,ha⟩ : ∃ a : Nat,c / 8 % ((List.map T ws).length : Int) = (a : Int):=⟨(c / 8 % ((List.map T ws).length : Int)).toNat,by have:=Int.emod_nonneg (c / 8) (Int.ne_of_gt hpos); omega⟩
  have ha1 : a < ws.length:=by
   have:=Int.emod_lt_of_pos (c / 8) hpos
   rw [ha,List.length_map] at this
   omega
  have hL : wsum ws = t.length + 1:=by rw [hws]; exact J5w t
  have c1 : cutV (ws.map T) none (some (a : Int)) = (ws.take a).map T:=by rw [J14,J3B _ _ (by omega),Int.toNat_natCast]
  have c2 : cutV (ws.map T) (some ((a : Int) + 1)) none = (ws.drop (a + 1)).map T:=by rw [J14,J1Y _ _ (by omega),show ((a : Int) + 1).toNat = a + 1 by omega]
  have c3 : cutV (ws.map T) (some (a : Int)) none = (ws.drop a).map T:=by rw [J14,J1Y _ _ (by omega),Int.toNat_natCast]
  have c4 : cutV (ws.map T) (some ((a : Int) + 1)) (some ((a : Int) + 2)) = ((ws.drop (a + 1)).take 1).map T:=by rw [J14,Jby ws a]
  have c5 : cutV (ws.map T) (some ((a : Int) + 2)) none = (ws.drop (a + 2)).map T:=by rw [J14,J1Y _ _ (by omega),show ((a : Int) + 2).toNat = a + 2 by omega]
  have hga : ws[a]? = some ws[a]:=List.getElem?_eq_getElem ha1
  obtain ⟨wa,hwa⟩ : ∃ wa,wa = ws[a]:=⟨_,rfl⟩
  rw [← hwa] at hga
  clear hwa
  have ea : atI (ws.map T) (a : Int) = some (T wa):=J3W (by rw [List.getElem?_map,hga]; rfl)
  have hix : ixN (List.map T ws).length (a : Int) = some a:=by
   unfold ixN
   rw [List.length_map]
   simp
   omega
  have lwa : wa.length ≤ 20000:=by have:=J2D ws a; have:=J34 hga; omega
  have lws : ws.length ≤ 20001:=by have:=J2b ws; omega
  walk_at "rd"
  rw [ha]
  refine ite2 (fun _=>?_) (fun _=>?_)
  ·skip
   walk_at "rd"
   intro P2 hP2
   rw [c1]
   obtain ⟨H2,e2,hq2,s2⟩:=nwl (xs:=(ws.take a).map T) hP2
   rw [← e2]
   clear e2 hP2
   have q1:=s2.seq q1
   walk_at "rd"
   intro P3 hP3
   rw [c2]
   obtain ⟨H3,e3,hq3,s3⟩:=nwl (xs:=(ws.drop (a + 1)).map T) hP3
   rw [← e3]
   clear e3 hP3
   have q1:=s3.seq q1
   have hq2:=s3 _ _ hq2
   walk_at "rd"
   intro P4 hP4
   obtain ⟨H4,e4,hq4,s4⟩:=nwl (xs:=(ws.take a).map T ++ (ws.drop (a + 1)).map T) hP4
   rw [← e4]
   clear e4 hP4
   have q1:=s4.seq q1
   have hq2:=s4 _ _ hq2
   have hq3:=s4 _ _ hq3
   walk_at "rd"
   have qW : SqL K H4 P4 ((ws.take a ++ ws.drop (a + 1)).map T):=by
    simp only [List.map_append,List.map_cons,List.map_nil]
    exact SqL.of hq4
   have lW : wsum (ws.take a ++ ws.drop (a + 1)) ≤ 2 * (t.length + 1) + 12:=by
    have:=J2D ws a
    have:=J34 hga
    simp only [J2C,wsum]
    omega
   have bW : ((ws.take a ++ ws.drop (a + 1)).map List.length).sum + (ws.take a ++ ws.drop (a + 1)).length * [32].length ≤ 16777216:=by rw [show ([32] : List Nat).length = 1 from rfl,J2b]; omega
   have jW:=J1W (ws.take a ++ ws.drop (a + 1))
   refine ⟨qW,bW,?_⟩
   exact q _ H4 (by omega) (s1.trans (s2.trans (s3.trans s4)))
  walk_at "rd"
  refine ite2 (fun _=>?_) (fun _=>?_)
  ·skip
   walk_at "rd"
   intro P2 hP2
   rw [c1]
   obtain ⟨H2,e2,hq2,s2⟩:=nwl (xs:=(ws.take a).map T) hP2
   rw [← e2]
   clear e2 hP2
   have q1:=s2.seq q1
   walk_at "rd"
   intro P3 hP3
   obtain ⟨H3,e3,hq3,s3⟩:=nwl (xs:=[T wa]) hP3
   rw [← e3]
   clear e3 hP3
   have q1:=s3.seq q1
   have hq2:=s3 _ _ hq2
   walk_at "rd"
   intro P4 hP4
   obtain ⟨H4,e4,hq4,s4⟩:=nwl (xs:=(ws.take a).map T ++ [T wa]) hP4
   rw [← e4]
   clear e4 hP4
   have q1:=s4.seq q1
   have hq2:=s4 _ _ hq2
   have hq3:=s4 _ _ hq3
   walk_at "rd"
   intro P5 hP5
   rw [c3]
   obtain ⟨H5,e5,hq5,s5⟩:=nwl (xs:=(ws.drop a).map T) hP5
   rw [← e5]
   clear e5 hP5
   have q1:=s5.seq q1
   have hq2:=s5 _ _ hq2
   have hq3:=s5 _ _ hq3
   have hq4:=s5 _ _ hq4
   walk_at "rd"
   intro P6 hP6
   obtain ⟨H6,e6,hq6,s6⟩:=nwl (xs:=(ws.take a).map T ++ [T wa] ++ (ws.drop a).map T) hP6
   rw [← e6]
   clear e6 hP6
   have q1:=s6.seq q1
   have hq2:=s6 _ _ hq2
   have hq3:=s6 _ _ hq3
   have hq4:=s6 _ _ hq4
   have hq5:=s6 _ _ hq5
   walk_at "rd"
   have qW : SqL K H6 P6 ((ws.take a ++ [wa] ++ ws.drop a).map T):=by
    simp only [List.map_append,List.map_cons,List.map_nil]
    exact SqL.of hq6
   have lW : wsum (ws.take a ++ [wa] ++ ws.drop a) ≤ 2 * (t.length + 1) + 12:=by
    have:=J2D ws a
    have:=J34 hga
    simp only [J2C,wsum]
    omega
   have bW : ((ws.take a ++ [wa] ++ ws.drop a).map List.length).sum + (ws.take a ++ [wa] ++ ws.drop a).length * [32].length ≤ 16777216:=by rw [show ([32] : List Nat).length = 1 from rfl,J2b]; omega
   have jW:=J1W (ws.take a ++ [wa] ++ ws.drop a)
   refine ⟨qW,bW,?_⟩
   exact q _ H6 (by omega) (s1.trans (s2.trans (s3.trans (s4.trans (s5.trans s6)))))
  walk_at "rd"
  refine ite2 (fun _=>?_) (fun _=>?_)
  ·skip
   walk_at "rd"
   intro P2 hP2
   rw [c4]
   obtain ⟨H2,e2,hq2,s2⟩:=nwl (xs:=((ws.drop (a + 1)).take 1).map T) hP2
   rw [← e2]
   clear e2 hP2
   have q1:=s2.seq q1
   walk_at "rd"
   intro P3 hP3
   rw [c1]
   obtain ⟨H3,e3,hq3,s3⟩:=nwl (xs:=(ws.take a).map T) hP3
   rw [← e3]
   clear e3 hP3
   have q1:=s3.seq q1
   have hq2:=s3 _ _ hq2
   walk_at "rd"
   intro P4 hP4
   obtain ⟨H4,e4,hq4,s4⟩:=nwl (xs:=(ws.take a).map T ++ ((ws.drop (a + 1)).take 1).map T) hP4
   rw [← e4]
   clear e4 hP4
   have q1:=s4.seq q1
   have hq2:=s4 _ _ hq2
   have hq3:=s4 _ _ hq3
   walk_at "rd"
   intro P5 hP5
   obtain ⟨H5,e5,hq5,s5⟩:=nwl (xs:=[T wa]) hP5
   rw [← e5]
   clear e5 hP5
   have q1:=s5.seq q1
   have hq2:=s5 _ _ hq2
   have hq3:=s5 _ _ hq3
   have hq4:=s5 _ _ hq4
   walk_at "rd"
   intro P6 hP6
   obtain ⟨H6,e6,hq6,s6⟩:=nwl (xs:=(ws.take a).map T ++ ((ws.drop (a + 1)).take 1).map T ++ [T wa]) hP6
   rw [← e6]
   clear e6 hP6
   have q1:=s6.seq q1
   have hq2:=s6 _ _ hq2
   have hq3:=s6 _ _ hq3
   have hq4:=s6 _ _ hq4
   have hq5:=s6 _ _ hq5
   walk_at "rd"
   intro P7 hP7
   rw [c5]
   obtain ⟨H7,e7,hq7,s7⟩:=nwl (xs:=(ws.drop (a + 2)).map T) hP7
   rw [← e7]
   clear e7 hP7
   have q1:=s7.seq q1
   have hq2:=s7 _ _ hq2
   have hq3:=s7 _ _ hq3
   have hq4:=s7 _ _ hq4
   have hq5:=s7 _ _ hq5
   have hq6:=s7 _ _ hq6
   walk_at "rd"
   intro P8 hP8
   obtain ⟨H8,e8,hq8,s8⟩:=nwl (xs:=(ws.take a).map T ++ ((ws.drop (a + 1)).take 1).map T ++ [T wa] ++ (ws.drop (a + 2)).map T) hP8
   rw [← e8]
   clear e8 hP8
   have q1:=s8.seq q1
   have hq2:=s8 _ _ hq2
   have hq3:=s8 _ _ hq3
   have hq4:=s8 _ _ hq4
   have hq5:=s8 _ _ hq5
   have hq6:=s8 _ _ hq6
   have hq7:=s8 _ _ hq7
   walk_at "rd"
   have qW : SqL K H8 P8 ((ws.take a ++ (ws.drop (a + 1)).take 1 ++ [wa] ++ ws.drop (a + 2)).map T):=by
    simp only [List.map_append,List.map_cons,List.map_nil]
    exact SqL.of hq8
   have lW : wsum (ws.take a ++ (ws.drop (a + 1)).take 1 ++ [wa] ++ ws.drop (a + 2)) ≤ 2 * (t.length + 1) + 12:=by
    have:=J2D ws a
    have:=J34 hga
    have:=J2D (ws.drop (a + 1)) 1
    rw [List.drop_drop,show a + 1 + 1 = a + 2 by omega] at this
    simp only [J2C,wsum]
    omega
   have bW : ((ws.take a ++ (ws.drop (a + 1)).take 1 ++ [wa] ++ ws.drop (a + 2)).map List.length).sum + (ws.take a ++ (ws.drop (a + 1)).take 1 ++ [wa] ++ ws.drop (a + 2)).length * [32].length ≤ 16777216:=by rw [show ([32] : List Nat).length = 1 from rfl,J2b]; omega
   have jW:=J1W (ws.take a ++ (ws.drop (a + 1)).take 1 ++ [wa] ++ ws.drop (a + 2))
   refine ⟨qW,bW,?_⟩
   exact q _ H8 (by omega) (s1.trans (s2.trans (s3.trans (s4.trans (s5.trans (s6.trans (s7.trans s8)))))))
  walk_at "rd"
  refine ite2 (fun _=>?_) (fun _=>?_)
  ·skip
   walk_at "rd"
   refine ⟨⟨hpos,?_⟩,?_⟩
   ·rw [List.length_map]; omega
   walk_at "rd"
   intro mw Hm lm sm
   have q1:=sm.seq q1
   walk_at "rd"
   intro P2 hP2
   rw [c1]
   obtain ⟨H2,e2,hq2,s2⟩:=nwl (xs:=(ws.take a).map T) hP2
   rw [← e2]
   clear e2 hP2
   have q1:=s2.seq q1
   walk_at "rd"
   intro P3 hP3
   obtain ⟨H3,e3,hq3,s3⟩:=nwl (xs:=[T mw]) hP3
   rw [← e3]
   clear e3 hP3
   have q1:=s3.seq q1
   have hq2:=s3 _ _ hq2
   walk_at "rd"
   intro P4 hP4
   obtain ⟨H4,e4,hq4,s4⟩:=nwl (xs:=(ws.take a).map T ++ [T mw]) hP4
   rw [← e4]
   clear e4 hP4
   have q1:=s4.seq q1
   have hq2:=s4 _ _ hq2
   have hq3:=s4 _ _ hq3
   walk_at "rd"
   intro P5 hP5
   rw [c3]
   obtain ⟨H5,e5,hq5,s5⟩:=nwl (xs:=(ws.drop a).map T) hP5
   rw [← e5]
   clear e5 hP5
   have q1:=s5.seq q1
   have hq2:=s5 _ _ hq2
   have hq3:=s5 _ _ hq3
   have hq4:=s5 _ _ hq4
   walk_at "rd"
   intro P6 hP6
   obtain ⟨H6,e6,hq6,s6⟩:=nwl (xs:=(ws.take a).map T ++ [T mw] ++ (ws.drop a).map T) hP6
   rw [← e6]
   clear e6 hP6
   have q1:=s6.seq q1
   have hq2:=s6 _ _ hq2
   have hq3:=s6 _ _ hq3
   have hq4:=s6 _ _ hq4
   have hq5:=s6 _ _ hq5
   walk_at "rd"
   have qW : SqL K H6 P6 ((ws.take a ++ [mw] ++ ws.drop a).map T):=by
    simp only [List.map_append,List.map_cons,List.map_nil]
    exact SqL.of hq6
   have lW : wsum (ws.take a ++ [mw] ++ ws.drop a) ≤ 2 * (t.length + 1) + 12:=by
    have:=J2D ws a
    have:=J34 hga
    simp only [J2C,wsum]
    omega
   have bW : ((ws.take a ++ [mw] ++ ws.drop a).map List.length).sum + (ws.take a ++ [mw] ++ ws.drop a).length * [32].length ≤ 16777216:=by rw [show ([32] : List Nat).length = 1 from rfl,J2b]; omega
   have jW:=J1W (ws.take a ++ [mw] ++ ws.drop a)
   refine ⟨qW,bW,?_⟩
   exact q _ H6 (by omega) (s1.trans (sm.trans (s2.trans (s3.trans (s4.trans (s5.trans s6))))))
  walk_at "rd"
  refine ite2 (fun _=>?_) (fun _=>?_)
  ·walk_at "rd"
   refine ⟨⟨hpos,?_⟩,?_⟩
   ·rw [List.length_map]; omega
   walk_at "rd"
   intro mw Hm lm sm
   have hpm:=sm _ _ hp1
   walk_at "rd"
   have qW : SqL K (upd Hm p (HO.lst ((List.map T ws).set a (T mw)))) p ((ws.set a mw).map T):=by
    rw [← List.map_set]
    exact SqL.of Jr
   have lW:=J7F ws a mw
   have bW : ((ws.set a mw).map List.length).sum + (ws.set a mw).length * [32].length ≤ 16777216:=by rw [show ([32] : List Nat).length = 1 from rfl,J2b]; omega
   have jW:=J1W (ws.set a mw)
   refine ⟨qW,bW,?_⟩
   exact q _ _ (by omega) ((s1.trans sm).upd hp)
  walk_at "rd"
  refine ite2 (fun _=>?_) (fun _=>?_)
  ·obtain ⟨z,hz⟩:=at_c [65,90,45,35,63,48,55,32,56,120,110,46] (c / 8 / ((List.map T ws).length : Int) % 12) (Int.emod_nonneg _ (by decide)) (Int.emod_lt_of_pos _ (by decide))
   walk_at "rd"
   refine ⟨⟨hpos,?_⟩,?_⟩
   ·rw [List.length_map]; omega
   walk_at "rd"
   have qW : SqL K (upd H1 p (HO.lst ((List.map T ws).set a (T (wa ++ [z]))))) p ((ws.set a (wa ++ [z])).map T):=by
    rw [← List.map_set]
    exact SqL.of Jr
   have lW:=J4m ws a wa (wa ++ [z]) hga
   rw [List.length_append,List.length_singleton] at lW
   have bW : ((ws.set a (wa ++ [z])).map List.length).sum + (ws.set a (wa ++ [z])).length * [32].length ≤ 16777216:=by rw [show ([32] : List Nat).length = 1 from rfl,J2b]; omega
   have jW:=J1W (ws.set a (wa ++ [z]))
   refine ⟨qW,bW,?_⟩
   exact q _ _ (by omega) (s1.upd hp)
  walk_at "rd"
  refine ite2 (fun _=>?_) (fun _=>?_)
  ·walk_at "rd"
   have qW : SqL K (upd H1 p (HO.lst ((List.map T ws).set a (T (cutN wa (some 1) none))))) p ((ws.set a (cutN wa (some 1) none)).map T):=by
    rw [← List.map_set]
    exact SqL.of Jr
   have lc:=J51 wa (some 1) none
   have lW:=J4m ws a wa (cutN wa (some 1) none) hga
   have bW : ((ws.set a (cutN wa (some 1) none)).map List.length).sum + (ws.set a (cutN wa (some 1) none)).length * [32].length ≤ 16777216:=by rw [show ([32] : List Nat).length = 1 from rfl,J2b]; omega
   have jW:=J1W (ws.set a (cutN wa (some 1) none))
   refine ⟨qW,bW,?_⟩
   exact q _ _ (by omega) (s1.upd hp)
  clear c1 c2 c3 c4 c5 ea hga
  have k1:=J51 t none (some (c / 16 % ((t.length : Int) + 1)))
  have k2:=J51 t (some (c / 16 % ((t.length : Int) + 1))) none
  have k3:=J51 t (some (c / 16 % ((t.length : Int) + 1) + 1)) none
  walk_at "rd"
  refine ite2 (fun _=>?_) (fun _=>?_)
  ·walk_at "rd"
   refine q _ H1 ?_ s1
   rw [List.length_append,List.length_append,List.length_singleton]
   omega
  ·walk_at "rd"
   refine q _ H1 ?_ s1
   rw [List.length_append]
   omega
end
noncomputable def sgB (w l : Wd) (n : Int) : Bool:=if w = [] ∨ n < (w.length : Int) then false else w.all fun c=>decide (c ∈ l)
noncomputable def JcX : Sp:=fun vs H Q _=>∃ (w l : Wd) (n : Int),vs = [T w,T l,.int n] ∧ w.length ≤ 100000 ∧ l.length ≤ 100 ∧ ∀ H',Same H H' → Q (.bl (sgB w l n)) H'
noncomputable def JcV (K : PySem.W.Frag) : Sp:=fun vs H Q _=>∃ (D : Addr) (ws : List Wd) (a : Nat),vs = [.ref D,.int a] ∧ SqL K H D (ws.map T) ∧ a < ws.length ∧ ws.length ≤ 1000 ∧ (∀ w ∈ ws,w.length ≤ 100000) ∧ ∀ H',Same H H' → Q (.bl (isPl (ws.drop a))) H'
theorem sg_W (w : Wd) : sgB w sgW 7 = J08 w:=by
 unfold sgB J08
 have e : (w.all fun c=>decide (c ∈ sgW)) = w.all J4E:=by congr 1; funext c; exact J85 c
 rw [e]
 by_cases h1 : w = []
 ·rw [if_pos (.inl h1),h1]
  rfl
 ·have p1 : 1 ≤ w.length:=List.length_pos_iff.mpr h1
  by_cases h2 : (7 : Int) < (w.length : Int)
  ·rw [if_pos (.inr h2),decide_eq_false (show ¬ w.length ≤ 7 by omega),Bool.and_false,Bool.false_and]
  ·rw [if_neg (by rintro (z | z); exact h1 z; exact h2 z),decide_eq_true p1,decide_eq_true (show w.length ≤ 7 by omega)]
   rfl
theorem sg_M (w : Wd) : (sgB w sgM 8 && decide w.Nodup) = J01 w:=by
 unfold sgB J01
 have e : (w.all fun c=>decide (c ∈ sgM)) = w.all J4A:=by congr 1; funext c; exact J7U c
 rw [e]
 by_cases h1 : w = []
 ·rw [if_pos (.inl h1),h1]
  rfl
 ·have p1 : 1 ≤ w.length:=List.length_pos_iff.mpr h1
  by_cases h2 : (8 : Int) < (w.length : Int)
  ·rw [if_pos (.inr h2),decide_eq_false (show ¬ w.length ≤ 8 by omega),Bool.and_false,Bool.false_and,Bool.false_and,Bool.false_and]
  ·rw [if_neg (by rintro (z | z); exact h1 z; exact h2 z),decide_eq_true p1,decide_eq_true (show w.length ≤ 8 by omega)]
   rfl
theorem sg_F (w l : Wd) : sgB w l 1 = figB w l:=by
 unfold sgB figB
 match w with
 | []=>rfl
 | [c]=>simp
 | a :: b :: r =>
  rw [if_pos (.inr (by simp; omega)),decide_eq_false (by simp),Bool.false_and]
theorem J9p : isPl [JR] = false:=rfl
theorem Jay (w : Wd) (r : List Wd) : isPl (JR :: w :: r) = J08 w:=by
 unfold isPl
 have e1 : J00 (List.take 2 (JR :: w :: r)) = if J08 w = true then some (.nev w) else none:=by
  show (if JR = JR ∧ J08 w = true then some (R.nev w) else none) = _
  by_cases h : J08 w = true
  ·rw [if_pos ⟨rfl,h⟩,if_pos h]
  ·rw [if_neg (fun z=>h z.2),if_neg h]
 rw [e1]
 cases h : J08 w with
 | true=>rfl
 | false =>
  rw [if_neg Bool.false_ne_true]
  show (false || (J00 (List.take 6 (JR :: w :: r))).isSome) = false
  rw [Bool.false_or]
  cases h6 : J00 (List.take 6 (JR :: w :: r)) with
  | none=>rfl
  | some x =>
   rcases J0z h6 with ⟨el,_⟩ | ⟨_,e | e⟩
   ·rw [List.length_take] at el
    have hr : r = []:=by
     cases r with
     | nil=>rfl
     | cons _ _=>simp at el; omega
    subst hr
    have e6 : J00 (List.take 6 [JR,w]) = if J08 w = true then some (.nev w) else none:=e1
    rw [h,if_neg Bool.false_ne_true] at e6
    rw [e6] at h6
    cases h6
   ·exact absurd e (by simp)
   ·exact absurd e (by simp)
theorem J8w {f : Wd} {t : List Wd} (hf : f ≠ JR) (hl : t.length < 5) : isPl (f :: t) = false:=by
 cases h : isPl (f :: t) with
 | false=>rfl
 | true =>
  unfold isPl at h
  rcases Bool.or_eq_true_iff.mp h with h | h
  ·obtain ⟨r,hr⟩:=Option.isSome_iff_exists.mp h
   rcases J0z hr with ⟨_,e⟩ | ⟨el,_⟩
   ·exact absurd (by simpa using e) hf
   ·rw [List.length_take] at el; omega
  ·obtain ⟨r,hr⟩:=Option.isSome_iff_exists.mp h
   rcases J0z hr with ⟨_,e⟩ | ⟨el,_⟩
   ·exact absurd (by simpa using e) hf
   ·rw [List.length_take] at el
    simp at el
    omega
theorem J8U (a n o m i d f : Wd) : cntB [a,n,o,m,i,d] f = (decide (a = f) && (decide (o = wOf) && (decide (i = wIn) && (figB n fgN && (J01 m && figB d fgD))))):=rfl
theorem Jag {f n o m i d : Wd} {r : List Wd} (hf : f = JY ∨ f = JO) :
  isPl (f :: n :: o :: m :: i :: d :: r) = (decide (o = wOf) && (decide (i = wIn) && (figB n fgN && (J01 m && figB d fgD)))):=by
 have hn : f ≠ JR:=by rcases hf with rfl | rfl <;> decide
 have e1 : J00 (List.take 2 (f :: n :: o :: m :: i :: d :: r)) = none:=by
  show (if f = JR ∧ J08 n = true then some (R.nev n) else none) = none
  rw [if_neg (fun z=>hn z.1)]
 have e2 : cntB [f,n,o,m,i,d] f = (decide (o = wOf) && (decide (i = wIn) && (figB n fgN && (J01 m && figB d fgD)))):=by
  show (decide (f = f) && _) = _
  rw [decide_eq_true rfl,Bool.true_and]
 unfold isPl
 rw [e1,← e2]
 show (false || (J00 [f,n,o,m,i,d]).isSome) = _
 rw [Bool.false_or]
 cases h : cntB [f,n,o,m,i,d] f with
 | true =>
  obtain ⟨x,m',y,e,x0,y0,hm⟩:=J5D h
  rw [e,J4r x0 y0 hm]
  rcases hf with rfl | rfl
  ·rw [if_pos rfl]; rfl
  ·rw [if_neg (by decide),if_pos rfl]; rfl
 | false =>
  have e3 : J00 [f,n,o,m,i,d] = none:=by
   refine J69 ?_ ?_ ?_
   ·rintro ⟨w,e,_⟩
    cases e
   ·rcases hf with rfl | rfl
    ·exact h
    ·rw [J8U,decide_eq_false (by decide),Bool.false_and]
   ·rcases hf with rfl | rfl
    ·rw [J8U,decide_eq_false (by decide),Bool.false_and]
    ·exact h
  rw [e3]
  rfl
section
variable {P : Program} {w : World} {K : PySem.W.Frag} {mg : Str → Option Value} {base : Heap} {J6 Jd J5 Jf J2 Jm J3 J4 Jh Jj Jk Ja J9 Jg : Addr}
theorem J7c (tx : Tx K mg J6 Jd J5 Jf J2 Jm J3 J4 Jh Jj Jk Ja J9 Jg) : FnG P w K mg base "_law_signs" 1 ["_law_word_here","_law_signs_here","_law_most"] JcX:=by
 refine tx.J76.g J6h (fun _ _ _ _ _ _ us hl=>match us,hl with | [_,_,_],_=>rfl) (fun vs H Q E h=>?_) (fun f cdv A outer s H vs Q E hr h=>?_)
 ·obtain ⟨w,l,n,rfl,_⟩:=h
  rfl
 ·obtain ⟨w,l,n,rfl,lw,ll,q⟩:=h
  refine ⟨_,(Jb (JQ (PW.pt (J3q (Jo J02 (pv 0) (Jl (l:=[]) (by decide +kernel)) (Ju _)) (J4s (Jo J92 (Jz J2h rfl tx.J0B PySem.boot_len (J0 (pv 0) J7)) (pv 2) (Ju _))))) (Jc (Jx J2V)) JE)
   (Jc (Jx (J2d (J2U (K:=K) rfl hr.units0) (J4Y (osc:=J8 J0G) (ON:=["_law_word_here","_law_signs_here","_law_most"]) (N:=["_law_sign","_law_signs_here"]) (js:=[none,some 1]) ⟨rfl,by decide +kernel,by decide +kernel,by decide +kernel,rfl,by decide +kernel⟩ rfl rfl rfl (J8u (pv 0)) (fun _ _ _ _ _=>J1E (i:=0) (show List.Nodup (["_law_sign","_law_signs_here"] : List Str) from by decide +kernel) rfl (Or.inl rfl)) (fun _ _ _ _ _=>JaN (Jo J9x (pv 0) (pv 1) rfl)) (fun _ _ _ _ _=>(pv 0))) (JV J7) (Ju _))))),?_⟩
  walk_at "st"
  have n1 : w = [] → sgB w l n = false:=fun e=>if_pos (.inl e)
  have n2 : n < (w.length : Int) → sgB w l n = false:=fun e=>if_pos (.inr e)
  walk_at "rd"
  refine ite2 (fun c=>?_) (fun c=>?_)
  ·have q1:=q H (Same.refl _)
   rw [n1 (J3v (of_decide_eq_true c))] at q1
   walk_at "rd"
   exact q1
  have c1 : ¬ w = []:=fun z=>c (decide_eq_true (by rw [z]))
  clear c
  walk_at "rd"
  refine ite2 (fun c=>?_) (fun c=>?_)
  ·have q1:=q H (Same.refl _)
   rw [n2 (of_decide_eq_true c)] at q1
   walk_at "rd"
   exact q1
  have c2 : ¬ n < (w.length : Int):=fun z=>c (decide_eq_true z)
  clear c n1 n2
  walk_at "rd"
  refine J90 (fun x=>match x with | .str z=>!decide (z.cps.getD 0 0 ∈ l) | _=>false) (fun x=>x) (J65 w) ?_ (fun x hx H' s' R hR=>?_) (fun x hx hp H' s' R hR=>?_) (fun D H' hD s' hDD=>?_)
  ·rw [List.length_map]; omega
  ·obtain ⟨k,_,rfl⟩:=List.mem_map.mp hx
   walk_at "rd"
   exact hR H' (Same.refl _)
  ·obtain ⟨k,_,rfl⟩:=List.mem_map.mp hx
   walk_at "rd"
   exact hR H' (Same.refl _)
  have e1 : (((w.map fun c=>T [c]).filter (fun x=>match x with | .str z=>!decide (z.cps.getD 0 0 ∈ l) | _=>false)).map (fun x=>x)) = ((w.filter fun c=>!decide (c ∈ l)).map fun c=>[c]).map T:=by
   rw [List.filter_map,List.map_map,List.map_map]
   rfl
  have hD2 : H' D = some (.lst (((w.filter fun c=>!decide (c ∈ l)).map fun c=>[c]).map T)):=by rw [← e1]; exact hDD
  have fl:=J8H ((w.filter fun c=>!decide (c ∈ l)).map fun c=>[c])
  have ev : eqVs (((w.filter fun c=>!decide (c ∈ l)).map fun c=>[c]).map T) [] = sgB w l n:=by
   have e2:=J6T ((w.filter fun c=>!decide (c ∈ l)).map fun c=>[c]) []
   rw [List.map_nil] at e2
   rw [e2]
   unfold sgB
   rw [if_neg (by rintro (z | z); exact c1 z; exact c2 z)]
   by_cases h : ∀ c ∈ w,c ∈ l
   ·rw [List.all_eq_true.mpr fun c hc=>decide_eq_true (h c hc),decide_eq_true]
    rw [List.map_eq_nil_iff,List.filter_eq_nil_iff]
    intro c hc
    rw [decide_eq_true (h c hc)]
    decide
   ·rw [decide_eq_false,eq_comm,Bool.eq_false_iff]
    ·intro z
     exact h fun c hc=>of_decide_eq_true (List.all_eq_true.mp z c hc)
    ·intro z
     rw [List.map_eq_nil_iff,List.filter_eq_nil_iff] at z
     refine h fun c hc=>?_
     have:=z c hc
     by_cases hm : c ∈ l
     ·exact hm
     ·rw [decide_eq_false hm] at this
      exact absurd rfl this
  clear hDD e1
  walk_at "rd"
  intro p2 hp2
  obtain ⟨H2,e2,hp3,s2⟩:=nwl (xs:=[]) hp2
  rw [← e2]
  clear e2
  have hD3:=s2 _ _ hD2
  walk_at "rd"
  have q1:=q H2 (s'.trans s2)
  rw [← ev] at q1
  exact q1
theorem J5g (tx : Tx K mg J6 Jd J5 Jf J2 Jm J3 J4 Jh Jj Jk Ja J9 Jg) : FnG P w K mg base "_law_is_plain" 2 ["_law_words","_law_at"] (JcV K):=by
 have J2q:=J7c (P:=P) (w:=w) (base:=base) tx
 refine tx.J5a.g J1Z (fun _ _ _ _ _ _ us hl=>match us,hl with | [_,_],_=>rfl) (fun vs H Q E h=>?_) (fun f cdv A outer s H vs Q E hr h=>?_)
 ·obtain ⟨D,ws,a,rfl,_⟩:=h
  rfl
 ·obtain ⟨D,ws,a,rfl,hD,ha,hl,hw,q⟩:=h
  refine ⟨_,(Jb (Jn (i:=2) J1Z.nd rfl (Or.inl rfl) (Jl (l:=[65,66,67,68,69,70,71,72,73,74,75,76,77,78,79,80,81,82,83,84,85,86,87,88,89,90]) (by decide +kernel)))
   (Jb (JQ (Jo J02 (JL (Jp (K:=K) rfl) (pv 0) (pv 1) (fun _ _=>rfl)) (Jl (l:=[110,101,118,101,114]) (by decide +kernel)) (Ju _)) (Jc (Jx (J2w (J2d Jap (Je JU (pv 1) J1) (Jz (JJ (K:=K) rfl) rfl tx.J0B PySem.boot_len (J0 (pv 0) J7)) (Ju _)) (J2t (JH J2q (hr.mono (by decide)) (J0 (JL (Jp (K:=K) rfl) (pv 0) (Je JU (pv 1) J1) (fun _ _=>rfl)) (J0 (Je Js (pv 2) (Jl (l:=[45,35,63]) (by decide +kernel))) (J0 J1 J7)))))))) JE)
   (Jb (J2T (JQ (PW.pt (J3q (PW.pt (J5A (Jo J42 (JL (Jp (K:=K) rfl) (pv 0) (pv 1) (fun _ _=>rfl)) (Jl (l:=[109,111,115,116]) (by decide +kernel)) (Ju _)) (J4X (Jo J42 (JL (Jp (K:=K) rfl) (pv 0) (pv 1) (fun _ _=>rfl)) (Jl (l:=[108,101,97,115,116]) (by decide +kernel)) (Ju _))))) (J4s (Jo Jav (Je JU (pv 1) J1) (Jz (JJ (K:=K) rfl) rfl tx.J0B PySem.boot_len (J0 (pv 0) J7)) (Ju _))))) (Jc (Jx J2V)) JE))
   (Jb (JQ (PW.pt (J3q (Jo J42 (JL (Jp (K:=K) rfl) (pv 0) (Je JU (pv 1) J1) (fun _ _=>rfl)) (Jl (l:=[111,102]) (by decide +kernel)) (Ju _)) (J3q (Jo J42 (JL (Jp (K:=K) rfl) (pv 0) (Je JU (pv 1) J1) (fun _ _=>rfl)) (Jl (l:=[105,110]) (by decide +kernel)) (Ju _)) (J4s (J6R (J2u (JH J2q (hr.mono (by decide)) (J0 (JL (Jp (K:=K) rfl) (pv 0) (Je JU (pv 1) J1) (fun _ _=>rfl)) (J0 (Je Js (pv 2) (Jl (l:=[45,35]) (by decide +kernel))) (J0 J1 J7)))))))))) (Jc (Jx J2V)) JE)
   (Jb (J4q PassesOwn.never rfl (J8u (JL (Jp (K:=K) rfl) (pv 0) (Je JU (pv 1) J1) (fun _ _=>rfl))) (J1E (i:=3) J1Z.nd rfl (Or.inl rfl)) (Jc (JQ (Jo J92 (Jbk (K:=K) rfl (JL (Jp (K:=K) rfl) (pv 0) (Je JU (pv 1) J1) (fun _ _=>rfl)) (J0 (pv 3) J7)) J1 (Ju _)) (Jc (Jx J2V)) JE)))
   (Jc (Jx (J2w (JH J2q (hr.mono (by decide)) (J0 (JL (Jp (K:=K) rfl) (pv 0) (Je JU (pv 1) J1) (fun _ _=>rfl)) (J0 (Jl (l:=[48,49,50,51,52,53,54,55]) (by decide +kernel)) (J0 J1 J7)))) (J2t (JH J2q (hr.mono (by decide)) (J0 (JL (Jp (K:=K) rfl) (pv 0) (Je JU (pv 1) J1) (fun _ _=>rfl)) (J0 (Jl (l:=[49,50,51,52,53,54,55]) (by decide +kernel)) (J0 J1 J7))))))))))))),?_⟩
  walk_at "st"
  have hga : ws[a]? = some ws[a]:=List.getElem?_eq_getElem ha
  obtain ⟨w0,hw0⟩ : ∃ w0,w0 = ws[a]:=⟨_,rfl⟩
  rw [← hw0] at hga
  clear hw0
  have e0 : atI (ws.map T) (a : Int) = some (T w0):=J3W (by rw [List.getElem?_map,hga]; rfl)
  have dA : ws.drop a = w0 :: ws.drop (a + 1):=by
   obtain ⟨hl',e⟩:=List.getElem?_eq_some_iff.mp hga
   rw [List.drop_eq_getElem_cons hl',e]
  rw [dA] at q
  have hT : ∀ (x y : Wd),decide (T x = T y) = true → x = y:=fun x y c=>J3v (of_decide_eq_true c)
  have neT : ∀ (x y : Wd),(!decide (T x = T y)) = true → ¬ x = y:=fun x y c z=>by
   rw [z,decide_eq_true rfl] at c
   cases c
  have eqT : ∀ (x y : Wd),¬ (!decide (T x = T y)) = true → x = y:=fun x y c=>by
   refine J3v ?_
   cases z : decide (T x = T y) with
   | true=>exact of_decide_eq_true z
   | false=>rw [z] at c; exact absurd rfl c
  have at' : ∀ (k : Nat) (h : a + k < ws.length),∃ v,atI (ws.map T) ((a : Int) + (k : Int)) = some (T v) ∧ ws[a + k]? = some v ∧ v.length ≤ 100000:=fun k h=>by
   refine ⟨ws[a + k],?_,List.getElem?_eq_getElem h,hw _ (List.getElem_mem h)⟩
   have : atI (ws.map T) ((a + k : Nat) : Int) = some (T ws[a + k]):=J3W (by rw [List.getElem?_map,List.getElem?_eq_getElem h]; rfl)
   rw [← this]
   congr 1
  walk_at "rd"
  refine ite2 (fun c=>?_) (fun c=>?_)
  ·have c0 : w0 = JR:=hT _ _ c
   subst c0
   clear c
   walk_at "rd"
   refine ite2 (fun c=>?_) (fun c=>?_)
   ·have c1 : a + 1 < ws.length:=by have:=of_decide_eq_true c; rw [List.length_map] at this; omega
    obtain ⟨v,ev,gv,lv⟩:=at' 1 c1
    have ev' : atI (ws.map T) ((a : Int) + 1) = some (T v):=ev
    have dB : ws.drop (a + 1) = v :: ws.drop (a + 1 + 1):=by
     obtain ⟨hl',e⟩:=List.getElem?_eq_some_iff.mp gv
     rw [List.drop_eq_getElem_cons hl',e]
    rw [dB,Jay] at q
    clear c
    walk_at "rd"
    intro H1 s1
    have q1:=q H1 s1
    rw [← sg_W] at q1
    exact q1
   ·have c1 : ¬ a + 1 < ws.length:=fun z=>c (decide_eq_true (by rw [List.length_map]; omega))
    rw [List.drop_eq_nil_of_le (by omega),J9p] at q
    walk_at "rd"
    exact q H (Same.refl _)
  have c0 : w0 ≠ JR:=fun z=>c (decide_eq_true (by rw [z]))
  clear c
  have no : isPl (w0 :: ws.drop (a + 1)) = false → ∀ H',Same H H' → Q (.bl false) H':=fun e H' s'=>by
   have q1:=q H' s'
   rw [e] at q1
   exact q1
  have sh : a + 5 < ws.length ∨ isPl (w0 :: ws.drop (a + 1)) = false:=by
   by_cases h : a + 5 < ws.length
   ·exact .inl h
   ·exact .inr (J8w c0 (by rw [List.length_drop]; omega))
  walk_at "rd"
  refine tCut.mk (fun σ' H'=>Here (σ' = [some (.ref D),some (.int a),some (T alph),none] ∧ H' = H ∧ (w0 = JY ∨ w0 = JO) ∧ a + 5 < ws.length)) ?_ ?_
  ·have fin : ∀ (h5 : w0 = JY ∨ w0 = JO),a + 5 < ws.length ∨ Q (.bl false) H:=fun h5=>by
    rcases sh with h | h
    ·exact .inl h
    ·exact .inr (no h H (Same.refl _))
   walk_at "rd"
   refine ite2 (fun c=>?_) (fun c=>?_)
   ·have n1:=neT _ _ c
    walk_at "rd"
    refine ite2 (fun c2=>?_) (fun c2=>?_)
    ·have n2:=neT _ _ c2
     walk_at "rd"
     exact no (J95 c0 n1 n2) H (Same.refl _)
    ·have n2:=eqT _ _ c2
     walk_at "rd"
     refine ite2 (fun c3=>?_) (fun c3=>?_)
     ·have c3' : ¬ a + 5 < ws.length:=fun z=>by have:=of_decide_eq_true c3; rw [List.length_map] at this; omega
      walk_at "rd"
      exact no (sh.resolve_left c3') H (Same.refl _)
     ·have c3' : a + 5 < ws.length:=by
       have:=of_decide_eq_false (Bool.eq_false_iff.mpr c3)
       rw [List.length_map] at this
       omega
      exact Here.mk ⟨rfl,rfl,.inr n2,c3'⟩
   ·have n1:=eqT _ _ c
    walk_at "rd"
    refine ite2 (fun c3=>?_) (fun c3=>?_)
    ·have c3' : ¬ a + 5 < ws.length:=fun z=>by have:=of_decide_eq_true c3; rw [List.length_map] at this; omega
     walk_at "rd"
     exact no (sh.resolve_left c3') H (Same.refl _)
    ·have c3' : a + 5 < ws.length:=by
      have:=of_decide_eq_false (Bool.eq_false_iff.mpr c3)
      rw [List.length_map] at this
      omega
     exact Here.mk ⟨rfl,rfl,.inl n1,c3'⟩
  rintro σ' H' hv
  obtain ⟨rfl,eH,hf,h5⟩:=hv.out
  rw [eH]
  clear eH hv H' sh
  obtain ⟨v1,e1,g1,l1⟩:=at' 1 (by omega)
  obtain ⟨v2,e2,g2,l2⟩:=at' 2 (by omega)
  obtain ⟨v3,e3,g3,l3⟩:=at' 3 (by omega)
  obtain ⟨v4,e4,g4,l4⟩:=at' 4 (by omega)
  obtain ⟨v5,e5,g5,l5⟩:=at' 5 (by omega)
  have dB : ws.drop (a + 1) = v1 :: v2 :: v3 :: v4 :: v5 :: ws.drop (a + 6):=by
   have st : ∀ (k : Nat) (v : Wd),ws[k]? = some v → ws.drop k = v :: ws.drop (k + 1):=fun k v g=>by
    obtain ⟨hl',e⟩:=List.getElem?_eq_some_iff.mp g
    rw [List.drop_eq_getElem_cons hl',e]
   rw [st _ _ g1,st _ _ g2,st _ _ g3,st _ _ g4,st _ _ g5]
  have e1' : atI (ws.map T) ((a : Int) + 1) = some (T v1):=e1
  have e2' : atI (ws.map T) ((a : Int) + 2) = some (T v2):=e2
  have e3' : atI (ws.map T) ((a : Int) + 3) = some (T v3):=e3
  have e4' : atI (ws.map T) ((a : Int) + 4) = some (T v4):=e4
  have e5' : atI (ws.map T) ((a : Int) + 5) = some (T v5):=e5
  rw [dB,Jag hf] at q no
  clear e1 e2 e3 e4 e5 g1 g2 g3 g4 g5 dB dA at' hga e0
  walk_at "rd"
  refine ite2 (fun c=>?_) (fun c=>?_)
  ·have n1:=neT _ _ c
   walk_at "rd"
   exact no (by rw [decide_eq_false n1,Bool.false_and]) H (Same.refl _)
  have n1:=eqT _ _ c
  rw [decide_eq_true n1,Bool.true_and] at q no
  clear c
  walk_at "rd"
  refine ite2 (fun c=>?_) (fun c=>?_)
  ·have n2:=neT _ _ c
   walk_at "rd"
   exact no (by rw [decide_eq_false n2,Bool.false_and]) H (Same.refl _)
  have n2:=eqT _ _ c
  rw [decide_eq_true n2,Bool.true_and] at q no
  clear c
  walk_at "rd"
  intro H1 s1
  have hD1:=s1.seq hD
  walk_at "rd"
  refine ite2 (fun c=>?_) (fun c=>?_)
  ·have n3 : sgB v3 sgM 8 = false:=by
    cases z : sgB v3 sgM 8 with
    | false=>rfl
    | true =>
     have c' : (!sgB v3 sgM 8) = true:=c
     rw [z] at c'
     cases c'
   walk_at "rd"
   exact no (by rw [← sg_M,n3,Bool.false_and,Bool.false_and,Bool.and_false]) H1 s1
  have n3 : sgB v3 sgM 8 = true:=by
   cases z : sgB v3 sgM 8 with
   | true=>rfl
   | false =>
    have c' : ¬ (!sgB v3 sgM 8) = true:=c
    rw [z] at c'
    exact absurd rfl c'
  rw [← sg_M,n3,Bool.true_and] at q no
  clear c
  walk_at "rd"
  refine Jbu (l:=v3) (fun i σ H2=>Here (∃ v,σ = [some (.ref D),some (.int a),some (T alph),v] ∧ Same H1 H2 ∧ ∀ j x,j < i → v3[j]? = some x → v3.count x ≤ 1))
   (Here.mk ⟨none,rfl,Same.refl _,fun j x hj _=>absurd hj (Nat.not_lt_zero _)⟩) ?_ ?_
  ·rintro i x σ H2 hx hv
   obtain ⟨v,rfl,s2,hc⟩:=hv.out
   have hD2:=s2.seq hD1
   walk_at "rd"
   refine ite2 (fun c=>?_) (fun c=>?_)
   ·have c' : (1 : Int) < ((v3.count x : Nat) : Int):=of_decide_eq_true c
    walk_at "rd"
    refine no ?_ H2 (s1.trans s2)
    have : ¬ v3.Nodup:=fun z=>by
     have:=List.nodup_iff_count.mp z x
     omega
    rw [decide_eq_false this,Bool.false_and,Bool.and_false]
   ·have c' : ¬ (1 : Int) < ((v3.count x : Nat) : Int):=of_decide_eq_false (Bool.eq_false_iff.mpr c)
    refine Here.mk ⟨_,rfl,s2,fun j y hj hy=>?_⟩
    by_cases e : j = i
    ·subst e
     rw [hx] at hy
     cases hy
     omega
    ·exact hc j y (by omega) hy
  ·rintro σ H2 hv
   obtain ⟨v,rfl,s2,hc⟩:=hv.out
   have nd : v3.Nodup:=List.nodup_iff_count.mpr fun x=>by
    by_cases hm : x ∈ v3
    ·obtain ⟨j,hj⟩:=List.getElem?_of_mem hm
     exact hc j x (List.getElem?_eq_some_iff.mp hj).1 hj
    ·rw [List.count_eq_zero.mpr hm]
     omega
   rw [decide_eq_true nd,Bool.true_and] at q
   have hD2:=s2.seq hD1
   clear no hv
   walk_at "rd"
   intro H3 s3
   have hD3:=s3.seq hD2
   walk_at "rd"
   refine ite2 (fun c=>?_) (fun c=>?_)
   ·have c' : figB v1 fgN = true:=by rw [← sg_F]; exact c
    rw [c',Bool.true_and] at q
    clear c
    walk_at "rd"
    intro H4 s4
    have q1:=q H4 (s1.trans (s2.trans (s3.trans s4)))
    rw [← sg_F] at q1
    exact q1
   ·have c' : figB v1 fgN = false:=by rw [← sg_F]; exact Bool.eq_false_iff.mpr c
    have q1:=q H3 (s1.trans (s2.trans s3))
    rw [c',Bool.false_and] at q1
    exact q1
end
noncomputable def tkV : Tk → V
 | none=>.int 1
 | some w=>T w
noncomputable def JcW (K : PySem.W.Frag) : Sp:=fun vs H Q _=>∃ (D : Addr) (ws : List Wd),vs = [.ref D] ∧ SqL K H D (ws.map T) ∧ ws.length ≤ 60 ∧ (∀ w ∈ ws,w.length ≤ 100000) ∧ ∀ p H' ts,Same H H' → H' p = some (.lst (ts.map tkV)) → TK ws ts → ts.length ≤ 60 → Q (.ref p) H'
theorem JaT {w : Wd} {t : List Wd} (h : isPl (w :: t) = true) : plK w ≤ (w :: t).length:=by
 unfold isPl at h
 rcases Bool.or_eq_true_iff.mp h with h | h
 ·obtain ⟨r,hr⟩:=Option.isSome_iff_exists.mp h
  rcases J0z hr with ⟨el,e⟩ | ⟨el,_⟩
  ·have e' : w = JR:=by simpa using e
   unfold plK
   rw [if_pos e']
   rw [List.length_take] at el
   omega
  ·rw [List.length_take] at el
   omega
 ·obtain ⟨r,hr⟩:=Option.isSome_iff_exists.mp h
  rcases J0z hr with ⟨el,e⟩ | ⟨el,_⟩
  ·have e' : w = JR:=by simpa using e
   unfold plK
   rw [if_pos e']
   rw [List.length_take] at el
   omega
  ·rw [List.length_take] at el
   unfold plK
   split <;> omega
section
variable {P : Program} {w : World} {K : PySem.W.Frag} {mg : Str → Option Value} {base : Heap} {J6 Jd J5 Jf J2 Jm J3 J4 Jh Jj Jk Ja J9 Jg : Addr}
theorem J6e (tx : Tx K mg J6 Jd J5 Jf J2 Jm J3 J4 Jh Jj Jk Ja J9 Jg) : FnG P w K mg base "_law_tokens" 3 ["_law_words"] (JcW K):=by
 have J53:=J5g (P:=P) (w:=w) (base:=base) tx
 refine tx.J6c.g J10 (fun _ _ _ _ _ _ us hl=>match us,hl with | [_],_=>rfl) (fun vs H Q E h=>?_) (fun f cdv A outer s H vs Q E hr h=>?_)
 ·obtain ⟨D,ws,rfl,_⟩:=h
  rfl
 ·obtain ⟨D,ws,rfl,hD,hl,hw,q⟩:=h
  refine ⟨_,(Jb (Jn (i:=1) J10.nd rfl (Or.inl rfl) (JV J7))
   (Jb (Jn (i:=2) J10.nd rfl (Or.inl rfl) J1)
   (Jb (J7B PassesOwn.never (Jo Jap (pv 2) (Jz (JJ (K:=K) rfl) rfl tx.J0B PySem.boot_len (J0 (pv 0) J7)) (Ju _)) (Jc (JQ (J2u (JH J53 (hr.mono (by decide)) (J0 (pv 0) (J0 (pv 2) J7)))) (Jb (J6O (J64 PySem.F.plainAttrs_list PySem.F.slot_list_append PySem.F.type_list_append J3l (pv 1) (J0 J1 J7)))
   (Jc (Jn (i:=2) J10.nd rfl (Or.inl rfl) (Je JU (pv 2) (JL (Jp (K:=K) rfl) (JV (J0 J1 (J0 J1 J7))) (J1p J9w rfl tx.J3I J2z (J0 (J2d J42 (JL (Jp (K:=K) rfl) (pv 0) (pv 2) (fun _ _=>rfl)) (Jl (l:=[110,101,118,101,114]) (by decide +kernel)) (Ju _)) J7)) (fun _ _=>rfl)))))) (Jb (J6O (J64 PySem.F.plainAttrs_list PySem.F.slot_list_append PySem.F.type_list_append J3l (pv 1) (J0 (JL (Jp (K:=K) rfl) (pv 0) (pv 2) (fun _ _=>rfl)) J7)))
   (Jc (Jn (i:=2) J10.nd rfl (Or.inl rfl) (Je JU (pv 2) J1)))))))
   (Jc (Jx (pv 1)))))),?_⟩
  walk_at "st"
  walk_at "rd"
  intro p hp
  obtain ⟨H1,e1,hp1,s1⟩:=nwl (xs:=[]) hp
  rw [← e1]
  clear e1
  have hD1:=s1.seq hD
  walk_at "rd"
  refine J7Z (fun σ H3=>Here (∃ (a : Nat) (fs : List Tk),σ = [some (.ref D),some (.ref p),some (.int a)] ∧ a ≤ ws.length ∧ fs.length ≤ a ∧ H3 p = some (.lst (fs.map tkV)) ∧ Same H H3 ∧ ∀ ts,TK (ws.drop a) ts → TK ws (fs ++ ts)))
   (fun σ _=>match σ with | [_,_,some (.int a)]=>ws.length - a.toNat | _=>0) (Here.mk ⟨0,[],rfl,Nat.zero_le _,Nat.le_refl _,hp1,s1,fun ts h=>h⟩) ?_ ?_
  ·rintro σ H3 hv
   obtain ⟨a,fs,rfl,ha,hf,hp3,s3,hT⟩:=hv.out
   have hD3:=s3.seq hD
   clear hv hD1 hp1
   walk_at "rd"
   refine ite2 (fun c=>?_) (fun c=>?_)
   ·have c' : a < ws.length:=by have:=of_decide_eq_true c; rw [List.length_map] at this; omega
    have hga : ws[a]? = some ws[a]:=List.getElem?_eq_getElem c'
    obtain ⟨w0,hw0⟩ : ∃ w0,w0 = ws[a]:=⟨_,rfl⟩
    rw [← hw0] at hga
    clear hw0
    have e0 : atI (ws.map T) (a : Int) = some (T w0):=J3W (by rw [List.getElem?_map,hga]; rfl)
    have dA : ws.drop a = w0 :: ws.drop (a + 1):=by
     obtain ⟨hl',e⟩:=List.getElem?_eq_some_iff.mp hga
     rw [List.drop_eq_getElem_cons hl',e]
    have hl2 : ws.length ≤ 1000:=by omega
    have hfl : (fs.map tkV).length ≤ 60:=by rw [List.length_map]; omega
    walk_at "rd"
    intro H4 s4
    have hp4:=s4 _ _ hp3
    have hD4:=s4.seq hD3
    have s04:=s3.trans s4
    clear hp3 hD3 c
    walk_at "rd"
    refine ite2 (fun c=>?_) (fun c=>?_)
    ·rw [dA] at c
     walk_at "rd"
     obtain ⟨H5,e5⟩ : ∃ H5,H5 = upd H4 p (HO.lst (List.map tkV fs ++ [V.int 1])):=⟨_,rfl⟩
     rw [← e5]
     have hp5 : H5 p = some (HO.lst ((fs ++ [none]).map tkV)):=by rw [e5,List.map_append]; exact Jr
     have s05 : Same H H5:=by rw [e5]; exact s04.upd hp
     clear e5
     intro p6 hp6
     obtain ⟨H6,e6,hp7,s6⟩:=nwl (xs:=[V.int 2,V.int 6]) hp6
     rw [← e6]
     clear e6
     have hp8:=s6 _ _ hp5
     have s06:=s05.trans s6
     have hD6:=s06.seq hD
     clear hD4 hp4 hp5 s04 hp6
     have lk:=JaT c
     have i0 : atI [V.int 2,V.int 6] (0 : Int) = some (V.int 2):=by simp [atI,ixN]
     have i1 : atI [V.int 2,V.int 6] (1 : Int) = some (V.int 6):=by simp [atI,ixN]
     have step : ∀ ts,TK (ws.drop (a + plK w0)) ts → TK ws ((fs ++ [none]) ++ ts):=fun ts h=>by
      have h' : TK ((w0 :: ws.drop (a + 1)).drop (plK w0)) ts:=by
       rw [← dA,List.drop_drop]
       exact h
      have:=hT (none :: ts) (by rw [dA]; exact .pl c h')
      rwa [List.append_assoc,List.singleton_append]
     rw [← dA,List.length_drop] at lk
     walk_at "rd"
     refine .inr ⟨_,rfl,?_⟩
     by_cases cn : w0 = JR
     ·have d : (if (!decide (T w0 = T [110,101,118,101,114])) = true then (1 : Int) else 0) = 0:=by rw [cn,decide_eq_true rfl]; rfl
      have ek : plK w0 = 2:=by unfold plK; rw [if_pos cn]
      rw [d]
      rw [ek] at lk step
      walk_at "rd"
      refine ⟨Here.mk ⟨a + 2,fs ++ [none],rfl,by omega,by rw [List.length_append,List.length_singleton]; omega,hp8,s06,step⟩,?_⟩
      show ws.length - ((a : Int) + 2).toNat < ws.length - (a : Int).toNat
      omega
     ·have d : (if (!decide (T w0 = T [110,101,118,101,114])) = true then (1 : Int) else 0) = 1:=by rw [decide_eq_false (fun z=>cn (J3v z))]; rfl
      have ek : plK w0 = 6:=by unfold plK; rw [if_neg cn]
      rw [d]
      rw [ek] at lk step
      walk_at "rd"
      refine ⟨Here.mk ⟨a + 6,fs ++ [none],rfl,by omega,by rw [List.length_append,List.length_singleton]; omega,hp8,s06,step⟩,?_⟩
      show ws.length - ((a : Int) + 6).toNat < ws.length - (a : Int).toNat
      omega
    ·have c1:=Bool.eq_false_iff.mpr c
     rw [dA] at c1
     walk_at "rd"
     refine ⟨Here.mk ⟨a + 1,fs ++ [some w0],rfl,by omega,by rw [List.length_append,List.length_singleton]; omega,by rw [List.map_append]; exact Jr,s04.upd hp,fun ts h=>?_⟩,?_⟩
     ·have:=hT (some w0 :: ts) (by rw [dA]; exact .wd c1 h)
      rwa [List.append_assoc,List.singleton_append]
     ·show ws.length - ((a : Int) + 1).toNat < ws.length - (a : Int).toNat
      omega
   ·have c' : ¬ a < ws.length:=fun z=>c (decide_eq_true (by rw [List.length_map]; omega))
    walk_at "rd"
    refine q p H3 fs s3 hp3 ?_ (by omega)
    have:=hT [] (by rw [List.drop_eq_nil_of_le (by omega)]; exact .nil)
    rwa [List.append_nil] at this
  ·rintro σ H' Q1 Q2 hQ ⟨v,e1,v2,e2,p,ys,e3,h,i,j,e4,e5,k,e6,h2⟩
   exact ⟨v,e1,v2,e2,p,ys,e3,h,i,j,e4,e5,k,e6,hQ _ _ h2⟩
end
noncomputable def JcU (K : PySem.W.Frag) : Sp:=fun vs H Q _=>∃ (D : Addr) (ts : List Tk),vs = [.ref D] ∧ H D = some (.lst (ts.map tkV)) ∧ ts.length ≤ 60 ∧ ∀ H' f,Same H H' → Run [] ts f → Q (.bl (decide (f = [none]))) H'
theorem J8Z (l : List Tk) (lo hi : Option Int) : cutV (l.map tkV) lo hi = (cutN l lo hi).map tkV:=by
 unfold cutV cutN
 rw [List.length_map,List.map_take,List.map_drop]
theorem J6X (l : List Tk) : (l.map tkV).all J3t = true:=by
 rw [List.all_eq_true]
 rintro x hx
 obtain ⟨k,_,rfl⟩:=List.mem_map.mp hx
 cases k <;> rfl
theorem JcH : ∀ a b : Tk,eqV (tkV a) (tkV b) = decide (a = b)
 | none,none=>rfl
 | none,some b=>by
  rw [decide_eq_false (by intro z; cases z)]
  rfl
 | some a,none=>by
  rw [decide_eq_false (by intro z; cases z)]
  rfl
 | some a,some b=>by
  show eqV (T a) (T b) = _
  rw [Jan]
  by_cases h : a = b
  ·rw [decide_eq_true h,decide_eq_true (by rw [h])]
  ·rw [decide_eq_false h,decide_eq_false (fun z=>h (Option.some.inj z))]
theorem J3e : ∀ (a b : List Tk),eqVs (a.map tkV) (b.map tkV) = decide (a = b)
 | [],[]=>rfl
 | [],y :: b=>rfl
 | x :: a,[]=>rfl
 | x :: a,y :: b=>by
  show (eqV (tkV x) (tkV y) && eqVs (a.map tkV) (b.map tkV)) = _
  rw [J3e a b,JcH]
  by_cases e : x = y <;> by_cases e2 : a = b <;> simp [e,e2]
theorem Jca {α : Type} (l : List α) (k : Nat) (hk : 0 < k) : cutN l (some (-(k : Int))) none = l.drop (l.length - k):=by
 unfold cutN
 have e : HT.sIx l.length 0 (some (-(k : Int))) = l.length - k:=by
  show (if (-(k : Int)) < 0 then ((-(k : Int)) + (l.length : Int)).toNat else min (-(k : Int)).toNat l.length) = _
  rw [if_pos (by omega)]
  omega
 rw [e,HT.sIx_none]
 exact List.take_of_length_le (by rw [List.length_drop]; exact Nat.le_refl _)
theorem Jcz {α : Type} (l : List α) (k : Nat) (hk : 0 < k) : cutN l none (some (-(k : Int))) = l.take (l.length - k):=by
 unfold cutN
 have e : HT.sIx l.length l.length (some (-(k : Int))) = l.length - k:=by
  show (if (-(k : Int)) < 0 then ((-(k : Int)) + (l.length : Int)).toNat else min (-(k : Int)).toNat l.length) = _
  rw [if_pos (by omega)]
  omega
 rw [e,HT.sIx_none,List.drop_zero,Nat.sub_zero]
theorem JbT (st : List Tk) (k : Nat) (hk : 0 < k) : cutV (st.reverse.map tkV) (some (-(k : Int))) none = ((st.take k).reverse).map tkV:=by
 rw [J8Z,Jca _ _ hk,List.drop_reverse,List.length_reverse]
 congr 2
 by_cases h : k ≤ st.length
 ·rw [show st.length - (st.length - k) = k by omega]
 ·rw [List.take_of_length_le (by omega),List.take_of_length_le (by omega)]
theorem JbN (st : List Tk) (k : Nat) (hk : 0 < k) : cutV (st.reverse.map tkV) none (some (-(k : Int))) = ((st.drop k).reverse).map tkV:=by
 rw [J8Z,Jcz _ _ hk,List.take_reverse,List.length_reverse]
 congr 2
 by_cases h : k ≤ st.length
 ·rw [show st.length - (st.length - k) = k by omega]
 ·rw [List.drop_eq_nil_of_le (by omega),List.drop_eq_nil_of_le (by omega)]
theorem J5y {l m : List Tk} (h : l.reverse = m) : l = m.reverse:=by rw [← h,List.reverse_reverse]
theorem Jdb {st : List Tk} (h : (st.take 2).reverse = [some wNot,none]) : redR st = some (none :: st.drop 2) ∧ (st.drop 2).length + 2 = st.length:=by
 have h2:=J5y h
 match st,h2 with
 | a :: b :: t,h2 =>
  have e : a = none ∧ b = some wNot:=by simpa using h2
  obtain ⟨rfl,rfl⟩:=e
  exact ⟨J7C t,rfl⟩
theorem Ja3 {st : List Tk} (h : (st.take 3).reverse = [some wL,none,some wR] ∨ (st.take 3).reverse = [none,some wAnd,none] ∨ (st.take 3).reverse = [none,some wOr,none]) : redR st = some (none :: st.drop 3) ∧ (st.drop 3).length + 3 = st.length:=by
 have key : ∀ x y z : Tk,st.take 3 = [x,y,z] → ∃ t,st = x :: y :: z :: t:=fun x y z e=>by
  match st,e with
  | a :: b :: c :: t,e =>
   have e : a = x ∧ b = y ∧ c = z:=by simpa using e
   obtain ⟨rfl,rfl,rfl⟩:=e
   exact ⟨t,rfl⟩
 rcases h with h | h | h
 ·obtain ⟨t,rfl⟩:=key _ _ _ (J5y h)
  exact ⟨J8W t,rfl⟩
 ·obtain ⟨t,rfl⟩:=key _ _ _ (J5y h)
  exact ⟨J4V (.inl rfl) t,rfl⟩
 ·obtain ⟨t,rfl⟩:=key _ _ _ (J5y h)
  exact ⟨J4V (.inr rfl) t,rfl⟩
theorem Jdd {st : List Tk} (h1 : ¬ (st.take 2).reverse = [some wNot,none]) (h2 : ¬ (st.take 3).reverse = [some wL,none,some wR]) (h3 : ¬ (st.take 3).reverse = [none,some wAnd,none]) (h4 : ¬ (st.take 3).reverse = [none,some wOr,none]) : redR st = none:=by
 unfold redR
 split
 ·rename_i w t
  split
  ·rename_i e
   exact absurd (by rw [e]; rfl) h1
  ·split
   ·rename_i t'
    split
    ·rename_i e
     rcases e with rfl | rfl
     ·exact absurd rfl h3
     ·exact absurd rfl h4
    ·rfl
   ·rfl
 ·rename_i w v t
  split
  ·rename_i e
   exact absurd (by rw [e.1,e.2]; rfl) h2
  ·rfl
 ·rfl
theorem Run.snoc {s a f : List Tk} (h : Run s a f) : ∀ {t : Tk} {f' : List Tk},Nrm (t :: f) f' → Run s (a ++ [t]) f':=by
 induction h with
 | nil=>intro t f' n; exact .cons n .nil
 | cons n _ ih=>intro t f' n'; exact .cons n (ih n')
theorem J3h {H H' : Hp} {p : Addr} (s : Same H H') (h : H' p = none) : H p = none:=by
 cases e : H p with
 | none=>rfl
 | some o=>rw [s _ _ e] at h; cases h
noncomputable def lenL (H : Hp) (p : Addr) : Nat:=match H p with
 | some (.lst xs)=>xs.length
 | _=>0
theorem J3k {H : Hp} {p : Addr} {xs : List V} (h : H p = some (.lst xs)) : lenL H p = xs.length:=by unfold lenL; rw [h]
section
variable {P : Program} {w : World} {K : PySem.W.Frag} {mg : Str → Option Value} {base : Heap} {J6 Jd J5 Jf J2 Jm J3 J4 Jh Jj Jk Ja J9 Jg : Addr}
theorem J7l (tx : Tx K mg J6 Jd J5 Jf J2 Jm J3 J4 Jh Jj Jk Ja J9 Jg) : FnG P w K mg base "_law_taken" 1 ["_law_tokens_here"] (JcU K):=by
 refine tx.J7b.g J06 (fun _ _ _ _ _ _ us hl=>match us,hl with | [_],_=>rfl) (fun vs H Q E h=>?_) (fun f cdv A outer s H vs Q E hr h=>?_)
 ·obtain ⟨D,ts,rfl,_⟩:=h
  rfl
 ·obtain ⟨D,ts,rfl,hD,hl,q⟩:=h
  refine ⟨_,(Jb (Jn (i:=1) J06.nd rfl (Or.inl rfl) (JV J7))
   (Jb (J4q PassesOwn.never rfl (J5E (K:=K) rfl (pv 0)) (J1E (i:=2) J06.nd rfl (Or.inl rfl)) (Jb (J6O (J64 PySem.F.plainAttrs_list PySem.F.slot_list_append PySem.F.type_list_append J3l (pv 1) (J0 (pv 2) J7)))
   (Jb (Jn (i:=3) J06.nd rfl (Or.inl rfl) J2V)
   (Jc (J7B PassesOwn.never (J2u (pv 3)) (Jb (Jn (i:=3) J06.nd rfl (Or.inl rfl) J2V)
   (Jc (JQ (Jo (J2U (K:=K) rfl hr.units0) (Jy (JF (K:=K) rfl) (pv 1) (JB (J3Z J2P J1)) JD) (JV (J0 (Jl (l:=[110,111,116]) (by decide +kernel)) (J0 J1 J7))) (Ju _)) (Jb (Jn (i:=1) J06.nd rfl (Or.inl rfl) (Je J2l (Jy (JF (K:=K) rfl) (pv 1) JD (JB (J3Z J2P J1))) (JV (J0 J1 J7))))
   (Jc (Jn (i:=3) J06.nd rfl (Or.inl rfl) J2V))) (Jc (JQ (PW.pt (J3q (Jo (J2U (K:=K) rfl hr.units0) (Jy (JF (K:=K) rfl) (pv 1) (JB (J3Z J2P J1)) JD) (JV (J0 (Jl (l:=[40]) (by decide +kernel)) (J0 J1 (J0 (Jl (l:=[41]) (by decide +kernel)) J7)))) (Ju _)) (J3q (Jo (J2U (K:=K) rfl hr.units0) (Jy (JF (K:=K) rfl) (pv 1) (JB (J3Z J2P J1)) JD) (JV (J0 J1 (J0 (Jl (l:=[97,110,100]) (by decide +kernel)) (J0 J1 J7)))) (Ju _)) (J4s (Jo (J2U (K:=K) rfl hr.units0) (Jy (JF (K:=K) rfl) (pv 1) (JB (J3Z J2P J1)) JD) (JV (J0 J1 (J0 (Jl (l:=[111,114]) (by decide +kernel)) (J0 J1 J7)))) (Ju _)))))) (Jb (Jn (i:=1) J06.nd rfl (Or.inl rfl) (Je J2l (Jy (JF (K:=K) rfl) (pv 1) JD (JB (J3Z J2P J1))) (JV (J0 J1 J7))))
   (Jc (Jn (i:=3) J06.nd rfl (Or.inl rfl) J2V))) JE))))))))))
   (Jc (Jx (J2d (J2U (K:=K) rfl hr.units0) (pv 1) (JV (J0 J1 J7)) (Ju _)))))),?_⟩
  walk_at "st"
  walk_at "rd"
  intro p hp
  obtain ⟨H1,e1,hp1,s1⟩:=nwl (xs:=[]) hp
  rw [← e1]
  clear e1
  have hD1:=s1 _ _ hD
  have qD : SqL K H D (ts.map tkV):=SqL.of hD
  walk_at "rd"
  refine J5F (K:=K) (xs:=ts.map tkV) (fun i σ H2=>Here (∃ p st v1 v2,σ = [some (.ref D),some (.ref p),v1,v2] ∧ H p = none ∧ H2 p = some (.lst (st.reverse.map tkV)) ∧ st.length ≤ i ∧ Same H H2 ∧ Run [] (ts.take i) st))
   (Here.mk ⟨p,[],none,none,rfl,hp,hp1,Nat.le_refl _,s1,.nil⟩) (fun i σ H2 _ hv=>by obtain ⟨_,_,_,_,_,_,_,_,s,_⟩:=hv.out; exact s.seq qD) ?_ ?_
  ·rintro i x σ H2 hx hv
   obtain ⟨p,st,v1,v2,rfl,hpn,hp2,stl,s2,hR⟩:=hv.out
   clear hv hp1 hD1
   have hi : i < ts.length:=by have:=(List.getElem?_eq_some_iff.mp hx).1; rwa [List.length_map] at this
   obtain ⟨tk,htk,rfl⟩ : ∃ tk,ts[i]? = some tk ∧ x = tkV tk:=by
    rw [List.getElem?_map] at hx
    cases h : ts[i]? with
    | none=>rw [h] at hx; cases hx
    | some z=>rw [h] at hx; exact ⟨z,rfl,(Option.some.inj hx).symm⟩
   have et : ts.take (i + 1) = ts.take i ++ [tk]:=by
    rw [List.take_add_one,htk]
    rfl
   have sl2 : (st.reverse.map tkV).length ≤ 60:=by rw [List.length_map,List.length_reverse]; omega
   walk_at "rd"
   refine J7Z (fun σ H3=>Here (∃ p' st' b,σ = [some (.ref D),some (.ref p'),some (tkV tk),some (.bl b)] ∧ H p' = none ∧ H3 p' = some (.lst (st'.reverse.map tkV)) ∧ st'.length ≤ i + 1 ∧ Same H H3 ∧ (∀ f,Nrm st' f → Nrm (tk :: st) f) ∧ (b = false → redR st' = none)))
    (fun σ H3=>match σ with | [_,some (.ref p'),_,some (.bl b)]=>2 * lenL H3 p' + (if b = true then 1 else 0) | _=>0)
    (Here.mk ⟨p,tk :: st,true,rfl,hpn,by rw [List.reverse_cons,List.map_append]; exact Jr,by simp; omega,s2.upd hpn,fun f h=>h,fun z=>by cases z⟩) ?_ ?_
   ·rintro σ H3 hv
    obtain ⟨p',st',b,rfl,hpn',hp3,sl',s3,hN,hb⟩:=hv.out
    clear hv hp2
    have t2 : cutV (st'.reverse.map tkV) (some (-2)) none = ((st'.take 2).reverse).map tkV:=JbT st' 2 (by decide)
    have t3 : cutV (st'.reverse.map tkV) (some (-3)) none = ((st'.take 3).reverse).map tkV:=JbT st' 3 (by decide)
    have b2 : cutV (st'.reverse.map tkV) none (some (-2)) = ((st'.drop 2).reverse).map tkV:=JbN st' 2 (by decide)
    have b3 : cutV (st'.reverse.map tkV) none (some (-3)) = ((st'.drop 3).reverse).map tkV:=JbN st' 3 (by decide)
    have f2:=J6X (st'.take 2).reverse
    have f3:=J6X (st'.take 3).reverse
    have k2 : eqVs (((st'.take 2).reverse).map tkV) [T [110,111,116],V.int 1] = decide ((st'.take 2).reverse = [some wNot,none]):=J3e _ [some wNot,none]
    have k3 : eqVs (((st'.take 3).reverse).map tkV) [T [40],V.int 1,T [41]] = decide ((st'.take 3).reverse = [some wL,none,some wR]):=J3e _ [some wL,none,some wR]
    have k4 : eqVs (((st'.take 3).reverse).map tkV) [V.int 1,T [97,110,100],V.int 1] = decide ((st'.take 3).reverse = [none,some wAnd,none]):=J3e _ [none,some wAnd,none]
    have k5 : eqVs (((st'.take 3).reverse).map tkV) [V.int 1,T [111,114],V.int 1] = decide ((st'.take 3).reverse = [none,some wOr,none]):=J3e _ [none,some wOr,none]
    have m3 : lenL H3 p' = st'.length:=by rw [J3k hp3,List.length_map,List.length_reverse]
    walk_at "rd"
    refine ite2 (fun cb=>?_) (fun cb=>?_)
    ·subst cb
     walk_at "rd"
     intro P1a hP
     rw [t2]
     obtain ⟨H1a,ea,hq,sa⟩:=nwl (xs:=((st'.take 2).reverse).map tkV) hP
     rw [← ea]
     clear ea hP
     have hp3:=sa _ _ hp3
     have s3:=s3.trans sa
     clear sa
     walk_at "rd"
     intro P1b hP
     obtain ⟨H1b,ea,hq2,sa⟩:=nwl (xs:=[T [110,111,116],V.int 1]) hP
     rw [← ea]
     clear ea hP
     have hp3:=sa _ _ hp3
     have hq:=sa _ _ hq
     have s3:=s3.trans sa
     clear sa
     walk_at "rd"
     refine ite2 (fun c=>?_) (fun c=>?_)
     ·have c1 : eqVs (((st'.take 2).reverse).map tkV) [T [110,111,116],V.int 1] = true:=c
      rw [k2] at c1
      obtain ⟨er,el⟩:=Jdb (of_decide_eq_true c1)
      clear hq hq2
      walk_at "rd"
      intro P3 hP
      rw [b2]
      obtain ⟨H4,ea,hq,sa⟩:=nwl (xs:=((st'.drop 2).reverse).map tkV) hP
      rw [← ea]
      clear ea hP
      have s3:=s3.trans sa
      clear sa
      have lz : (((st'.drop 2).reverse).map tkV).length ≤ 100:=by rw [List.length_map,List.length_reverse]; omega
      walk_at "rd"
      intro P4 hP
      obtain ⟨H5,ea,hq2,sa⟩:=nwl (xs:=[V.int 1]) hP
      rw [← ea]
      clear ea hP
      have hq:=sa _ _ hq
      have s3:=s3.trans sa
      clear sa
      walk_at "rd"
      intro P5 hP
      have fr:=J3h s3 hP
      obtain ⟨H6,ea,hq3,sa⟩:=nwl (xs:=((st'.drop 2).reverse).map tkV ++ [V.int 1]) hP
      rw [← ea]
      clear ea hP
      have s3:=s3.trans sa
      walk_at "rd"
      have hq4 : H6 P5 = some (.lst ((none :: st'.drop 2).reverse.map tkV)):=by rw [List.reverse_cons,List.map_append]; exact hq3
      refine ⟨Here.mk ⟨P5,none :: st'.drop 2,true,rfl,fr,hq4,by simp; omega,s3,fun f hf=>hN f (.step er hf),fun z=>by cases z⟩,?_⟩
      show 2 * lenL H6 P5 + 1 < 2 * lenL H3 p' + 1
      rw [J3k hq4,m3]
      simp
      omega
     have c1 : ¬ (st'.take 2).reverse = [some wNot,none]:=fun z=>c (by
      show eqVs (((st'.take 2).reverse).map tkV) [T [110,111,116],V.int 1] = true
      rw [k2]
      exact decide_eq_true z)
     clear c hq hq2
     walk_at "rd"
     intro P2a hP
     rw [t3]
     obtain ⟨H2a,ea,hq,sa⟩:=nwl (xs:=((st'.take 3).reverse).map tkV) hP
     rw [← ea]
     clear ea hP
     have hp3:=sa _ _ hp3
     have s3:=s3.trans sa
     clear sa
     walk_at "rd"
     intro P2b hP
     obtain ⟨H2b,ea,hq2,sa⟩:=nwl (xs:=[T [40],V.int 1,T [41]]) hP
     rw [← ea]
     clear ea hP
     have hp3:=sa _ _ hp3
     have hq:=sa _ _ hq
     have s3:=s3.trans sa
     clear sa
     walk_at "rd"
     refine ite2 (fun c=>?_) (fun c=>?_)
     ·have c2 : eqVs (((st'.take 3).reverse).map tkV) [T [40],V.int 1,T [41]] = true:=c
      rw [k3] at c2
      obtain ⟨er,el⟩:=Ja3 (.inl (of_decide_eq_true c2))
      clear hq hq2
      walk_at "rd"
      intro P3 hP
      rw [b3]
      obtain ⟨H4,ea,hq,sa⟩:=nwl (xs:=((st'.drop 3).reverse).map tkV) hP
      rw [← ea]
      clear ea hP
      have s3:=s3.trans sa
      clear sa
      have lz : (((st'.drop 3).reverse).map tkV).length ≤ 100:=by rw [List.length_map,List.length_reverse]; omega
      walk_at "rd"
      intro P4 hP
      obtain ⟨H5,ea,hq2,sa⟩:=nwl (xs:=[V.int 1]) hP
      rw [← ea]
      clear ea hP
      have hq:=sa _ _ hq
      have s3:=s3.trans sa
      clear sa
      walk_at "rd"
      intro P5 hP
      have fr:=J3h s3 hP
      obtain ⟨H6,ea,hq3,sa⟩:=nwl (xs:=((st'.drop 3).reverse).map tkV ++ [V.int 1]) hP
      rw [← ea]
      clear ea hP
      have s3:=s3.trans sa
      walk_at "rd"
      have hq4 : H6 P5 = some (.lst ((none :: st'.drop 3).reverse.map tkV)):=by rw [List.reverse_cons,List.map_append]; exact hq3
      refine ⟨Here.mk ⟨P5,none :: st'.drop 3,true,rfl,fr,hq4,by simp; omega,s3,fun f hf=>hN f (.step er hf),fun z=>by cases z⟩,?_⟩
      show 2 * lenL H6 P5 + 1 < 2 * lenL H3 p' + 1
      rw [J3k hq4,m3]
      simp
      omega
     have d3 : ¬ (st'.take 3).reverse = [some wL,none,some wR]:=fun z=>c (by
      show eqVs (((st'.take 3).reverse).map tkV) [T [40],V.int 1,T [41]] = true
      rw [k3]
      exact decide_eq_true z)
     clear c hq hq2
     walk_at "rd"
     intro P3a hP
     rw [t3]
     obtain ⟨H3a,ea,hq,sa⟩:=nwl (xs:=((st'.take 3).reverse).map tkV) hP
     rw [← ea]
     clear ea hP
     have hp3:=sa _ _ hp3
     have s3:=s3.trans sa
     clear sa
     walk_at "rd"
     intro P3b hP
     obtain ⟨H3b,ea,hq2,sa⟩:=nwl (xs:=[V.int 1,T [97,110,100],V.int 1]) hP
     rw [← ea]
     clear ea hP
     have hp3:=sa _ _ hp3
     have hq:=sa _ _ hq
     have s3:=s3.trans sa
     clear sa
     walk_at "rd"
     refine ite2 (fun c=>?_) (fun c=>?_)
     ·have c2 : eqVs (((st'.take 3).reverse).map tkV) [V.int 1,T [97,110,100],V.int 1] = true:=c
      rw [k4] at c2
      obtain ⟨er,el⟩:=Ja3 (.inr (.inl (of_decide_eq_true c2)))
      clear hq hq2
      walk_at "rd"
      intro P3 hP
      rw [b3]
      obtain ⟨H4,ea,hq,sa⟩:=nwl (xs:=((st'.drop 3).reverse).map tkV) hP
      rw [← ea]
      clear ea hP
      have s3:=s3.trans sa
      clear sa
      have lz : (((st'.drop 3).reverse).map tkV).length ≤ 100:=by rw [List.length_map,List.length_reverse]; omega
      walk_at "rd"
      intro P4 hP
      obtain ⟨H5,ea,hq2,sa⟩:=nwl (xs:=[V.int 1]) hP
      rw [← ea]
      clear ea hP
      have hq:=sa _ _ hq
      have s3:=s3.trans sa
      clear sa
      walk_at "rd"
      intro P5 hP
      have fr:=J3h s3 hP
      obtain ⟨H6,ea,hq3,sa⟩:=nwl (xs:=((st'.drop 3).reverse).map tkV ++ [V.int 1]) hP
      rw [← ea]
      clear ea hP
      have s3:=s3.trans sa
      walk_at "rd"
      have hq4 : H6 P5 = some (.lst ((none :: st'.drop 3).reverse.map tkV)):=by rw [List.reverse_cons,List.map_append]; exact hq3
      refine ⟨Here.mk ⟨P5,none :: st'.drop 3,true,rfl,fr,hq4,by simp; omega,s3,fun f hf=>hN f (.step er hf),fun z=>by cases z⟩,?_⟩
      show 2 * lenL H6 P5 + 1 < 2 * lenL H3 p' + 1
      rw [J3k hq4,m3]
      simp
      omega
     have d4 : ¬ (st'.take 3).reverse = [none,some wAnd,none]:=fun z=>c (by
      show eqVs (((st'.take 3).reverse).map tkV) [V.int 1,T [97,110,100],V.int 1] = true
      rw [k4]
      exact decide_eq_true z)
     clear c hq hq2
     walk_at "rd"
     intro P4a hP
     rw [t3]
     obtain ⟨H4a,ea,hq,sa⟩:=nwl (xs:=((st'.take 3).reverse).map tkV) hP
     rw [← ea]
     clear ea hP
     have hp3:=sa _ _ hp3
     have s3:=s3.trans sa
     clear sa
     walk_at "rd"
     intro P4b hP
     obtain ⟨H4b,ea,hq2,sa⟩:=nwl (xs:=[V.int 1,T [111,114],V.int 1]) hP
     rw [← ea]
     clear ea hP
     have hp3:=sa _ _ hp3
     have hq:=sa _ _ hq
     have s3:=s3.trans sa
     clear sa
     walk_at "rd"
     refine ite2 (fun c=>?_) (fun c=>?_)
     ·have c2 : eqVs (((st'.take 3).reverse).map tkV) [V.int 1,T [111,114],V.int 1] = true:=c
      rw [k5] at c2
      obtain ⟨er,el⟩:=Ja3 (.inr (.inr (of_decide_eq_true c2)))
      clear hq hq2
      walk_at "rd"
      intro P3 hP
      rw [b3]
      obtain ⟨H4,ea,hq,sa⟩:=nwl (xs:=((st'.drop 3).reverse).map tkV) hP
      rw [← ea]
      clear ea hP
      have s3:=s3.trans sa
      clear sa
      have lz : (((st'.drop 3).reverse).map tkV).length ≤ 100:=by rw [List.length_map,List.length_reverse]; omega
      walk_at "rd"
      intro P4 hP
      obtain ⟨H5,ea,hq2,sa⟩:=nwl (xs:=[V.int 1]) hP
      rw [← ea]
      clear ea hP
      have hq:=sa _ _ hq
      have s3:=s3.trans sa
      clear sa
      walk_at "rd"
      intro P5 hP
      have fr:=J3h s3 hP
      obtain ⟨H6,ea,hq3,sa⟩:=nwl (xs:=((st'.drop 3).reverse).map tkV ++ [V.int 1]) hP
      rw [← ea]
      clear ea hP
      have s3:=s3.trans sa
      walk_at "rd"
      have hq4 : H6 P5 = some (.lst ((none :: st'.drop 3).reverse.map tkV)):=by rw [List.reverse_cons,List.map_append]; exact hq3
      refine ⟨Here.mk ⟨P5,none :: st'.drop 3,true,rfl,fr,hq4,by simp; omega,s3,fun f hf=>hN f (.step er hf),fun z=>by cases z⟩,?_⟩
      show 2 * lenL H6 P5 + 1 < 2 * lenL H3 p' + 1
      rw [J3k hq4,m3]
      simp
      omega
     have d5 : ¬ (st'.take 3).reverse = [none,some wOr,none]:=fun z=>c (by
      show eqVs (((st'.take 3).reverse).map tkV) [V.int 1,T [111,114],V.int 1] = true
      rw [k5]
      exact decide_eq_true z)
     clear c hq hq2
     refine ⟨Here.mk ⟨p',st',false,rfl,hpn',hp3,sl',s3,hN,fun _=>Jdd c1 d3 d4 d5⟩,?_⟩
     show 2 * lenL _ p' + 0 < 2 * lenL H3 p' + 1
     rw [J3k hp3,m3,List.length_map,List.length_reverse]
     omega
    ·have cb' : b = false:=Bool.eq_false_iff.mpr cb
     refine Here.mk ⟨p',st',_,_,rfl,hpn',hp3,by omega,s3,?_⟩
     rw [et]
     exact hR.snoc (hN _ (.done (hb cb')))
   ·rintro σ H' Q1 Q2 hQ ⟨v,e1,k,e2,h2⟩
    exact ⟨v,e1,k,e2,hQ _ _ h2⟩
  ·rintro σ H2 hv
   obtain ⟨p,st,v1,v2,rfl,hpn,hp2,stl,s2,hR⟩:=hv.out
   rw [List.length_map,List.take_length] at hR
   have f1:=J6X st.reverse
   have k1 : eqVs (st.reverse.map tkV) [V.int 1] = decide (st = [none]):=by
    have:=J3e st.reverse [none]
    rw [show ([none] : List Tk).map tkV = [V.int 1] from rfl] at this
    rw [this]
    by_cases e : st = [none]
    ·rw [decide_eq_true e,decide_eq_true (by rw [e]; rfl)]
    ·rw [decide_eq_false e,decide_eq_false (fun z=>e (J5y z))]
   walk_at "rd"
   intro p3 hp3
   obtain ⟨H3,e3,hp4,s3⟩:=nwl (xs:=[V.int 1]) hp3
   rw [← e3]
   clear e3
   have hp5:=s3 _ _ hp2
   walk_at "rd"
   have q1:=q H3 st (s2.trans s3) hR
   rw [← k1] at q1
   exact q1
end
noncomputable def Jb6 : Sp:=fun vs H Q _=>∃ t : List Nat,vs = [T t] ∧ t.length ≤ 99999 ∧ (60 < (Ji 32 t).length ∨ rdW 60 (Ji 32 t) = none) ∧ ∀ H',Same H H' → Q (.bl true) H'
noncomputable def Jc5 : Sp:=fun vs H Q _=>∃ t : List Nat,vs = [T t] ∧ t.length ≤ 99999 ∧ ∀ H',Same H H' → Q (.bl true) H'
theorem JcA {α : Type} (l : List α) (a b : Nat) : (cutN l (some (a : Int)) (some (b : Int))).length ≤ b - a:=by
 unfold cutN
 have e1 : HT.sIx l.length 0 (some (a : Int)) = min a l.length:=by
  show (if (a : Int) < 0 then ((a : Int) + (l.length : Int)).toNat else min (a : Int).toNat l.length) = _
  rw [if_neg (by omega),Int.toNat_natCast]
 have e2 : HT.sIx l.length l.length (some (b : Int)) = min b l.length:=by
  show (if (b : Int) < 0 then ((b : Int) + (l.length : Int)).toNat else min (b : Int).toNat l.length) = _
  rw [if_neg (by omega),Int.toNat_natCast]
 rw [e1,e2,List.length_take,List.length_drop]
 omega
theorem J7G (t : List Nat) : ∀ n,(J4H [32,111,114,32] (List.replicate n t)).length ≤ n * (t.length + 4)
 | 0=>Nat.zero_le _
 | 1=>by show t.length ≤ _; omega
 | n + 2=>by
  have ih:=J7G t (n + 1)
  show (t ++ [32,111,114,32] ++ J4H [32,111,114,32] (List.replicate (n + 1) t)).length ≤ _
  rw [List.length_append,List.length_append]
  show t.length + 4 + _ ≤ _
  have : (n + 2) * (t.length + 4) = (n + 1) * (t.length + 4) + (t.length + 4):=by rw [show n + 2 = (n + 1) + 1 by omega,Nat.succ_mul]
  omega
theorem Jbj (t : List Nat) (n : Nat) : ((List.replicate n t).map List.length).sum = n * t.length:=by
 rw [List.map_replicate,List.sum_replicate_nat]
section
variable {P : Program} {w : World} {K : PySem.W.Frag} {mg : Str → Option Value} {base : Heap} {J6 Jd J5 Jf J2 Jm J3 J4 Jh Jj Jk Ja J9 Jg : Addr}
theorem J5U (tx : Tx K mg J6 Jd J5 Jf J2 Jm J3 J4 Jh Jj Jk Ja J9 Jg) : FnG P w K mg base "_law_refused" 68 ["_law_text"] Jb6:=by
 have J1h:=J4w (P:=P) (w:=w) (base:=base) tx
 refine tx.J5S.g J1y (fun _ _ _ _ _ _ us hl=>match us,hl with | [_],_=>rfl) (fun vs H Q E h=>?_) (fun f cdv A outer s H vs Q E hr h=>?_)
 ·obtain ⟨t,rfl,_⟩:=h
  rfl
 ·obtain ⟨t,rfl,lt,hn,q⟩:=h
  refine ⟨_,(Jb (Jbe (i:=1) (CB:=J3) rfl rfl J1y.nd rfl rfl tx.J7r (Jaj (JcB J1h (hr.mono (by decide)) (J0 (pv 0) J7))) (fun _=>(Jb (Jn (i:=2) J1y.nd rfl (Or.inl rfl) (J5Y (Jz (J0H (K:=K) rfl) rfl tx.JC JK (J0 (pv 1) (J0 (J0W (v:=.ref Jg) rfl tx.J9V rfl) J7))) (J5Y (Jz (J0H (K:=K) rfl) rfl tx.JC JK (J0 (pv 1) (J0 (J0W (v:=.ref Jj) rfl tx.JaZ rfl) J7))) (J5Y (Jz (J0H (K:=K) rfl) rfl tx.JC JK (J0 (pv 1) (J0 (J0W (v:=.ref J9) rfl tx.J9k rfl) J7))) (J2t (Jz (J0H (K:=K) rfl) rfl tx.JC JK (J0 (pv 1) (J0 (J0W (v:=.ref Jh) rfl tx.J9X rfl) J7))))))))
   (Jb (Jn (i:=2) J1y.nd rfl (Or.inl rfl) (J5Y (pv 2) (J5Y (Jz (J0H (K:=K) rfl) rfl tx.JC JK (J0 (pv 1) (J0 (J0W (v:=.ref Jk) rfl tx.Jb0 rfl) J7))) (J2t (Jz (J0H (K:=K) rfl) rfl tx.JC JK (J0 (pv 1) (J0 (J0W (v:=.ref Ja) rfl tx.J9i rfl) J7)))))))
   (Jc (Jx (J2w (Jz (J0H (K:=K) rfl) rfl tx.JC JK (J0 (pv 1) (J0 (J0W (v:=.ref J4) rfl tx.J58 rfl) J7))) (J2w (Jz (J0H (K:=K) rfl) rfl tx.JC JK (J0 (pv 1) (J0 (JbY tx.J1C J4n) J7))) (J2t (JcC (pv 2)))))))))))
   (Jc (Jx J2V))),?_⟩
  walk_at "st"
  clear J1h
  walk_at "rd"
  refine ⟨fun _ H2 s2=>?_,fun r l0 hr'=>?_⟩
  ·refine ⟨J4,rfl,tx.J04,fun e he=>?_⟩
   obtain ⟨H3,e3,y3,s3⟩ : ∃ H3,H3 = upd H2 e (XO e J4) ∧ H3 e = some (XO e J4) ∧ Same H2 H3:=⟨_,rfl,Jr,J0m he _⟩
   rw [← e3]
   have xi:=tx.J9b
   walk_at "rd"
   refine ⟨.inl ⟨_,rfl,rfl⟩,tx.J0j,?_⟩
   walk_at "rd"
   refine ⟨.inl ⟨_,rfl,rfl⟩,tx.J0p,?_⟩
   walk_at "rd"
   refine ⟨.inl ⟨_,rfl,rfl⟩,tx.J09,?_⟩
   walk_at "rd"
   refine ⟨.inl ⟨_,rfl,rfl⟩,tx.J0i,?_⟩
   walk_at "rd"
   refine ⟨.inl ⟨_,rfl,rfl⟩,tx.J0o,?_⟩
   walk_at "rd"
   refine ⟨.inl ⟨_,rfl,rfl⟩,tx.J0b,?_⟩
   walk_at "rd"
   refine ⟨.inl ⟨_,rfl,rfl⟩,tx.J0g,?_⟩
   walk_at "rd"
   refine ⟨.inr ⟨_,rfl,rfl⟩,tx.JZ,?_⟩
   walk_at "rd"
   exact q H3 (s2.trans s3)
  ·rcases hn with h | h
   ·omega
   ·rw [h] at hr'
    cases hr'
local macro_rules | `(tactic| walk_at "lk")=>`(tactic| first | exact wl _ | exact J99 _ _ _ | exact J7W _ _ _ | exact J8T _ _ _ | exact J8S _ _ | exact J7O _ _ | exact J7P _)
theorem J7w (tx : Tx K mg J6 Jd J5 Jf J2 Jm J3 J4 Jh Jj Jk Ja J9 Jg) : FnG P w K mg base "_law_right" 130 ["_law_text"] Jc5:=by
 have J1h:=J4w (P:=P) (w:=w) (base:=base) tx
 have J3p:=J5U (P:=P) (w:=w) (base:=base) tx
 have J3T:=J6e (P:=P) (w:=w) (base:=base) tx
 have J4y:=J7l (P:=P) (w:=w) (base:=base) tx
 refine tx.J79.g J27 (fun _ _ _ _ _ _ us hl=>match us,hl with | [_],_=>rfl) (fun vs H Q E h=>?_) (fun f cdv A outer s H vs Q E hr h=>?_)
 ·obtain ⟨t,rfl,_⟩:=h
  rfl
 ·obtain ⟨t,rfl,lt,q⟩:=h
  refine ⟨_,(Jb (Jn (i:=1) J27.nd rfl (Or.inl rfl) (J3m (K:=K) rfl (pv 0) (J0 (Jl (l:=[32]) (by decide +kernel)) J7)))
   (Jb (JQ (PW.pt (J3q (Jo J92 (Jz (JJ (K:=K) rfl) rfl tx.J0B PySem.boot_len (J0 (pv 1) J7)) J1 (Ju _)) (J4s (J6R (J2u (JH J4y (hr.mono (by decide)) (J0 (JH J3T (hr.mono (by decide)) (J0 (pv 1) J7)) J7))))))) (Jc (Jx (JH J3p (hr.mono (by decide)) (J0 (pv 0) J7)))) JE)
   (Jb (Jn (i:=2) J27.nd rfl (Or.inl rfl) Jcw)
   (Jb (JbJ rfl (Jc (Jn (i:=2) J27.nd rfl (Or.inl rfl) (J4W (P:=P) (w:=w) (K:=K) (mg:=mg) (base:=base) hr (J2v J1h (hr.mono (by decide)) Jak (J0 (pv 0) J7)) rfl rfl rfl rfl rfl))))
   (Jb (JQ (J6R (J2u (Jz J9n rfl tx.JC JK (J0 (pv 2) (J0 (JbY tx.J5l J4h) J7))))) (Jc (Jx J2V)) JE)
   (Jc (Jx (J2d J02 (J4W (P:=P) (w:=w) (K:=K) (mg:=mg) (base:=base) hr (J2v J1h (hr.mono (by decide)) Jak (J0 (pv 2) J7)) rfl rfl rfl rfl rfl) (pv 2) (Ju _))))))))),?_⟩
  walk_at "st"
  clear J1h J3p J3T J4y
  have lt2 : t.length ≤ 100000:=by omega
  walk_at "rd"
  intro p hp
  obtain ⟨H1,e1,hp1,s1⟩:=nwl (xs:=(Ji 32 t).map T) hp
  rw [← e1]
  clear e1
  have q1 : SqL K H1 p ((Ji 32 t).map T):=SqL.of hp1
  walk_at "rd"
  refine ite2 (fun c=>?_) (fun c=>?_)
  ·have c' : 60 < (Ji 32 t).length:=by have:=of_decide_eq_true c; rw [List.length_map] at this; omega
   have hn : 60 < (Ji 32 t).length ∨ rdW 60 (Ji 32 t) = none:=.inl c'
   walk_at "rd"
   intro H2 s2
   exact q H2 (s1.trans s2)
  have c' : (Ji 32 t).length ≤ 60:=by have:=of_decide_eq_false (Bool.eq_false_iff.mpr c); rw [List.length_map] at this; omega
  have w1 : ∀ w ∈ Ji 32 t,w.length ≤ 100000:=fun w hw=>by have:=J40 t w hw; omega
  clear c
  walk_at "rd"
  intro p2 H2 ts s2 hp2 hT htl
  walk_at "rd"
  intro H3 f3 s3 hRun
  have ag:=Jdi hT hRun c'
  walk_at "rd"
  refine ite2 (fun c=>?_) (fun c=>?_)
  ·have c2 : (rdW 60 (Ji 32 t)).isSome = false:=by
    rw [← ag]
    cases z : decide (f3 = [none]) with
    | false=>rfl
    | true=>rw [z] at c; cases c
   have hn : 60 < (Ji 32 t).length ∨ rdW 60 (Ji 32 t) = none:=.inr (by
    cases h : rdW 60 (Ji 32 t) with
    | none=>rfl
    | some r=>rw [h] at c2; cases c2)
   walk_at "rd"
   intro H4 s4
   exact q H4 (s1.trans (s2.trans (s3.trans s4)))
  have c2 : (rdW 60 (Ji 32 t)).isSome = true:=by
   rw [← ag]
   cases z : decide (f3 = [none]) with
   | true=>rfl
   | false=>rw [z] at c; exact absurd rfl c
  obtain ⟨r,hr'⟩:=Option.isSome_iff_exists.mp c2
  obtain ⟨ro,rz,rl,rw',rr⟩:=Jaw hr' c'
  have s03:=s1.trans (s2.trans s3)
  have Gt:=J9Y (P:=P) (w:=w) (base:=base) tx 60 r ro rz rw'
  have rl2 : r.tx.length ≤ 99999:=by omega
  clear c c2 ag hRun hT hp2 hp1 q1 s1 s2 s3 w1 htl
  walk_at "rd"
  refine ⟨fun hb=>absurd hb ?_,fun r2 _ hr2 a H4 s4 hR4=>?_⟩
  ·rintro (h | h)
   ·omega
   ·rw [h] at hr'; cases hr'
  rw [hr'] at hr2
  cases hr2
  obtain ⟨dx,fs,ob,_,_,nt⟩:=hR4.obj
  walk_at "rd"
  refine ⟨fun hb=>absurd hb ?_,fun r2 _ hr2 a2 H5 s5 hR5=>?_⟩
  ·rintro (h | h)
   ·omega
   ·rw [h] at rr; cases rr
  rw [rr] at hr2
  cases hr2
  obtain ⟨dx2,fs2,ob2,_,_,nt2⟩:=hR5.obj
  have dm : decide (T r.tx = T r.tx) = true:=decide_eq_true rfl
  clear ob hR4
  walk_at "rd"
  rw [dm]
  exact q H5 (s03.trans (s4.trans s5))
theorem Jcf {f : Addr} {fd : FuncData} (tx : Tx K mg J6 Jd J5 Jf J2 Jm J3 J4 Jh Jj Jk Ja J9 Jg) (F : Fun K "law" "law" J2x f fd) : FnOk P w K mg base CX0 140 f fd ["_law_script"] (sp_law K):=by
 have JI:=J5N (P:=P) (w:=w) (base:=base) tx
 have J4u:=J7z (P:=P) (w:=w) (base:=base) tx
 have J36:=J9d (P:=P) (w:=w) (base:=base) tx
 have J5c:=J89 (P:=P) (w:=w) (base:=base) tx
 have J3o:=J5I (P:=P) (w:=w) (base:=base) tx
 have J2Z:=J7w (P:=P) (w:=w) (base:=base) tx
 refine F.ok J2K (fun vs H Q E h=>?_) (fun cdv A outer s H vs Q E hr h=>?_)
 ·obtain ⟨a,ns,rfl,_⟩:=h
  rfl
 ·obtain ⟨sc,ns,rfl,hS,hns,q⟩:=h
  refine ⟨_,(Jb (J4q PassesOwn.never rfl (J67 rfl tx.J2M (J0 J1 J7)) (J1E (i:=1) J2K.nd rfl (Or.inl rfl)) (Jc (JQ (J6R (J2u (JH J2Z (hr.mono (by decide)) (J0 (JH J36 (hr.mono (by decide)) (J0 (JH J4u (hr.mono (by decide)) (J0 (JH JI (hr.mono (by decide)) (J0 (pv 0) (J0 (Je JN (pv 1) J1) J7))) (J0 (pv 1) J7))) J7)) J7)))) (Jc (Jx J2V)) JE)))
   (Jb (Jn (i:=2) J2K.nd rfl (Or.inr rfl) (JH J5c (hr.mono (by decide)) (J0 (J4Y (osc:=J8 J2x) (ON:=["_law_script","_law_k","_law_text","_law_cell"]) (N:=["_law_k","_law_script"]) (js:=[none,some 0]) ⟨rfl,by decide +kernel,by decide +kernel,by decide +kernel,rfl,by decide +kernel⟩ rfl rfl rfl (J9u rfl tx.J2M (J0 J1 (J0 (Je JU J1 (Je JN (JH JI (hr.mono (by decide)) (J0 (pv 0) (J0 J1 J7))) J1)) J7))) (fun _ _ _ _ _=>J1E (i:=0) (show List.Nodup (["_law_k","_law_script"] : List Str) from by decide +kernel) rfl (Or.inl rfl)) (fun _ _ _ _ _=>J5r) (fun _ _ _ _ _=>(JH JI (hr.mono (by decide)) (J0 (pv 1) (J0 (pv 0) J7))))) J7)))
   (Jb (J2T (JQ (Jo J02 (Je JN (Je JM (JH JI (hr.mono (by decide)) (J0 (pv 0) (J0 J1 J7))) J1) J1) J1 (Ju _)) (Jc (Jn (i:=2) J2K.nd rfl (Or.inr rfl) (J7R (K:=K) rfl (Jl (l:=[32,111,114,32]) (by decide +kernel)) (J0 (J4Y (osc:=J8 J2x) (ON:=["_law_script","_law_k","_law_text","_law_cell"]) (N:=["_law_k","_law_text"]) (js:=[none,some 2]) ⟨rfl,by decide +kernel,by decide +kernel,by decide +kernel,rfl,by decide +kernel⟩ rfl rfl rfl (J67 rfl tx.J2M (J0 (Je JU J1 (Je JN (Je JM (JH JI (hr.mono (by decide)) (J0 (pv 0) (J0 J1 J7))) J1) J1)) J7)) (fun _ _ _ _ _=>J1E (i:=0) (show List.Nodup (["_law_k","_law_text"] : List Str) from by decide +kernel) rfl (Or.inl rfl)) (fun _ _ _ _ _=>J5r) (fun _ _ _ _ _=>(pv 1))) J7)))) JE))
   (Jb (J2T (JQ (Jo J02 (Je JN (Je JM (JH JI (hr.mono (by decide)) (J0 (pv 0) (J0 J1 J7))) J1) J1) J1 (Ju _)) (Jc (Jn (i:=2) J2K.nd rfl (Or.inr rfl) (Je Js (Je J35 (Jl (l:=[110,111,116,32]) (by decide +kernel)) (Je JaP (Je JU J1 (Je JN (Je JM (JH JI (hr.mono (by decide)) (J0 (pv 0) (J0 J1 J7))) J1) J1)) (Jz (JJ (K:=K) rfl) rfl tx.J0B PySem.boot_len (J0 (J3m (K:=K) rfl (pv 2) (J0 (Jl (l:=[32]) (by decide +kernel)) J7)) J7)))) (pv 2)))) JE))
   (Jb (J2T (JQ (Jo J02 (Je JN (JH JI (hr.mono (by decide)) (J0 (pv 0) (J0 J1 J7))) J1) J1 (Ju _)) (Jc (Jn (i:=2) J2K.nd rfl (Or.inr rfl) (Je Js (Je Js (pv 2) (Jl (l:=[32,97,110,100,32]) (by decide +kernel))) (JH J36 (hr.mono (by decide)) (J0 (Je JM (JH JI (hr.mono (by decide)) (J0 (pv 0) (J0 J1 J7))) J1) J7))))) JE))
   (Jb (J2T (JQ (Jo J02 (Je JN (JH JI (hr.mono (by decide)) (J0 (pv 0) (J0 J1 J7))) J1) J1 (Ju _)) (Jc (Jn (i:=2) J2K.nd rfl (Or.inr rfl) (Je Js (Je Js (JH J36 (hr.mono (by decide)) (J0 (Je JM (JH JI (hr.mono (by decide)) (J0 (pv 0) (J0 J1 J7))) J1) J7)) (Jl (l:=[32,111,114,32]) (by decide +kernel))) (pv 2)))) JE))
   (Jb (J4q PassesOwn.never rfl (J5E (K:=K) rfl (Jy (JF (K:=K) rfl) (pv 0) (JB J1) (JB (Je JU J1 (Je JN (Je JM (JH JI (hr.mono (by decide)) (J0 (pv 0) (J0 J1 J7))) J1) J1))))) (J1E (i:=3) J2K.nd rfl (Or.inl rfl)) (Jc (Jn (i:=2) J2K.nd rfl (Or.inr rfl) (JH J3o (hr.mono (by decide)) (J0 (pv 2) (J0 (pv 3) J7))))))
   (Jc (Jx (JH J2Z (hr.mono (by decide)) (J0 (pv 2) J7))))))))))),?_⟩
  walk_at "st"
  clear JI J4u J36 J5c J3o J2Z
  walk_at "rd"
  refine J9l (fun i σ H2=>Here (∃ v1,σ = [some (.ref sc),v1,none,none] ∧ Same H H2)) (Here.mk ⟨none,rfl,Same.refl _⟩) ?_ ?_
  ·rintro i σ H2 hi hv
   obtain ⟨v1,rfl,s2⟩:=hv.out
   have hS2:=s2.seq hS
   clear hv
   have i1 : (0 : Int) + (i : Int) ≤ 10:=by omega
   have i0 : (0 : Int) ≤ 0 + (i : Int):=by omega
   walk_at "rd"
   intro z0
   walk_at "rd"
   intro z1
   walk_at "rd"
   intro t1 H3 l1 s3
   have l1' : t1.length ≤ 99999:=by omega
   walk_at "rd"
   intro H4 s4
   walk_at "rd"
   exact Here.mk ⟨_,rfl,s2.trans (s3.trans s4)⟩
  rintro σ H2 hv
  obtain ⟨v1,rfl,s2⟩:=hv.out
  have hS2:=s2.seq hS
  clear hv
  walk_at "rd"
  intro z0
  have z00 : 0 ≤ z0 % 8:=Int.emod_nonneg _ (by decide)
  have z01 : z0 % 8 < 8:=Int.emod_lt_of_pos _ (by decide)
  walk_at "rd"
  refine J81 (fun _ y=>∃ n,y = .int n) (J4I 1 (2 + z0 % 8 - 1).toNat) ?_ (fun x hx H' s' R hR=>?_) (fun D H3 ys nD s3 hlen hP hD=>?_)
  ·rw [List.length_map,List.length_range]; omega
  ·obtain ⟨k,hk,rfl⟩:=List.mem_map.mp hx
   have hS':=s'.seq hS2
   have k0 : (0 : Int) ≤ 1 + ((k : Nat) : Int):=by omega
   walk_at "rd"
   exact fun v=>hR _ H' ⟨v,rfl⟩ (Same.refl _)
  rw [List.length_map,List.length_range] at hlen
  obtain ⟨cs,rfl,_⟩:=Jbq (ys:=ys) fun y hy=>by
   obtain ⟨j,hj,rfl⟩:=List.mem_iff_getElem.mp hy
   exact hP j _ _ (List.getElem?_eq_getElem (by rw [List.length_map,List.length_range]; omega)) (List.getElem?_eq_getElem hj)
  rw [List.length_map] at hlen
  have qc : SqL K H3 D (cs.map V.int):=SqL.of hD
  have c0 : 1 ≤ cs.length:=by omega
  have c1 : cs.length ≤ 8:=by omega
  have s03:=s2.trans s3
  clear hP hD nD s2 s3 hS2
  walk_at "rd"
  intro t4 H4 l4 s4
  have s04:=s03.trans s4
  have hS4:=s04.seq hS
  clear qc s03 s4
  walk_at "rd"
  refine tCut.mk (fun σ' H'=>Here (∃ v t,σ' = [some (.ref sc),v,some (T t),none] ∧ t.length ≤ 4100 ∧ Same H H')) ?_ ?_
  ·walk_at "rd"
   intro z1
   walk_at "rd"
   refine ite2 (fun _=>?_) (fun _=>?_)
   ·walk_at "rd"
    intro z2
    have n0 : 0 ≤ z2 / 64 % 13:=Int.emod_nonneg _ (by decide)
    have n1 : z2 / 64 % 13 < 13:=Int.emod_lt_of_pos _ (by decide)
    walk_at "rd"
    refine J81 (fun _ y=>y = T t4) (J4I 0 (1 + z2 / 64 % 13).toNat) ?_ (fun x hx H' s' R hR=>?_) (fun D2 H6 ys nD s6 hlen hP hD=>?_)
    ·rw [List.length_map,List.length_range]; omega
    ·walk_at "rd"
     exact hR _ H' rfl (Same.refl _)
    rw [List.length_map,List.length_range] at hlen
    obtain ⟨n,hn⟩ : ∃ n,n = (1 + z2 / 64 % 13).toNat:=⟨_,rfl⟩
    have hys : ys = (List.replicate n t4).map T:=by
     rw [List.map_replicate,List.eq_replicate_iff]
     refine ⟨by omega,fun y hy=>?_⟩
     obtain ⟨j,hj,rfl⟩:=List.mem_iff_getElem.mp hy
     exact hP j _ _ (List.getElem?_eq_getElem (by rw [List.length_map,List.length_range]; omega)) (List.getElem?_eq_getElem hj)
    subst hys
    have qW : SqL K H6 D2 ((List.replicate n t4).map T):=SqL.of hD
    have nb : n * t4.length ≤ 13 * 310:=Nat.mul_le_mul (by omega) l4
    have bW : ((List.replicate n t4).map List.length).sum + (List.replicate n t4).length * [32,111,114,32].length ≤ 16777216:=by
     rw [Jbj,List.length_replicate]
     show _ + n * 4 ≤ _
     omega
    have jW:=J7G t4 n
    have jW2 : n * (t4.length + 4) ≤ 13 * 314:=Nat.mul_le_mul (by omega) (by omega)
    clear hP hD nD
    walk_at "rd"
    exact Here.mk ⟨_,_,rfl,by omega,s04.trans s6⟩
   ·exact Here.mk ⟨_,_,rfl,by omega,s04⟩
  rintro σ' H5 hv
  obtain ⟨v,t5,rfl,l5,s5⟩:=hv.out
  have hS5:=s5.seq hS
  clear hv s04 hS4 l4 t4
  walk_at "rd"
  refine tCut.mk (fun σ' H'=>Here (∃ v t,σ' = [some (.ref sc),v,some (T t),none] ∧ t.length ≤ 4350 ∧ Same H H')) ?_ ?_
  ·walk_at "rd"
   intro z1
   walk_at "rd"
   refine ite2 (fun _=>?_) (fun _=>?_)
   ·walk_at "rd"
    intro z2
    have n0 : 0 ≤ z2 / 256 % 5:=Int.emod_nonneg _ (by decide)
    have n1 : z2 / 256 % 5 < 5:=Int.emod_lt_of_pos _ (by decide)
    have l5' : t5.length ≤ 100000:=by omega
    walk_at "rd"
    intro p6 hp6
    obtain ⟨H6,e6,hp7,s6⟩:=nwl (xs:=(Ji 32 t5).map T) hp6
    rw [← e6]
    clear e6
    have q6 : SqL K H6 p6 ((Ji 32 t5).map T):=SqL.of hp7
    have wl5:=J2Q 32 t5
    have b0 : (-1000000 : Int) ≤ 58 + z2 / 256 % 5 - (((Ji 32 t5).map T).length : Nat):=by rw [List.length_map]; omega
    have b1 : 58 + z2 / 256 % 5 - (((Ji 32 t5).map T).length : Nat) ≤ (1000 : Int):=by rw [List.length_map]; omega
    walk_at "rd"
    intro t6 l6
    have l6' : t6.length ≤ 4 * 62:=Nat.le_trans l6 (Nat.mul_le_mul (Nat.le_refl 4) (by rw [List.length_map]; omega))
    walk_at "rd"
    refine Here.mk ⟨_,_,rfl,?_,s5.trans s6⟩
    rw [List.length_append]
    omega
   ·exact Here.mk ⟨_,_,rfl,by omega,s5⟩
  rintro σ' H6 hv
  obtain ⟨v,t6,rfl,l6,s6⟩:=hv.out
  have hS6:=s6.seq hS
  clear hv s5 hS5 l5 t5
  walk_at "rd"
  refine tCut.mk (fun σ' H'=>Here (∃ v t,σ' = [some (.ref sc),v,some (T t),none] ∧ t.length ≤ 4420 ∧ Same H H')) ?_ ?_
  ·walk_at "rd"
   intro z1
   walk_at "rd"
   refine ite2 (fun _=>?_) (fun _=>?_)
   ·walk_at "rd"
    intro z2
    walk_at "rd"
    intro t7 H7 l7 s7
    walk_at "rd"
    refine Here.mk ⟨_,_,rfl,?_,s6.trans s7⟩
    simp only [List.length_append,List.length_cons,List.length_nil]
    omega
   ·exact Here.mk ⟨_,_,rfl,by omega,s6⟩
  rintro σ' H7 hv
  obtain ⟨v,t7,rfl,l7,s7⟩:=hv.out
  have hS7:=s7.seq hS
  clear hv s6 hS6 l6 t6
  walk_at "rd"
  refine tCut.mk (fun σ' H'=>Here (∃ v t,σ' = [some (.ref sc),v,some (T t),none] ∧ t.length ≤ 4490 ∧ Same H H')) ?_ ?_
  ·walk_at "rd"
   intro z1
   walk_at "rd"
   refine ite2 (fun _=>?_) (fun _=>?_)
   ·walk_at "rd"
    intro z2
    walk_at "rd"
    intro t8 H8 l8 s8
    walk_at "rd"
    refine Here.mk ⟨_,_,rfl,?_,s7.trans s8⟩
    simp only [List.length_append,List.length_cons,List.length_nil]
    omega
   ·exact Here.mk ⟨_,_,rfl,by omega,s7⟩
  rintro σ' H8 hv
  obtain ⟨v,t8,rfl,l8,s8⟩:=hv.out
  have hS8:=s8.seq hS
  clear hv s7 hS7 l7 t7
  walk_at "rd"
  intro z9
  have n0 : 0 ≤ z9 / 64 % 4:=Int.emod_nonneg _ (by decide)
  have n1 : z9 / 64 % 4 < 4:=Int.emod_lt_of_pos _ (by decide)
  walk_at "rd"
  intro p9 hp9
  obtain ⟨H9,e9,hp10,s9⟩:=nwl (xs:=cutV (ns.map V.int) (some 9) (some (9 + z9 / 64 % 4))) hp9
  rw [← e9]
  clear e9
  have q9 : SqL K H9 p9 ((cutN ns (some 9) (some (9 + z9 / 64 % 4))).map V.int):=by rw [← J7I]; exact SqL.of hp10
  have c3 : (cutN ns (some 9) (some (9 + z9 / 64 % 4))).length ≤ 3:=by
   have:=JcA ns 9 (9 + (z9 / 64 % 4).toNat)
   rw [show (((9 + (z9 / 64 % 4).toNat : Nat)) : Int) = 9 + z9 / 64 % 4 by omega] at this
   have e9 : ((9 : Nat) : Int) = 9:=rfl
   rw [e9] at this
   omega
  obtain ⟨xs,hxs⟩ : ∃ xs,xs = cutN ns (some 9) (some (9 + z9 / 64 % 4)):=⟨_,rfl⟩
  rw [← hxs] at q9 c3
  clear hxs hp10 hp9
  have s09:=s8.trans s9
  walk_at "rd"
  refine J5F (K:=K) (xs:=xs.map V.int) (fun i σ H2=>Here (∃ v1 v2 t,σ = [some (.ref sc),v1,some (T t),v2] ∧ t.length + 20 ≤ 4510 * 2 ^ i ∧ Same H9 H2))
   (Here.mk ⟨_,_,t8,rfl,by show _ ≤ 4510 * 1; omega,Same.refl _⟩) (fun i σ H2 _ hv=>by obtain ⟨_,_,_,_,_,s⟩:=hv.out; exact s.seq q9) ?_ ?_
  ·rintro i x σ H2 hx hv
   obtain ⟨v1,v2,t,rfl,tl,s2⟩:=hv.out
   have hi : i < xs.length:=by have:=(List.getElem?_eq_some_iff.mp hx).1; rwa [List.length_map] at this
   obtain ⟨n,rfl⟩ : ∃ n,x = .int n:=by
    obtain ⟨n,_,e⟩:=List.mem_map.mp (List.mem_of_getElem? hx)
    exact ⟨n,e.symm⟩
   have i2 : i = 0 ∨ i = 1 ∨ i = 2:=by omega
   have p2 : 2 ^ i ≤ 4:=by rcases i2 with rfl | rfl | rfl <;> decide
   have tl2 : t.length ≤ 20000:=by omega
   clear hv hx
   walk_at "rd"
   intro t' H3 l3 s3
   walk_at "rd"
   refine Here.mk ⟨_,_,t',rfl,?_,s2.trans s3⟩
   rw [Nat.pow_succ]
   omega
  ·rintro σ H2 hv
   obtain ⟨v1,v2,t,rfl,tl,s2⟩:=hv.out
   rw [List.length_map] at tl
   have i2 : xs.length = 0 ∨ xs.length = 1 ∨ xs.length = 2 ∨ xs.length = 3:=by omega
   have p2 : 2 ^ xs.length ≤ 8:=by rcases i2 with h | h | h | h <;> rw [h] <;> decide
   have tl2 : t.length ≤ 99999:=by omega
   clear hv
   walk_at "rd"
   intro H3 s3
   exact q H3
end
open PySem.W in
theorem all_mk {l : OpenLaw} {w : World} {K : Frag} {h : Heap} {mg : Str → Option Value} {fa J6 Jd J5 Jf J2 Jm J3 J4 Jh Jj Jk Ja J9 Jg q1 q2 q3 q4 q5 q6 q7 q8 q9 q10 q11 q12 q13 q14 q15 q16 q17 q18 q19 q20 q21 q22 q23 q24 q25 q26 q27 q28 q29 q30 q31 q32 q33 q34 q35 q36 q37 q38 : Addr} (X : K.In h) (G : h.Ns mainGlobals mg) (hfa : mg "law" = some (.ref fa))
  {od1 an1 od2 an2 od3 an3 od4 an4 od5 an5 od6 an6 od7 an7 od8 an8 od9 an9 od10 an10 od11 an11 od12 an12 od13 an13 od14 an14 od15 an15 od16 an16 od17 an17 od18 an18 od19 an19 od20 an20 od21 an21 od22 an22 od23 an23 od24 an24 od25 an25 od26 an26 od27 an27 od28 an28 od29 an29 od30 an30 od31 an31 od32 an32 od33 an33 od34 an34 od35 an35 od36 an36 od37 an37 od38 an38 : Option Addr} {sl1 sl2 sl3 sl4 sl5 sl6 sl7 sl8 sl9 sl10 sl11 sl12 sl13 sl14 sl15 sl16 sl17 sl18 sl19 sl20 sl21 sl22 sl23 sl24 sl25 sl26 sl27 sl28 sl29 sl30 sl31 sl32 sl33 sl34 sl35 sl36 sl37 sl38 : Array (Option Value)} {oc1 kV1 dc1 pm1 cd1 ct1 oc2 kV2 dc2 pm2 cd2 ct2 oc3 kV3 dc3 pm3 cd3 ct3 oc4 kV4 dc4 pm4 cd4 ct4 oc5 kV5 dc5 pm5 cd5 ct5 oc6 kV6 dc6 pm6 cd6 ct6 oc7 kV7 dc7 pm7 cd7 ct7 oc8 kV8 dc8 pm8 cd8 ct8 oc9 kV9 dc9 pm9 cd9 ct9 oc10 kV10 dc10 pm10 cd10 ct10 oc11 kV11 dc11 pm11 cd11 ct11 oc12 kV12 dc12 pm12 cd12 ct12 oc13 kV13 dc13 pm13 cd13 ct13 oc14 kV14 dc14 pm14 cd14 ct14 oc15 kV15 dc15 pm15 cd15 ct15 oc16 kV16 dc16 pm16 cd16 ct16 oc17 kV17 dc17 pm17 cd17 ct17 oc18 kV18 dc18 pm18 cd18 ct18 oc19 kV19 dc19 pm19 cd19 ct19 oc20 kV20 dc20 pm20 cd20 ct20 oc21 kV21 dc21 pm21 cd21 ct21 oc22 kV22 dc22 pm22 cd22 ct22 oc23 kV23 dc23 pm23 cd23 ct23 oc24 kV24 dc24 pm24 cd24 ct24 oc25 kV25 dc25 pm25 cd25 ct25 oc26 kV26 dc26 pm26 cd26 ct26 oc27 kV27 dc27 pm27 cd27 ct27 oc28 kV28 dc28 pm28 cd28 ct28 oc29 kV29 dc29 pm29 cd29 ct29 oc30 kV30 dc30 pm30 cd30 ct30 oc31 kV31 dc31 pm31 cd31 ct31 oc32 kV32 dc32 pm32 cd32 ct32 oc33 kV33 dc33 pm33 cd33 ct33 oc34 kV34 dc34 pm34 cd34 ct34 oc35 kV35 dc35 pm35 cd35 ct35 oc36 kV36 dc36 pm36 cd36 ct36 oc37 kV37 dc37 pm37 cd37 ct37 oc38 kV38 dc38 pm38 cd38 ct38 : Value}
  {tk_MOST_WORDS tk_MARK_SIGNS tk_WORD_SIGNS tk_MANY_FIGURES tk_DAYS_FIGURES : Tok}
  (J6H : nsIn K mainGlobals "Never" = some (some (.ref J6)))
  (J8m : nsIn K mainGlobals "Most" = some (some (.ref Jd)))
  (J6p : nsIn K mainGlobals "Least" = some (some (.ref J5)))
  (J8h : nsIn K mainGlobals "Both" = some (some (.ref Jf)))
  (J5d : nsIn K mainGlobals "Either" = some (some (.ref J2)))
  (J9Z : nsIn K mainGlobals "Not" = some (some (.ref Jm)))
  (J33 : nsIn K mainGlobals "RotaError" = some (some (.ref J3)))
  (J54 : nsIn K mainGlobals "NoRule" = some (some (.ref J4)))
  (J5o : nsIn K mainGlobals "NoName" = some (some (.ref Jh)))
  (J6t : nsIn K mainGlobals "NoDay" = some (some (.ref Jj)))
  (J6l : nsIn K mainGlobals "NoRow" = some (some (.ref Jk)))
  (J4f : nsIn K mainGlobals "TooWide" = some (some (.ref Ja)))
  (J47 : nsIn K mainGlobals "NoHouse" = some (some (.ref J9)))
  (J56 : nsIn K mainGlobals "Faulty" = some (some (.ref Jg)))
  (a1 : findIn K (.ref J6) "__init__" = some (some (.ref q1)))
  (i1 : isFn K (.ref q1) = true)
  (l1 : K.lookup q1 = some ⟨oc1,od1,.func (fnOf "__init__" "Never.__init__" (Jv J0L) (Jt J0L) (J8 J0L) .none kV1 dc1 pm1 an1 cd1 ct1),sl1⟩)
  (c1 : codeIn K cd1 "Never.__init__" = true)
  (k1 : keepIn K (.ref q1) = true)
  (a2 : findIn K (.ref Jd) "__init__" = some (some (.ref q2)))
  (i2 : isFn K (.ref q2) = true)
  (l2 : K.lookup q2 = some ⟨oc2,od2,.func (fnOf "__init__" "Most.__init__" (Jv J1k) (Jt J1k) (J8 J1k) .none kV2 dc2 pm2 an2 cd2 ct2),sl2⟩)
  (c2 : codeIn K cd2 "Most.__init__" = true)
  (k2 : keepIn K (.ref q2) = true)
  (a3 : findIn K (.ref J5) "__init__" = some (some (.ref q3)))
  (i3 : isFn K (.ref q3) = true)
  (l3 : K.lookup q3 = some ⟨oc3,od3,.func (fnOf "__init__" "Least.__init__" (Jv J0U) (Jt J0U) (J8 J0U) .none kV3 dc3 pm3 an3 cd3 ct3),sl3⟩)
  (c3 : codeIn K cd3 "Least.__init__" = true)
  (k3 : keepIn K (.ref q3) = true)
  (a4 : findIn K (.ref Jf) "__init__" = some (some (.ref q4)))
  (i4 : isFn K (.ref q4) = true)
  (l4 : K.lookup q4 = some ⟨oc4,od4,.func (fnOf "__init__" "Both.__init__" (Jv J19) (Jt J19) (J8 J19) .none kV4 dc4 pm4 an4 cd4 ct4),sl4⟩)
  (c4 : codeIn K cd4 "Both.__init__" = true)
  (k4 : keepIn K (.ref q4) = true)
  (a5 : findIn K (.ref J2) "__init__" = some (some (.ref q5)))
  (i5 : isFn K (.ref q5) = true)
  (l5 : K.lookup q5 = some ⟨oc5,od5,.func (fnOf "__init__" "Either.__init__" (Jv J0t) (Jt J0t) (J8 J0t) .none kV5 dc5 pm5 an5 cd5 ct5),sl5⟩)
  (c5 : codeIn K cd5 "Either.__init__" = true)
  (k5 : keepIn K (.ref q5) = true)
  (a6 : findIn K (.ref Jm) "__init__" = some (some (.ref q6)))
  (i6 : isFn K (.ref q6) = true)
  (l6 : K.lookup q6 = some ⟨oc6,od6,.func (fnOf "__init__" "Not.__init__" (Jv J1J) (Jt J1J) (J8 J1J) .none kV6 dc6 pm6 an6 cd6 ct6),sl6⟩)
  (c6 : codeIn K cd6 "Not.__init__" = true)
  (k6 : keepIn K (.ref q6) = true)
  (a7 : nsIn K mainGlobals "made_of" = some (some (.ref q7)))
  (l7 : K.lookup q7 = some ⟨oc7,od7,.func (fnOf "made_of" "made_of" (Jv J1H) (Jt J1H) (J8 J1H) .none kV7 dc7 pm7 an7 cd7 ct7),sl7⟩)
  (c7 : codeIn K cd7 "made_of" = true)
  (k7 : keepIn K (.ref q7) = true)
  (a8 : nsIn K mainGlobals "is_figure" = some (some (.ref q8)))
  (l8 : K.lookup q8 = some ⟨oc8,od8,.func (fnOf "is_figure" "is_figure" (Jv J1g) (Jt J1g) (J8 J1g) .none kV8 dc8 pm8 an8 cd8 ct8),sl8⟩)
  (c8 : codeIn K cd8 "is_figure" = true)
  (k8 : keepIn K (.ref q8) = true)
  (a9 : nsIn K mainGlobals "is_word" = some (some (.ref q9)))
  (l9 : K.lookup q9 = some ⟨oc9,od9,.func (fnOf "is_word" "is_word" (Jv J2g) (Jt J2g) (J8 J2g) .none kV9 dc9 pm9 an9 cd9 ct9),sl9⟩)
  (c9 : codeIn K cd9 "is_word" = true)
  (k9 : keepIn K (.ref q9) = true)
  (a10 : nsIn K mainGlobals "are_marks" = some (some (.ref q10)))
  (l10 : K.lookup q10 = some ⟨oc10,od10,.func (fnOf "are_marks" "are_marks" (Jv J1m) (Jt J1m) (J8 J1m) .none kV10 dc10 pm10 an10 cd10 ct10),sl10⟩)
  (c10 : codeIn K cd10 "are_marks" = true)
  (k10 : keepIn K (.ref q10) = true)
  (a11 : nsIn K mainGlobals "last_outside" = some (some (.ref q11)))
  (l11 : K.lookup q11 = some ⟨oc11,od11,.func (fnOf "last_outside" "last_outside" (Jv J0l) (Jt J0l) (J8 J0l) .none kV11 dc11 pm11 an11 cd11 ct11),sl11⟩)
  (c11 : codeIn K cd11 "last_outside" = true)
  (k11 : keepIn K (.ref q11) = true)
  (a12 : nsIn K mainGlobals "is_count" = some (some (.ref q12)))
  (l12 : K.lookup q12 = some ⟨oc12,od12,.func (fnOf "is_count" "is_count" (Jv J1K) (Jt J1K) (J8 J1K) .none kV12 dc12 pm12 an12 cd12 ct12),sl12⟩)
  (c12 : codeIn K cd12 "is_count" = true)
  (k12 : keepIn K (.ref q12) = true)
  (a13 : nsIn K mainGlobals "read_plain" = some (some (.ref q13)))
  (l13 : K.lookup q13 = some ⟨oc13,od13,.func (fnOf "read_plain" "read_plain" (Jv J0I) (Jt J0I) (J8 J0I) .none kV13 dc13 pm13 an13 cd13 ct13),sl13⟩)
  (c13 : codeIn K cd13 "read_plain" = true)
  (k13 : keepIn K (.ref q13) = true)
  (a14 : nsIn K mainGlobals "read_words" = some (some (.ref q14)))
  (l14 : K.lookup q14 = some ⟨oc14,od14,.func (fnOf "read_words" "read_words" (Jv J0P) (Jt J0P) (J8 J0P) .none kV14 dc14 pm14 an14 cd14 ct14),sl14⟩)
  (c14 : codeIn K cd14 "read_words" = true)
  (k14 : keepIn K (.ref q14) = true)
  (a15 : nsIn K mainGlobals "read_rule" = some (some (.ref q15)))
  (l15 : K.lookup q15 = some ⟨oc15,od15,.func (fnOf "read_rule" "read_rule" (Jv J1a) (Jt J1a) (J8 J1a) .none kV15 dc15 pm15 an15 cd15 ct15),sl15⟩)
  (c15 : codeIn K cd15 "read_rule" = true)
  (k15 : keepIn K (.ref q15) = true)
  (a16 : nsIn K mainGlobals "count_text" = some (some (.ref q16)))
  (l16 : K.lookup q16 = some ⟨oc16,od16,.func (fnOf "count_text" "count_text" (Jv J0O) (Jt J0O) (J8 J0O) .none kV16 dc16 pm16 an16 cd16 ct16),sl16⟩)
  (c16 : codeIn K cd16 "count_text" = true)
  (k16 : keepIn K (.ref q16) = true)
  (a17 : findIn K (.ref J6) "text" = some (some (.ref q17)))
  (i17 : isFn K (.ref q17) = true)
  (l17 : K.lookup q17 = some ⟨oc17,od17,.func (fnOf "text" "Never.text" (Jv J0J) (Jt J0J) (J8 J0J) .none kV17 dc17 pm17 an17 cd17 ct17),sl17⟩)
  (c17 : codeIn K cd17 "Never.text" = true)
  (k17 : keepIn K (.ref q17) = true)
  (a18 : findIn K (.ref Jd) "text" = some (some (.ref q18)))
  (i18 : isFn K (.ref q18) = true)
  (l18 : K.lookup q18 = some ⟨oc18,od18,.func (fnOf "text" "Most.text" (Jv J1l) (Jt J1l) (J8 J1l) .none kV18 dc18 pm18 an18 cd18 ct18),sl18⟩)
  (c18 : codeIn K cd18 "Most.text" = true)
  (k18 : keepIn K (.ref q18) = true)
  (a19 : findIn K (.ref J5) "text" = some (some (.ref q19)))
  (i19 : isFn K (.ref q19) = true)
  (l19 : K.lookup q19 = some ⟨oc19,od19,.func (fnOf "text" "Least.text" (Jv J0V) (Jt J0V) (J8 J0V) .none kV19 dc19 pm19 an19 cd19 ct19),sl19⟩)
  (c19 : codeIn K cd19 "Least.text" = true)
  (k19 : keepIn K (.ref q19) = true)
  (a20 : nsIn K mainGlobals "is_joined" = some (some (.ref q20)))
  (l20 : K.lookup q20 = some ⟨oc20,od20,.func (fnOf "is_joined" "is_joined" (Jv J1i) (Jt J1i) (J8 J1i) .none kV20 dc20 pm20 an20 cd20 ct20),sl20⟩)
  (c20 : codeIn K cd20 "is_joined" = true)
  (k20 : keepIn K (.ref q20) = true)
  (a21 : nsIn K mainGlobals "part_text" = some (some (.ref q21)))
  (l21 : K.lookup q21 = some ⟨oc21,od21,.func (fnOf "part_text" "part_text" (Jv J1c) (Jt J1c) (J8 J1c) .none kV21 dc21 pm21 an21 cd21 ct21),sl21⟩)
  (c21 : codeIn K cd21 "part_text" = true)
  (k21 : keepIn K (.ref q21) = true)
  (a22 : findIn K (.ref Jf) "text" = some (some (.ref q22)))
  (i22 : isFn K (.ref q22) = true)
  (l22 : K.lookup q22 = some ⟨oc22,od22,.func (fnOf "text" "Both.text" (Jv J1d) (Jt J1d) (J8 J1d) .none kV22 dc22 pm22 an22 cd22 ct22),sl22⟩)
  (c22 : codeIn K cd22 "Both.text" = true)
  (k22 : keepIn K (.ref q22) = true)
  (a23 : findIn K (.ref J2) "text" = some (some (.ref q23)))
  (i23 : isFn K (.ref q23) = true)
  (l23 : K.lookup q23 = some ⟨oc23,od23,.func (fnOf "text" "Either.text" (Jv J0w) (Jt J0w) (J8 J0w) .none kV23 dc23 pm23 an23 cd23 ct23),sl23⟩)
  (c23 : codeIn K cd23 "Either.text" = true)
  (k23 : keepIn K (.ref q23) = true)
  (a24 : findIn K (.ref Jm) "text" = some (some (.ref q24)))
  (i24 : isFn K (.ref q24) = true)
  (l24 : K.lookup q24 = some ⟨oc24,od24,.func (fnOf "text" "Not.text" (Jv J1G) (Jt J1G) (J8 J1G) .none kV24 dc24 pm24 an24 cd24 ct24),sl24⟩)
  (c24 : codeIn K cd24 "Not.text" = true)
  (k24 : keepIn K (.ref q24) = true)
  (a25 : nsIn K mainGlobals "_law_cell_at" = some (some (.ref q25)))
  (l25 : K.lookup q25 = some ⟨oc25,od25,.func (fnOf "_law_cell_at" "_law_cell_at" (Jv J0v) (Jt J0v) (J8 J0v) .none kV25 dc25 pm25 an25 cd25 ct25),sl25⟩)
  (c25 : codeIn K cd25 "_law_cell_at" = true)
  (k25 : keepIn K (.ref q25) = true)
  (a26 : nsIn K mainGlobals "_law_plain" = some (some (.ref q26)))
  (l26 : K.lookup q26 = some ⟨oc26,od26,.func (fnOf "_law_plain" "_law_plain" (Jv J16) (Jt J16) (J8 J16) .none kV26 dc26 pm26 an26 cd26 ct26),sl26⟩)
  (c26 : codeIn K cd26 "_law_plain" = true)
  (k26 : keepIn K (.ref q26) = true)
  (a27 : nsIn K mainGlobals "_law_good" = some (some (.ref q27)))
  (l27 : K.lookup q27 = some ⟨oc27,od27,.func (fnOf "_law_good" "_law_good" (Jv J1F) (Jt J1F) (J8 J1F) .none kV27 dc27 pm27 an27 cd27 ct27),sl27⟩)
  (c27 : codeIn K cd27 "_law_good" = true)
  (k27 : keepIn K (.ref q27) = true)
  (a28 : nsIn K mainGlobals "_law_word" = some (some (.ref q28)))
  (l28 : K.lookup q28 = some ⟨oc28,od28,.func (fnOf "_law_word" "_law_word" (Jv J1I) (Jt J1I) (J8 J1I) .none kV28 dc28 pm28 an28 cd28 ct28),sl28⟩)
  (c28 : codeIn K cd28 "_law_word" = true)
  (k28 : keepIn K (.ref q28) = true)
  (a29 : nsIn K mainGlobals "_law_odd" = some (some (.ref q29)))
  (l29 : K.lookup q29 = some ⟨oc29,od29,.func (fnOf "_law_odd" "_law_odd" (Jv J2e) (Jt J2e) (J8 J2e) .none kV29 dc29 pm29 an29 cd29 ct29),sl29⟩)
  (c29 : codeIn K cd29 "_law_odd" = true)
  (k29 : keepIn K (.ref q29) = true)
  (a30 : nsIn K mainGlobals "_law_changed" = some (some (.ref q30)))
  (l30 : K.lookup q30 = some ⟨oc30,od30,.func (fnOf "_law_changed" "_law_changed" (Jv J0x) (Jt J0x) (J8 J0x) .none kV30 dc30 pm30 an30 cd30 ct30),sl30⟩)
  (c30 : codeIn K cd30 "_law_changed" = true)
  (k30 : keepIn K (.ref q30) = true)
  (a31 : nsIn K mainGlobals "_law_signs" = some (some (.ref q31)))
  (l31 : K.lookup q31 = some ⟨oc31,od31,.func (fnOf "_law_signs" "_law_signs" (Jv J0G) (Jt J0G) (J8 J0G) .none kV31 dc31 pm31 an31 cd31 ct31),sl31⟩)
  (c31 : codeIn K cd31 "_law_signs" = true)
  (k31 : keepIn K (.ref q31) = true)
  (a32 : nsIn K mainGlobals "_law_is_plain" = some (some (.ref q32)))
  (l32 : K.lookup q32 = some ⟨oc32,od32,.func (fnOf "_law_is_plain" "_law_is_plain" (Jv J0h) (Jt J0h) (J8 J0h) .none kV32 dc32 pm32 an32 cd32 ct32),sl32⟩)
  (c32 : codeIn K cd32 "_law_is_plain" = true)
  (k32 : keepIn K (.ref q32) = true)
  (a33 : nsIn K mainGlobals "_law_tokens" = some (some (.ref q33)))
  (l33 : K.lookup q33 = some ⟨oc33,od33,.func (fnOf "_law_tokens" "_law_tokens" (Jv J0K) (Jt J0K) (J8 J0K) .none kV33 dc33 pm33 an33 cd33 ct33),sl33⟩)
  (c33 : codeIn K cd33 "_law_tokens" = true)
  (k33 : keepIn K (.ref q33) = true)
  (a34 : nsIn K mainGlobals "_law_taken" = some (some (.ref q34)))
  (l34 : K.lookup q34 = some ⟨oc34,od34,.func (fnOf "_law_taken" "_law_taken" (Jv J17) (Jt J17) (J8 J17) .none kV34 dc34 pm34 an34 cd34 ct34),sl34⟩)
  (c34 : codeIn K cd34 "_law_taken" = true)
  (k34 : keepIn K (.ref q34) = true)
  (a35 : nsIn K mainGlobals "_law_refused" = some (some (.ref q35)))
  (l35 : K.lookup q35 = some ⟨oc35,od35,.func (fnOf "_law_refused" "_law_refused" (Jv J0y) (Jt J0y) (J8 J0y) .none kV35 dc35 pm35 an35 cd35 ct35),sl35⟩)
  (c35 : codeIn K cd35 "_law_refused" = true)
  (k35 : keepIn K (.ref q35) = true)
  (a36 : nsIn K mainGlobals "_law_mixed" = some (some (.ref q36)))
  (l36 : K.lookup q36 = some ⟨oc36,od36,.func (fnOf "_law_mixed" "_law_mixed" (Jv J1b) (Jt J1b) (J8 J1b) .none kV36 dc36 pm36 an36 cd36 ct36),sl36⟩)
  (c36 : codeIn K cd36 "_law_mixed" = true)
  (k36 : keepIn K (.ref q36) = true)
  (a37 : nsIn K mainGlobals "_law_right" = some (some (.ref q37)))
  (l37 : K.lookup q37 = some ⟨oc37,od37,.func (fnOf "_law_right" "_law_right" (Jv J15) (Jt J15) (J8 J15) .none kV37 dc37 pm37 an37 cd37 ct37),sl37⟩)
  (c37 : codeIn K cd37 "_law_right" = true)
  (k37 : keepIn K (.ref q37) = true)
  (a38 : nsIn K mainGlobals "law" = some (some (.ref q38)))
  (l38 : K.lookup q38 = some ⟨oc38,od38,.func (fnOf "law" "law" (Jv J2x) (Jt J2x) (J8 J2x) .none kV38 dc38 pm38 an38 cd38 ct38),sl38⟩)
  (c38 : codeIn K cd38 "law" = true)
  (k38 : keepIn K (.ref q38) = true)
  (J3R : plainGet K J6 Str.empty = true)
  (J3S : hasDictIn K J6 = true)
  (J3N : plainOver K J6 = true)
  (J3D : findIn K (.ref J6) "__setattr__" = some (some (.builtin "object.__setattr__")))
  (J5f : makesIn K J6 = true)
  (J5m : keepIn K (.ref J6) = true)
  (J4N : plainGet K Jd Str.empty = true)
  (J4O : hasDictIn K Jd = true)
  (J4L : plainOver K Jd = true)
  (J4P : findIn K (.ref Jd) "__setattr__" = some (some (.builtin "object.__setattr__")))
  (J6g : makesIn K Jd = true)
  (J6I : keepIn K (.ref Jd) = true)
  (J3K : plainGet K J5 Str.empty = true)
  (J3L : hasDictIn K J5 = true)
  (J3H : plainOver K J5 = true)
  (J3G : findIn K (.ref J5) "__setattr__" = some (some (.builtin "object.__setattr__")))
  (J57 : makesIn K J5 = true)
  (J5j : keepIn K (.ref J5) = true)
  (J4K : plainGet K Jf Str.empty = true)
  (J4Q : hasDictIn K Jf = true)
  (J4R : plainOver K Jf = true)
  (J4M : findIn K (.ref Jf) "__setattr__" = some (some (.builtin "object.__setattr__")))
  (J6A : makesIn K Jf = true)
  (J6w : keepIn K (.ref Jf) = true)
  (J3b : plainGet K J2 Str.empty = true)
  (J3a : hasDictIn K J2 = true)
  (J37 : plainOver K J2 = true)
  (J38 : findIn K (.ref J2) "__setattr__" = some (some (.builtin "object.__setattr__")))
  (J4b : makesIn K J2 = true)
  (J4a : keepIn K (.ref J2) = true)
  (J6L : plainGet K Jm Str.empty = true)
  (J6q : hasDictIn K Jm = true)
  (J6F : plainOver K Jm = true)
  (J6B : findIn K (.ref Jm) "__setattr__" = some (some (.builtin "object.__setattr__")))
  (J8d : makesIn K Jm = true)
  (J8b : keepIn K (.ref Jm) = true)
  (J2f : excIn K J4 J8q "ValueError.__new__" = true)
  (J4e : findIn K (.ref J4) "__getattribute__" = some (some (.builtin "BaseException.__getattribute__")))
  (J4d : findIn K (.ref J4) "__getattr__" = some none)
  (J4g : findIn K (.ref J4) "__class__" = some (some (.builtin "object.__class__")))
  (J39 : mroIn K J4 (.type "object") = some true)
  (J4c : mroIn K J4 (.type "BaseException") = some true)
  (J04 : exmOne K (.ref J4) (.ref J3) = some true)
  (JZ : kitOne K (.ref J4) (.type "ValueError") = some true)
  (J0g : kitOne K (.ref J4) (.ref J4) = some true)
  (J0i : kitOne K (.ref J4) (.ref Jh) = some false)
  (J0p : kitOne K (.ref J4) (.ref Jj) = some false)
  (J0o : kitOne K (.ref J4) (.ref Jk) = some false)
  (J0b : kitOne K (.ref J4) (.ref Ja) = some false)
  (J09 : kitOne K (.ref J4) (.ref J9) = some false)
  (J0j : kitOne K (.ref J4) (.ref Jg) = some false)
  (yn : specialIn K (.builtin "object.__class__") "__get__" = some (some (.builtin "getset_descriptor.__get__")))
  (yt : takesIn K (.builtin "object.__class__") = some true)
  (J5k : findIn K (.ref J6) "__class__" = some (some (.builtin "object.__class__")))
  (J5b : mroIn K J6 (.type "object") = some true)
  (J1R : kitOne K (.ref J6) (.ref J6) = some true)
  (J2a : kitOne K (.ref J6) (.ref Jd) = some false)
  (J1M : kitOne K (.ref J6) (.ref J5) = some false)
  (J1D : kitOne K (.ref J6) (.ref Jf) = some false)
  (J0E : kitOne K (.ref J6) (.ref J2) = some false)
  (J2s : kitOne K (.ref J6) (.ref Jm) = some false)
  (J6k : findIn K (.ref Jd) "__class__" = some (some (.builtin "object.__class__")))
  (J6x : mroIn K Jd (.type "object") = some true)
  (J25 : kitOne K (.ref Jd) (.ref J6) = some false)
  (J2o : kitOne K (.ref Jd) (.ref Jd) = some true)
  (J28 : kitOne K (.ref Jd) (.ref J5) = some false)
  (J1V : kitOne K (.ref Jd) (.ref Jf) = some false)
  (J0Z : kitOne K (.ref Jd) (.ref J2) = some false)
  (J2G : kitOne K (.ref Jd) (.ref Jm) = some false)
  (J59 : findIn K (.ref J5) "__class__" = some (some (.builtin "object.__class__")))
  (J52 : mroIn K J5 (.type "object") = some true)
  (J1P : kitOne K (.ref J5) (.ref J6) = some false)
  (J24 : kitOne K (.ref J5) (.ref Jd) = some false)
  (J1O : kitOne K (.ref J5) (.ref J5) = some true)
  (J1B : kitOne K (.ref J5) (.ref Jf) = some false)
  (J0F : kitOne K (.ref J5) (.ref J2) = some false)
  (J2m : kitOne K (.ref J5) (.ref Jm) = some false)
  (J6n : findIn K (.ref Jf) "__class__" = some (some (.builtin "object.__class__")))
  (J6z : mroIn K Jf (.type "object") = some true)
  (J23 : kitOne K (.ref Jf) (.ref J6) = some false)
  (J2r : kitOne K (.ref Jf) (.ref Jd) = some false)
  (J29 : kitOne K (.ref Jf) (.ref J5) = some false)
  (J1T : kitOne K (.ref Jf) (.ref Jf) = some true)
  (J11 : kitOne K (.ref Jf) (.ref J2) = some false)
  (J2L : kitOne K (.ref Jf) (.ref Jm) = some false)
  (J48 : findIn K (.ref J2) "__class__" = some (some (.builtin "object.__class__")))
  (J46 : mroIn K J2 (.type "object") = some true)
  (J1s : kitOne K (.ref J2) (.ref J6) = some false)
  (J1N : kitOne K (.ref J2) (.ref Jd) = some false)
  (J1x : kitOne K (.ref J2) (.ref J5) = some false)
  (J0Y : kitOne K (.ref J2) (.ref Jf) = some false)
  (J0q : kitOne K (.ref J2) (.ref J2) = some true)
  (J26 : kitOne K (.ref J2) (.ref Jm) = some false)
  (J8n : findIn K (.ref Jm) "__class__" = some (some (.builtin "object.__class__")))
  (J88 : mroIn K Jm (.type "object") = some true)
  (J2n : kitOne K (.ref Jm) (.ref J6) = some false)
  (J2H : kitOne K (.ref Jm) (.ref Jd) = some false)
  (J2p : kitOne K (.ref Jm) (.ref J5) = some false)
  (J2j : kitOne K (.ref Jm) (.ref Jf) = some false)
  (J1A : kitOne K (.ref Jm) (.ref J2) = some false)
  (J3c : kitOne K (.ref Jm) (.ref Jm) = some true)
  (J0M : findIn K (.ref J6) "word" = some none)
  (J18 : findIn K (.ref Jd) "many" = some none)
  (J0R : findIn K (.ref Jd) "marks" = some none)
  (J1e : findIn K (.ref Jd) "days" = some none)
  (J0Q : findIn K (.ref J5) "many" = some none)
  (J0s : findIn K (.ref J5) "marks" = some none)
  (J0T : findIn K (.ref J5) "days" = some none)
  (J1j : findIn K (.ref Jf) "left" = some none)
  (J0N : findIn K (.ref Jf) "right" = some none)
  (J0u : findIn K (.ref J2) "left" = some none)
  (J0k : findIn K (.ref J2) "right" = some none)
  (J1f : findIn K (.ref Jm) "inner" = some none)
  (J1C : nsIn K mainGlobals "ValueError" = some none)
  (J7e : nsIn K mainGlobals "all" = some none)
  (J1U : nsIn K mainGlobals "enumerate" = some none)
  (J3I : nsIn K mainGlobals "int" = some none)
  (JC : nsIn K mainGlobals "isinstance" = some none)
  (J0B : nsIn K mainGlobals "len" = some none)
  (J2M : nsIn K mainGlobals "range" = some none)
  (J7t : nsIn K mainGlobals "set" = some none)
  (J5l : nsIn K mainGlobals "str" = some none)
  (J1z : nsIn K mainGlobals "MOST_WORDS" = some (some (.int 60 tk_MOST_WORDS)))
  (J1w : nsIn K mainGlobals "MARK_SIGNS" = some (some (.str ⟨[65,66,67,68,69,70,71,72,73,74,75,76,77,78,79,80,81,82,83,84,85,86,87,88,89,90,45,35].toArray⟩ tk_MARK_SIGNS)))
  (J1u : nsIn K mainGlobals "WORD_SIGNS" = some (some (.str ⟨[65,66,67,68,69,70,71,72,73,74,75,76,77,78,79,80,81,82,83,84,85,86,87,88,89,90,45,35,63].toArray⟩ tk_WORD_SIGNS)))
  (J0C : nsIn K mainGlobals "MANY_FIGURES" = some (some (.str ⟨[48,49,50,51,52,53,54,55].toArray⟩ tk_MANY_FIGURES)))
  (J0D : nsIn K mainGlobals "DAYS_FIGURES" = some (some (.str ⟨[49,50,51,52,53,54,55].toArray⟩ tk_DAYS_FIGURES)))
  : ∃ fd : FuncData,(∀ (s : Shared) (v : Value),BindsTo s fd ⟨[v],[]⟩ [("_law_script",v)]) ∧ ∀ base : Heap,K.In base → base.Ns mainGlobals mg → FnOk l.prog w K mg base CX0 140 fa fd ["_law_script"] (sp_law K):=by
 have e:=hfa.symm.trans (mg_of X G a38)
 cases e
 have T : Tx K mg J6 Jd J5 Jf J2 Jm J3 J4 Jh Jj Jk Ja J9 Jg:=⟨⟨_,_,JG (st:=J0L) l1 c1 k1,⟨a1,i1,k1⟩⟩,
  ⟨_,_,JG (st:=J1k) l2 c2 k2,⟨a2,i2,k2⟩⟩,
  ⟨_,_,JG (st:=J0U) l3 c3 k3,⟨a3,i3,k3⟩⟩,
  ⟨_,_,JG (st:=J19) l4 c4 k4,⟨a4,i4,k4⟩⟩,
  ⟨_,_,JG (st:=J0t) l5 c5 k5,⟨a5,i5,k5⟩⟩,
  ⟨_,_,JG (st:=J1J) l6 c6 k6,⟨a6,i6,k6⟩⟩,
  ⟨_,_,JG (st:=J1H) l7 c7 k7,mg_of X G a7⟩,
  ⟨_,_,JG (st:=J1g) l8 c8 k8,mg_of X G a8⟩,
  ⟨_,_,JG (st:=J2g) l9 c9 k9,mg_of X G a9⟩,
  ⟨_,_,JG (st:=J1m) l10 c10 k10,mg_of X G a10⟩,
  ⟨_,_,JG (st:=J0l) l11 c11 k11,mg_of X G a11⟩,
  ⟨_,_,JG (st:=J1K) l12 c12 k12,mg_of X G a12⟩,
  ⟨_,_,JG (st:=J0I) l13 c13 k13,mg_of X G a13⟩,
  ⟨_,_,JG (st:=J0P) l14 c14 k14,mg_of X G a14⟩,
  ⟨_,_,JG (st:=J1a) l15 c15 k15,mg_of X G a15⟩,
  ⟨_,_,JG (st:=J0O) l16 c16 k16,mg_of X G a16⟩,
  ⟨_,_,JG (st:=J0J) l17 c17 k17,⟨a17,i17,k17⟩⟩,
  ⟨_,_,JG (st:=J1l) l18 c18 k18,⟨a18,i18,k18⟩⟩,
  ⟨_,_,JG (st:=J0V) l19 c19 k19,⟨a19,i19,k19⟩⟩,
  ⟨_,_,JG (st:=J1i) l20 c20 k20,mg_of X G a20⟩,
  ⟨_,_,JG (st:=J1c) l21 c21 k21,mg_of X G a21⟩,
  ⟨_,_,JG (st:=J1d) l22 c22 k22,⟨a22,i22,k22⟩⟩,
  ⟨_,_,JG (st:=J0w) l23 c23 k23,⟨a23,i23,k23⟩⟩,
  ⟨_,_,JG (st:=J1G) l24 c24 k24,⟨a24,i24,k24⟩⟩,
  ⟨_,_,JG (st:=J0v) l25 c25 k25,mg_of X G a25⟩,
  ⟨_,_,JG (st:=J16) l26 c26 k26,mg_of X G a26⟩,
  ⟨_,_,JG (st:=J1F) l27 c27 k27,mg_of X G a27⟩,
  ⟨_,_,JG (st:=J1I) l28 c28 k28,mg_of X G a28⟩,
  ⟨_,_,JG (st:=J2e) l29 c29 k29,mg_of X G a29⟩,
  ⟨_,_,JG (st:=J0x) l30 c30 k30,mg_of X G a30⟩,
  ⟨_,_,JG (st:=J0G) l31 c31 k31,mg_of X G a31⟩,
  ⟨_,_,JG (st:=J0h) l32 c32 k32,mg_of X G a32⟩,
  ⟨_,_,JG (st:=J0K) l33 c33 k33,mg_of X G a33⟩,
  ⟨_,_,JG (st:=J17) l34 c34 k34,mg_of X G a34⟩,
  ⟨_,_,JG (st:=J0y) l35 c35 k35,mg_of X G a35⟩,
  ⟨_,_,JG (st:=J1b) l36 c36 k36,mg_of X G a36⟩,
  ⟨_,_,JG (st:=J15) l37 c37 k37,mg_of X G a37⟩,
  ⟨_,_,JG (st:=J2x) l38 c38 k38,mg_of X G a38⟩,
  ⟨⟨J3R,J3S,J3N,J3D⟩,mg_of X G J6H,J5f,J5m⟩,
  ⟨⟨J4N,J4O,J4L,J4P⟩,mg_of X G J8m,J6g,J6I⟩,
  ⟨⟨J3K,J3L,J3H,J3G⟩,mg_of X G J6p,J57,J5j⟩,
  ⟨⟨J4K,J4Q,J4R,J4M⟩,mg_of X G J8h,J6A,J6w⟩,
  ⟨⟨J3b,J3a,J37,J38⟩,mg_of X G J5d,J4b,J4a⟩,
  ⟨⟨J6L,J6q,J6F,J6B⟩,mg_of X G J9Z,J8d,J8b⟩,
  mg_of X G J33,
  mg_of X G J54,
  mg_of X G J5o,
  mg_of X G J6t,
  mg_of X G J6l,
  mg_of X G J4f,
  mg_of X G J47,
  mg_of X G J56,
  J2f,
  ⟨⟨J4e,J4d,J4g,J39,J4c⟩,J8G J39⟩,
  J04,
  JZ,
  J0g,
  J0i,
  J0p,
  J0o,
  J0b,
  J09,
  J0j,
  ⟨⟨J3R,J3S,J3N,J3D⟩,J5k,yn,yt,J5b⟩,
  J1R,
  J2a,
  J1M,
  J1D,
  J0E,
  J2s,
  ⟨⟨J4N,J4O,J4L,J4P⟩,J6k,yn,yt,J6x⟩,
  J25,
  J2o,
  J28,
  J1V,
  J0Z,
  J2G,
  ⟨⟨J3K,J3L,J3H,J3G⟩,J59,yn,yt,J52⟩,
  J1P,
  J24,
  J1O,
  J1B,
  J0F,
  J2m,
  ⟨⟨J4K,J4Q,J4R,J4M⟩,J6n,yn,yt,J6z⟩,
  J23,
  J2r,
  J29,
  J1T,
  J11,
  J2L,
  ⟨⟨J3b,J3a,J37,J38⟩,J48,yn,yt,J46⟩,
  J1s,
  J1N,
  J1x,
  J0Y,
  J0q,
  J26,
  ⟨⟨J6L,J6q,J6F,J6B⟩,J8n,yn,yt,J88⟩,
  J2n,
  J2H,
  J2p,
  J2j,
  J1A,
  J3c,
  J0M,
  J18,
  J0R,
  J1e,
  J0Q,
  J0s,
  J0T,
  J1j,
  J0N,
  J0u,
  J0k,
  J1f,
  mg_none_of X G J1C,
  mg_none_of X G J7e,
  mg_none_of X G J1U,
  mg_none_of X G J3I,
  mg_none_of X G JC,
  mg_none_of X G J0B,
  mg_none_of X G J2M,
  mg_none_of X G J7t,
  mg_none_of X G J5l,
  ⟨_,mg_of X G J1z⟩,
  ⟨_,mg_of X G J1w⟩,
  ⟨_,mg_of X G J1u⟩,
  ⟨_,mg_of X G J0C⟩,
  ⟨_,mg_of X G J0D⟩⟩
 refine ⟨fnOf "law" "law" (Jv J2x) (Jt J2x) (J8 J2x) .none kV38 dc38 pm38 an38 cd38 ct38,fun s v=>.of_eq rfl,fun base _ _=>?_⟩
 exact Jcf T (JG (st:=J2x) l38 c38 k38)
theorem walk {l : PySem.W.OpenLaw} {q : Program} {loose : List Str} {XP : (Str → Option Value) → Heap → Prop} {YP : World → Heap → Prop} {d : DefRec} {K : Params → PySem.W.Frag} (hn : l.most = some 63) (hdf : d.params.defaults = [])
  (hY : ∀ (w : World) (h : Heap),YP w h → (K w.params).In h)
  (F : ∀ (w : World) (mg : Str → Option Value) (fa : Addr) (h : Heap),(K w.params).In h → h.Ns mainGlobals mg → mg d.name = some (.ref fa) →
   ∃ fd : FuncData,(∀ (s : Shared) (u : Value),BindsTo s fd ⟨[u],[]⟩ [("_law_script",u)]) ∧ ∀ base : Heap,(K w.params).In base → base.Ns mainGlobals mg → FnOk l.prog w (K w.params) mg base CX0 140 fa fd ["_law_script"] (sp_law (K w.params))) :
  PySem.W.WalkO q loose XP YP l.row.toRowW d [] (fun f vs=>PySem.call f vs) :=
 L2.walk_of (n:=63) (k:=140) (x:="_law_script") (CX:=fun _=>CX0) (sp:=fun w=>sp_law (K w.params)) hn (by decide) hdf ⟨rfl,by decide,by decide⟩ hY F (fun _ _ a ns hl _ hS=>⟨a,ns,rfl,hS,hl,fun _=>rfl⟩) fun _ _ _ _ _ z=>z
theorem walkX {q : Program} {loose : List Str} {XP : (Str → Option Value) → Heap → Prop} {K : Params → PySem.W.Frag} {as : List Addr} {n t : Nat} {r : PySem.W.RowW} {d : DefRec} {kwd : List (Str × Expr)} {run : Value → List Value → Sem Value} (e : ∀ P,as = (K P).map (·.1))
  (h : PySem.W.WalkO q loose XP (fun w hp=>(K w.params).In hp) r d kwd run) : PySem.W.WalkX q loose XP (PySem.W.X.obsZ as) (PySem.W.X.valZ K n t) r d kwd run:=by
 intro w s₀ s₁ mg mb G Y a o pm cd doc dV kV h1 h2 h3 h4 h5 h6 args vals as' L p1 p2 p3 p4 p5
 exact h w s₀ s₁ mg mb G (PySem.W.InK.keeps w _ _ (PySem.W.X.z_facts e Y).2.1 L.keeps) a o pm cd doc dV kV h1 h2 h3 h4 h5 h6 args vals as' p1 p2 p3 p4 p5
end K06
namespace PySem.W.Fast
def tw17236874651432270127:=()
def tw1234172009091630566:=()
def tw1638796271540522660:=()
def tw10131962016813071035:=()
def tw17559701807200718939:=()
def tw7702713382697170912:=()
def tw6900655942182905571:=()
def tw11445475322794397132:=()
def tw11335640709424350373:=()
def tw6795629701417693824:=()
def tw17850424732840109964:=()
def tw6230473557442217919:=()
def tw4647120816163763321:=()
def tw11882789648564350463:=()
def tw668456336808413961:=()
def tw12502787058451738388:=()
def tw5274211686371035161:=()
def tw17523872043985340923:=()
def tw11254427191528627533:=()
def tw7017431072836021039:=()
def tw18046202806878744442:=()
def tw10719002614676273332:=()
def tw3019925596045526763:=()
def tw11767040271164052128:=()
def tw8954731781967943237:=()
def tw163291558351085729:=()
def tw3752330422625859447:=()
def tw7234890360921683615:=()
def tw430045415133617365:=()
def tw6176315732658171889:=()
def tw14180238876147278205:=()
def tw16349273703017137672:=()
def tw7623181043760457311:=()
def tw7274168489352167553:=()
def tw4472139436872789014:=()
def tw9222464111151771796:=()
def tw9346985997801137786:=()
def tw310425070491277670:=()
def tw6148290633737835575:=()
def tw13809810361891718549:=()
def tw3645733062306200874:=()
def tw16732446423876158291:=()
def tw6098312267054662226:=()
def tw13994067998379488919:=()
def tw6934034638048192352:=()
def tw7038615179986840872:=()
def tw11249592396739625204:=()
def tw13752839912519172285:=()
def tw18428015984133988252:=()
def tw3050762096103016357:=()
def tw13391108419055568987:=()
def tw13042439913126367411:=()
def tw11277037926717852339:=()
def tw7086937215246123927:=()
def tw15064916799240643953:=()
def tw5911656171849607567:=()
def tw16142294109386031978:=()
def tw15329933874327187997:=()
def tw4645878637947543830:=()
def tw1966283801227917953:=()
def tw8056843483187513537:=()
def tw11874863571074705971:=()
def tw6653909186788465924:=()
def tw4801517098941987589:=()
def tw10126121401194645769:=()
def tw17848579534478887365:=()
def tw17622904680166460516:=()
def tw133273552230656588:=()
def tw13505153568064558951:=()
def tw15859074821903507102:=()
def tw4098208505437299357:=()
def tw5672902091068271002:=()
def tw5509162748919959564:=()
def tw13156696789390762850:=()
def tw13506209326866088619:=()
def tw2377451939099677916:=()
def tw8679256894823550803:=()
def tw17278493331451991235:=()
def tw17374060514856970668:=()
def tw4424764401491028765:=()
def tw5598183055848544931:=()
def tw15560748047625469286:=()
def tw14497965768155314686:=()
def tw2897021555914171218:=()
def tw4585730866000030358:=()
def tw13463082774298986419:=()
def tw15032756354691320092:=()
def tw3169000078368420728:=()
def tw14153318559054975508:=()
def tw2299247428914842151:=()
def tw2901248876051799562:=()
def tw5959426518346482255:=()
def tw9807669013900488727:=()
def tw16866919171740667028:=()
def tw5670653328201525241:=()
def tw6858596128206451059:=()
def tw17707602167179528272:=()
def tw14561995368568750964:=()
def tw4575327292871315444:=()
def tw2414341393677246435:=()
def tw15969025765128946076:=()
def tw15784567674193184822:=()
def tw16943965136550093813:=()
def tw8442689987117906151:=()
def tw331687403765463305:=()
def tw2677723649776999813:=()
def tw6760466089771433119:=()
def tw15922472817531197997:=()
def tw8841854323931815306:=()
def tw11231415368309979944:=()
def tw12373175436126685451:=()
def tw469876204802500022:=()
def tw5965465531956476992:=()
def tw4553554801497488109:=()
def tw7718185883389539178:=()
def tw6922151197889941015:=()
def tw7814194804879352020:=()
def tw14088813455306983773:=()
def tw18067629433208861907:=()
def tw5633873397030097833:=()
def tw16135045999604949717:=()
def tw16645423757725273323:=()
def tw357982101999191963:=()
def tw1715221093480547814:=()
def tw9601963261616681541:=()
def tw4891114024570592288:=()
def tw17346040340238813164:=()
def tw3459887887874350385:=()
def tw7580298851161754942:=()
def tw14795197527403749373:=()
def tw3172425120621479819:=()
def tw12945305102305311964:=()
def tw16224586118597095367:=()
def tw13647107665433699975:=()
def tw9861314881001472681:=()
def tw2548799915020914327:=()
def tw14561633203902939478:=()
def tw14447659543199410339:=()
def tw2904752845526941838:=()
def tw10820171911960351308:=()
def tw7825826022359823455:=()
def tw2062192387591507178:=()
def tw2568444489984387228:=()
def tw11868326576305153886:=()
def tw2277211036719922478:=()
def tw2575789926360952802:=()
def tw11179774405363327161:=()
def tw6311112737343015159:=()
def tw2006618252997781263:=()
def tw102257660314141568:=()
def tw6406300378110092257:=()
def tw14042682281725840614:=()
def tw15140154996369285373:=()
def tw16097396227956301402:=()
def tw2855330312654243007:=()
def tw17942783700466016449:=()
def tw12878367665121079925:=()
def tw5635781502458417689:=()
def tw5981040074035000795:=()
def tw11038329733741509418:=()
def tw17566956629280651164:=()
def tw5636025712569595018:=()
def tw12537373985243421911:=()
def tw14700160015842183896:=()
def tw18221252539614120584:=()
def tw15005525718436525102:=()
def tw6929049087214128851:=()
def tw17958358077076464133:=()
def tw7673375960367113252:=()
def tw2603710010924522289:=()
def tw8456459058548650981:=()
def tw13756078487192779170:=()
def tw13297900657537200675:=()
def tw15469459637948402725:=()
def tw4482145524024261454:=()
def tw7538299614947046220:=()
def tw3839671825267485551:=()
def tw14755553721347038579:=()
def tw13088265480799183635:=()
def tw737505246036716225:=()
def tw2513133339288811874:=()
def tw6785666964596591640:=()
def tw3736109084821754969:=()
def tw5545914446500454195:=()
def tw7520500392626646214:=()
def tw13955836821464811422:=()
def tw17883016878464509498:=()
def tw12828346389706400647:=()
def tw2926090820385615982:=()
def tw333977703907619014:=()
def tw17917167552311132223:=()
def tw1269439256029315863:=()
def tw6603309988039438681:=()
def tw10038941262146462315:=()
def tw3057439388910653053:=()
def tw10528843911934068089:=()
def tw1706344537122293913:=()
def tw15929155141908792977:=()
def tw1227300541797608333:=()
def tw12481961246627877052:=()
def tw7710687806125339440:=()
def tw8452184416616838178:=()
def tw5012525602802676059:=()
def tw10318136578148689569:=()
def tw5054492715506117928:=()
def tw11654037131419714403:=()
def tw4011246219870991401:=()
def tw5645581190344967797:=()
def tw15049061781637981473:=()
def tw8995927752822472992:=()
def tw11262690172281623455:=()
def tw5647225121284368346:=()
def tw13549876995402059326:=()
def tw3473541608365497312:=()
def tw13014174227464397267:=()
def tw3474335183750125071:=()
def tw6836403632238853204:=()
def tw15534218201535672806:=()
def tw11384243467918206395:=()
def tw3258127123997802402:=()
def tw4307645877689897333:=()
def tw582749170002063460:=()
def tw1259399863277564680:=()
def tw6542895534789287364:=()
def tw7212885444087263844:=()
def tw9220759967706866328:=()
def tw6335273559727558144:=()
def tw6917332633155049511:=()
def tw14525809997743635467:=()
def tw14265732109036992651:=()
def tw8502583368632313649:=()
def tw14906373555731064089:=()
def tw17607565883735488470:=()
def tw11585340597647531721:=()
def tw16219357541562114223:=()
def tw11806671348792211984:=()
def tw10384326801849877894:=()
def tw8144894148702485131:=()
def tw2371096223905491372:=()
def tw14074115007279326952:=()
def tw1563322184805054189:=()
def tw14257570933087520865:=()
def tw4756265678287993873:=()
def tw9032008721786618003:=()
def tw13993901808244824527:=()
def tw4647711750200215721:=()
def tw13534417560651516122:=()
def tw11312810241727956538:=()
def tw15341466302201085904:=()
def tw5801471093549053156:=()
def tw13230793904096919987:=()
def tw987793126833722521:=()
def tw16398291708032022001:=()
def tw12062392387517327924:=()
def tw10205357693617377794:=()
def tw18425529886758869479:=()
def tw14187815472325729440:=()
def tw10803719923905878625:=()
def tw10511259806286355883:=()
def tw2910548732801563009:=()
def tw3607152031656697788:=()
def tw5115306016198567934:=()
def tw14434842141228825557:=()
def tw10530473871529796663:=()
def tw13826660926974378437:=()
def tw4489217979423158215:=()
def tw11146562539968152655:=()
def tw6083193077717172651:=()
def tw2435426512081246547:=()
def tw5018607752940524761:=()
def tw13185410128999859352:=()
def tw1538138819494586128:=()
def tw12921786342759726276:=()
def tw3779916039681653472:=()
def tw3831488467943795930:=()
def tw3360358787629724501:=()
def tw13604308994266605383:=()
def tw18352891000826393145:=()
def tw169968942182079318:=()
def tw7478309141204506635:=()
def tw14496142927756053:=()
def tw16406079343892800259:=()
def tw6216898813057298428:=()
def tw17291893850771711784:=()
def tw10473168276514567623:=()
def tw12871035562161453487:=()
def tw3511875349334052573:=()
def tw12636293230347481945:=()
def tw5978022487906177700:=()
def tw9785191275377866766:=()
def tw13397734556599311127:=()
def tw10143960244484528687:=()
def tw11423264750845408189:=()
def tw12256643039695958674:=()
def tw8503674265530903022:=()
def tw13826036447817355557:=()
def tw12421304574684891278:=()
def tw3783265723413978356:=()
def tw14459442616895756151:=()
def tw969427342956385472:=()
def tw6230729949063447803:=()
def tw14116856412577097832:=()
def tw15476088966138266531:=()
def tw9067732290822679608:=()
def tw10266643172774364393:=()
def tw6444990029851445735:=()
def tw7272721514277556355:=()
def tw7940916512394447182:=()
def tw10006660693335806366:=()
def tw9245013751329556018:=()
def tw9675079862693942771:=()
def tw7887093970912502471:=()
def tw1670215550667257313:=()
def tw13475271861883254192:=()
def tw1550466720052119211:=()
def tw10746192669060127477:=()
def tw17629387764580581460:=()
def tw10968077382551777162:=()
def tw5341261867169640963:=()
def tw10262461947544398795:=()
def tw6210341473509530447:=()
def tw16011995336472092307:=()
def tw2630101784216983067:=()
def tw13583583157947736216:=()
def tw10540683407892444844:=()
def tw10143004945761494465:=()
def tw1782453860226713629:=()
def tw3020428422203796497:=()
def tw17414061304555651507:=()
def tw15141734520384369615:=()
def tw8041807264217732466:=()
def tw8026129807434979053:=()
def tw2573791591352429193:=()
def tw6588945948105596670:=()
def tw3070803792784741154:=()
def tw13764051878227968472:=()
def tw6224002015270012864:=()
def tw16127213730152973010:=()
def tw5035508355087383901:=()
def tw8693278556533958756:=()
def tw2938466765085272371:=()
def tw10751586528661850752:=()
def tw3693751688514686026:=()
def tw10432067271656750935:=()
def tw11445129173775777681:=()
def tw17888184172396260312:=()
def tw11885966366887691900:=()
def tw4896872219488795400:=()
def tw12605769409862724424:=()
def tw4059407623116833624:=()
def tw8061116043355618343:=()
def tw3479419518547928622:=()
def tw4761225186871144555:=()
def tw1094931303315983754:=()
def tw17180586457518664047:=()
def tw13793107039497547436:=()
def tw13463491054360505725:=()
def tw11608871055864600662:=()
def tw11072612231786121055:=()
def tw13916195817121772897:=()
def tw16643456950316867021:=()
def tw614584523093561868:=()
def tw16577384116941216733:=()
def tw3350573500883185661:=()
def tw16800569058359669846:=()
def tw3007127968147791999:=()
def tw7536051642005912624:=()
def tw6688928523812743517:=()
def tw9658795246879943657:=()
def tw8239568546137286220:=()
def tw4386658656113387544:=()
def tw17556545697893932501:=()
def tw16615051311868883850:=()
def tw18393387742255154612:=()
def tw4649330623657698244:=()
def tw4707542047970902363:=()
def tw16696108216933317536:=()
def tw5853871772135291124:=()
def tw13805282494594706724:=()
def tw13095368729264568457:=()
def tw12295225010215861460:=()
def tw17994447521803934240:=()
def tw17462556735312228272:=()
def tw10477310525151262687:=()
def tw3254148324620038151:=()
def tw6078779639760100041:=()
def tw2285649132643936292:=()
def tw443831377106272479:=()
def tw1473923574304272584:=()
def tw10814535759156441550:=()
def tw1082274075833647270:=()
def tw7499674873099048933:=()
def tw1879778900192405417:=()
def tw786661807939012899:=()
def tw15958227328604164689:=()
def tw12299967085032469447:=()
def tw16908432525325150704:=()
def tw14919352657770050423:=()
def tw14414593186485510172:=()
def tw6004472925204849708:=()
def tw17430976670990860351:=()
def tw3393919901814395505:=()
def tw4154339338290250609:=()
def tw1911796746341231747:=()
def tw3726332719482313165:=()
def tw18396824241354128085:=()
def tw10189124276167701803:=()
def tw17484309506041714855:=()
def tw17791617791504848355:=()
def tw6180292076123086423:=()
def tw9954168166186674549:=()
def tw16578537844230362051:=()
def tw17283763720765182505:=()
def tw3061212706787965520:=()
def tw901219090024554171:=()
def tw13874148447802811637:=()
def tw6621675600501445950:=()
def tw17534001930942015214:=()
def tw3694049062364059647:=()
def tw9499122814102745769:=()
def tw1723147473716640894:=()
def tw515342908008616265:=()
def tw18100716144168925392:=()
def tw5453429414000806903:=()
def tw15295841730678994741:=()
def tw10268495873962903987:=()
def tw12168032841299206539:=()
def tw12305658673135046333:=()
def tw9163263333109334182:=()
def tw2226644289699033523:=()
def tw8201834658978013106:=()
def tw8972265752835657534:=()
def tw12040084164332411919:=()
def tw1151951832126747586:=()
def tw10603658561325967185:=()
def tw5941112546312609161:=()
def tw13551345756518670137:=()
def tw7906003827781083252:=()
def tw1114504663241166700:=()
def tw18238074309728259601:=()
def tw6465997840083988513:=()
def tw12679071283592881382:=()
def tw12006401421660748338:=()
def tw7541636517660548617:=()
def tw17844220859194448469:=()
def tw12446288430734131645:=()
def tw16714397459014709325:=()
def tw2978113739461011065:=()
def tw11243799690411192818:=()
def tw13838671622723726560:=()
def tw12903525114871321098:=()
def tw7217926005501882635:=()
def tw280453490618438743:=()
def tw15748308455659035412:=()
def tw3796134113138281488:=()
def tw1376761634029438264:=()
def tw17573004734328855117:=()
def tw13951445432660542513:=()
def tw1798340813174895465:=()
def tw14736371507889169196:=()
def tw8384536249199991574:=()
def tw14470082848971488024:=()
def tw15360654936582290682:=()
def tw16096488172335298837:=()
def tw18441507396276379616:=()
def tw17573446281867617314:=()
def tw4362569445358467791:=()
def tw16739513354592987846:=()
def tw2018981943348931281:=()
def tw609270082761766524:=()
def tw18046185390840057691:=()
def tw8758216291138827473:=()
def tw16718377831871593805:=()
def tw161420160824371754:=()
def tw144149278400729996:=()
def tw17349567730942608786:=()
def tw11966524904133288911:=()
def tw928094694186026253:=()
def tw1564693792711010397:=()
def tw4571954311220399192:=()
def tw3159172522696988742:=()
def tw4358433382656356448:=()
def tw16723612925196940769:=()
def tw313633516887041991:=()
def tw8077781058581062547:=()
def tw482236988727908860:=()
def tw1656436934178180092:=()
def tw8291069785832508418:=()
def tw6863330308492373085:=()
def tw7758174727217748317:=()
def tw17613891858861901047:=()
def tw1124101146083190984:=()
def tw11214259404914511976:=()
def tw17508325592846669084:=()
def tw4869357420088223582:=()
def tw6579079060334875377:=()
def tw8077671921294363523:=()
def tw9753372172909369973:=()
def tw1705995201737572816:=()
def tw15393622319748497885:=()
def tw7167615151888084015:=()
def tw12363635214345102568:=()
def tw7840353423552492728:=()
def tw13187216497929673777:=()
def tw1761495754630632551:=()
def tw3968378179052465415:=()
def tw11264238668086776626:=()
def tw16165176897661315471:=()
def tw16860488184756381518:=()
def tw9632633823599136962:=()
def tw8328694457195489372:=()
def tw8029357702210039554:=()
def tw3498596002232264653:=()
def tw17488820735048298040:=()
def tw12349593487251308991:=()
def tw353707183413979833:=()
def tw14163027411433293152:=()
def tw4392539459520233786:=()
def tw763062512485050244:=()
def tw1474925714675484890:=()
def tw4539415083945893346:=()
def tw1087565090812314971:=()
def tw8021830136224904444:=()
def tw8169461785754758546:=()
def tw492077040539448364:=()
def tw14637782596616663698:=()
def tw13909760202010643114:=()
def tw2873380947957877755:=()
def tw14678759646991289035:=()
def tw15202100202549644697:=()
def tw13425287980603641790:=()
def tw16106407789675224559:=()
def tw17174632363660543042:=()
def tw14291635945591313362:=()
def tw14729608041210097229:=()
def tw11180825415866086720:=()
def tw5663675402164607309:=()
def tw169406302950561974:=()
def tw8912601293323192014:=()
def tw16629110956665343295:=()
def tw5556436901120907893:=()
def tw6540394382779198551:=()
def tw13632064881189804416:=()
def tw410060510367044287:=()
def tw16839774158308913358:=()
def tw7060918784313095101:=()
def tw16122240740144177695:=()
def tw1542371339543078477:=()
def tw17960637870501002051:=()
def tw18348635392983808758:=()
def tw15528194807474901071:=()
def tw7942899514500586272:=()
def tw8478308802029999225:=()
def tw9228651247184783216:=()
def tw4098922228289524493:=()
def tw13392157537536011777:=()
def tw15061435602414158154:=()
def tw9572160720848106624:=()
def tw991936106987582830:=()
def tw4057702619078640491:=()
def tw16428614936088135204:=()
def tw12996506080152296089:=()
def tw14307470095093813142:=()
def tw15249528509395775610:=()
def tw4576461226367140553:=()
def tw110712588584933849:=()
def tw10418295868191652893:=()
def tw3186784077055685738:=()
def tw17208425214811804776:=()
def tw15478077676289543501:=()
def tw5468565205416274467:=()
def tw11800355334680281789:=()
end PySem.W.Fast
open PySem PySem.W PyProof.Rows
set_option maxRecDepth 100000 in
set_option maxHeartbeats 0 in
theorem PySem.Challenge.cw_rotafair_k06_what_is_no_rule_holds : PySem.Challenge.rw_rotafair_k06_what_is_no_rule.Holds := by
 w_on; o_law; z_head; (case hw=>w_witness2)
 k_fill
 refine K06.walkX (fun _=>rfl) ?_
 refine K06.walk (l:=PySem.Challenge.rw_rotafair_k06_what_is_no_rule) rfl rfl (fun w h Y=>Y) ?F
 case F =>
  intro w mg fa h KX G hmg
  refine' K06.all_mk KX G hmg ?J6H ?J8m ?J6p ?J8h ?J5d ?J9Z ?J33 ?J54 ?J5o ?J6t ?J6l ?J4f ?J47 ?J56 ?a1 ?i1 ?l1 ?c1 ?k1 ?a2 ?i2 ?l2 ?c2 ?k2 ?a3 ?i3 ?l3 ?c3 ?k3 ?a4 ?i4 ?l4 ?c4 ?k4 ?a5 ?i5 ?l5 ?c5 ?k5 ?a6 ?i6 ?l6 ?c6 ?k6 ?a7 ?l7 ?c7 ?k7 ?a8 ?l8 ?c8 ?k8 ?a9 ?l9 ?c9 ?k9 ?a10 ?l10 ?c10 ?k10 ?a11 ?l11 ?c11 ?k11 ?a12 ?l12 ?c12 ?k12 ?a13 ?l13 ?c13 ?k13 ?a14 ?l14 ?c14 ?k14 ?a15 ?l15 ?c15 ?k15 ?a16 ?l16 ?c16 ?k16 ?a17 ?i17 ?l17 ?c17 ?k17 ?a18 ?i18 ?l18 ?c18 ?k18 ?a19 ?i19 ?l19 ?c19 ?k19 ?a20 ?l20 ?c20 ?k20 ?a21 ?l21 ?c21 ?k21 ?a22 ?i22 ?l22 ?c22 ?k22 ?a23 ?i23 ?l23 ?c23 ?k23 ?a24 ?i24 ?l24 ?c24 ?k24 ?a25 ?l25 ?c25 ?k25 ?a26 ?l26 ?c26 ?k26 ?a27 ?l27 ?c27 ?k27 ?a28 ?l28 ?c28 ?k28 ?a29 ?l29 ?c29 ?k29 ?a30 ?l30 ?c30 ?k30 ?a31 ?l31 ?c31 ?k31 ?a32 ?l32 ?c32 ?k32 ?a33 ?l33 ?c33 ?k33 ?a34 ?l34 ?c34 ?k34 ?a35 ?l35 ?c35 ?k35 ?a36 ?l36 ?c36 ?k36 ?a37 ?l37 ?c37 ?k37 ?a38 ?l38 ?c38 ?k38 ?J3R ?J3S ?J3N ?J3D ?J5f ?J5m ?J4N ?J4O ?J4L ?J4P ?J6g ?J6I ?J3K ?J3L ?J3H ?J3G ?J57 ?J5j ?J4K ?J4Q ?J4R ?J4M ?J6A ?J6w ?J3b ?J3a ?J37 ?J38 ?J4b ?J4a ?J6L ?J6q ?J6F ?J6B ?J8d ?J8b ?J2f ?J4e ?J4d ?J4g ?J39 ?J4c ?J04 ?JZ ?J0g ?J0i ?J0p ?J0o ?J0b ?J09 ?J0j ?yn ?yt ?J5k ?J5b ?J1R ?J2a ?J1M ?J1D ?J0E ?J2s ?J6k ?J6x ?J25 ?J2o ?J28 ?J1V ?J0Z ?J2G ?J59 ?J52 ?J1P ?J24 ?J1O ?J1B ?J0F ?J2m ?J6n ?J6z ?J23 ?J2r ?J29 ?J1T ?J11 ?J2L ?J48 ?J46 ?J1s ?J1N ?J1x ?J0Y ?J0q ?J26 ?J8n ?J88 ?J2n ?J2H ?J2p ?J2j ?J1A ?J3c ?J0M ?J18 ?J0R ?J1e ?J0Q ?J0s ?J0T ?J1j ?J0N ?J0u ?J0k ?J1f ?J1C ?J7e ?J1U ?J3I ?JC ?J0B ?J2M ?J7t ?J5l ?J1z ?J1w ?J1u ?J0C ?J0D
  (case J6H=>k_is)
  (case J8m=>k_is)
  (case J6p=>k_is)
  (case J8h=>k_is)
  (case J5d=>k_is)
  (case J9Z=>k_is)
  (case J33=>k_is)
  (case J54=>k_is)
  (case J5o=>k_is)
  (case J6t=>k_is)
  (case J6l=>k_is)
  (case J4f=>k_is)
  (case J47=>k_is)
  (case J56=>k_is)
  (case a1=>k_is)
  (case i1=>k_is)
  (case l1=>k_is)
  (case c1=>k_is)
  (case k1=>k_is)
  (case a2=>k_is)
  (case i2=>k_is)
  (case l2=>k_is)
  (case c2=>k_is)
  (case k2=>k_is)
  (case a3=>k_is)
  (case i3=>k_is)
  (case l3=>k_is)
  (case c3=>k_is)
  (case k3=>k_is)
  (case a4=>k_is)
  (case i4=>k_is)
  (case l4=>k_is)
  (case c4=>k_is)
  (case k4=>k_is)
  (case a5=>k_is)
  (case i5=>k_is)
  (case l5=>k_is)
  (case c5=>k_is)
  (case k5=>k_is)
  (case a6=>k_is)
  (case i6=>k_is)
  (case l6=>k_is)
  (case c6=>k_is)
  (case k6=>k_is)
  (case a7=>k_is)
  (case l7=>k_is)
  (case c7=>k_is)
  (case k7=>k_is)
  (case a8=>k_is)
  (case l8=>k_is)
  (case c8=>k_is)
  (case k8=>k_is)
  (case a9=>k_is)
  (case l9=>k_is)
  (case c9=>k_is)
  (case k9=>k_is)
  (case a10=>k_is)
  (case l10=>k_is)
  (case c10=>k_is)
  (case k10=>k_is)
  (case a11=>k_is)
  (case l11=>k_is)
  (case c11=>k_is)
  (case k11=>k_is)
  (case a12=>k_is)
  (case l12=>k_is)
  (case c12=>k_is)
  (case k12=>k_is)
  (case a13=>k_is)
  (case l13=>k_is)
  (case c13=>k_is)
  (case k13=>k_is)
  (case a14=>k_is)
  (case l14=>k_is)
  (case c14=>k_is)
  (case k14=>k_is)
  (case a15=>k_is)
  (case l15=>k_is)
  (case c15=>k_is)
  (case k15=>k_is)
  (case a16=>k_is)
  (case l16=>k_is)
  (case c16=>k_is)
  (case k16=>k_is)
  (case a17=>k_is)
  (case i17=>k_is)
  (case l17=>k_is)
  (case c17=>k_is)
  (case k17=>k_is)
  (case a18=>k_is)
  (case i18=>k_is)
  (case l18=>k_is)
  (case c18=>k_is)
  (case k18=>k_is)
  (case a19=>k_is)
  (case i19=>k_is)
  (case l19=>k_is)
  (case c19=>k_is)
  (case k19=>k_is)
  (case a20=>k_is)
  (case l20=>k_is)
  (case c20=>k_is)
  (case k20=>k_is)
  (case a21=>k_is)
  (case l21=>k_is)
  (case c21=>k_is)
  (case k21=>k_is)
  (case a22=>k_is)
  (case i22=>k_is)
  (case l22=>k_is)
  (case c22=>k_is)
  (case k22=>k_is)
  (case a23=>k_is)
  (case i23=>k_is)
  (case l23=>k_is)
  (case c23=>k_is)
  (case k23=>k_is)
  (case a24=>k_is)
  (case i24=>k_is)
  (case l24=>k_is)
  (case c24=>k_is)
  (case k24=>k_is)
  (case a25=>k_is)
  (case l25=>k_is)
  (case c25=>k_is)
  (case k25=>k_is)
  (case a26=>k_is)
  (case l26=>k_is)
  (case c26=>k_is)
  (case k26=>k_is)
  (case a27=>k_is)
  (case l27=>k_is)
  (case c27=>k_is)
  (case k27=>k_is)
  (case a28=>k_is)
  (case l28=>k_is)
  (case c28=>k_is)
  (case k28=>k_is)
  (case a29=>k_is)
  (case l29=>k_is)
  (case c29=>k_is)
  (case k29=>k_is)
  (case a30=>k_is)
  (case l30=>k_is)
  (case c30=>k_is)
  (case k30=>k_is)
  (case a31=>k_is)
  (case l31=>k_is)
  (case c31=>k_is)
  (case k31=>k_is)
  (case a32=>k_is)
  (case l32=>k_is)
  (case c32=>k_is)
  (case k32=>k_is)
  (case a33=>k_is)
  (case l33=>k_is)
  (case c33=>k_is)
  (case k33=>k_is)
  (case a34=>k_is)
  (case l34=>k_is)
  (case c34=>k_is)
  (case k34=>k_is)
  (case a35=>k_is)
  (case l35=>k_is)
  (case c35=>k_is)
  (case k35=>k_is)
  (case a36=>k_is)
  (case l36=>k_is)
  (case c36=>k_is)
  (case k36=>k_is)
  (case a37=>k_is)
  (case l37=>k_is)
  (case c37=>k_is)
  (case k37=>k_is)
  (case a38=>k_is)
  (case l38=>k_is)
  (case c38=>k_is)
  (case k38=>k_is)
  (case J3R=>k_is)
  (case J3S=>k_is)
  (case J3N=>k_is)
  (case J3D=>k_is)
  (case J5f=>k_is)
  (case J5m=>k_is)
  (case J4N=>k_is)
  (case J4O=>k_is)
  (case J4L=>k_is)
  (case J4P=>k_is)
  (case J6g=>k_is)
  (case J6I=>k_is)
  (case J3K=>k_is)
  (case J3L=>k_is)
  (case J3H=>k_is)
  (case J3G=>k_is)
  (case J57=>k_is)
  (case J5j=>k_is)
  (case J4K=>k_is)
  (case J4Q=>k_is)
  (case J4R=>k_is)
  (case J4M=>k_is)
  (case J6A=>k_is)
  (case J6w=>k_is)
  (case J3b=>k_is)
  (case J3a=>k_is)
  (case J37=>k_is)
  (case J38=>k_is)
  (case J4b=>k_is)
  (case J4a=>k_is)
  (case J6L=>k_is)
  (case J6q=>k_is)
  (case J6F=>k_is)
  (case J6B=>k_is)
  (case J8d=>k_is)
  (case J8b=>k_is)
  (case J2f=>k_exc)
  (case J4e=>k_is)
  (case J4d=>k_is)
  (case J4g=>k_is)
  (case J39=>k_is)
  (case J4c=>k_is)
  (case J04=>kts_exm)
  (case JZ=>kit_is)
  (case J0g=>kit_is)
  (case J0i=>kit_is)
  (case J0p=>kit_is)
  (case J0o=>kit_is)
  (case J0b=>kit_is)
  (case J09=>kit_is)
  (case J0j=>kit_is)
  (case yn=>k_is)
  (case yt=>k_is)
  (case J5k=>k_is)
  (case J5b=>k_is)
  (case J1R=>kit_is)
  (case J2a=>kit_is)
  (case J1M=>kit_is)
  (case J1D=>kit_is)
  (case J0E=>kit_is)
  (case J2s=>kit_is)
  (case J6k=>k_is)
  (case J6x=>k_is)
  (case J25=>kit_is)
  (case J2o=>kit_is)
  (case J28=>kit_is)
  (case J1V=>kit_is)
  (case J0Z=>kit_is)
  (case J2G=>kit_is)
  (case J59=>k_is)
  (case J52=>k_is)
  (case J1P=>kit_is)
  (case J24=>kit_is)
  (case J1O=>kit_is)
  (case J1B=>kit_is)
  (case J0F=>kit_is)
  (case J2m=>kit_is)
  (case J6n=>k_is)
  (case J6z=>k_is)
  (case J23=>kit_is)
  (case J2r=>kit_is)
  (case J29=>kit_is)
  (case J1T=>kit_is)
  (case J11=>kit_is)
  (case J2L=>kit_is)
  (case J48=>k_is)
  (case J46=>k_is)
  (case J1s=>kit_is)
  (case J1N=>kit_is)
  (case J1x=>kit_is)
  (case J0Y=>kit_is)
  (case J0q=>kit_is)
  (case J26=>kit_is)
  (case J8n=>k_is)
  (case J88=>k_is)
  (case J2n=>kit_is)
  (case J2H=>kit_is)
  (case J2p=>kit_is)
  (case J2j=>kit_is)
  (case J1A=>kit_is)
  (case J3c=>kit_is)
  (case J0M=>k_is)
  (case J18=>k_is)
  (case J0R=>k_is)
  (case J1e=>k_is)
  (case J0Q=>k_is)
  (case J0s=>k_is)
  (case J0T=>k_is)
  (case J1j=>k_is)
  (case J0N=>k_is)
  (case J0u=>k_is)
  (case J0k=>k_is)
  (case J1f=>k_is)
  (case J1C=>k_is)
  (case J7e=>k_is)
  (case J1U=>k_is)
  (case J3I=>k_is)
  (case JC=>k_is)
  (case J0B=>k_is)
  (case J2M=>k_is)
  (case J7t=>k_is)
  (case J5l=>k_is)
  (case J1z=>k_is)
  (case J1w=>k_is)
  (case J1u=>k_is)
  (case J0C=>k_is)
  (case J0D=>k_is)
#print axioms PySem.Challenge.cw_rotafair_k06_what_is_no_rule_holds
