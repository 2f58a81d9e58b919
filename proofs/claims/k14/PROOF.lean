import PyProof.Rows.All
import Wide.All
import OpenK.AllK
import Wide.FinOn
import Lean
import PyProof.EqAt
import PyProof.EqKinds
import PyProof.TupleCall
import KE.KIntText
import PyProof.ListRange
import PyProof.Rows.StrMul
import PyProof.Rows.StrCountLaw
import PyProof.Rows.StrLen
import PyProof.ToksMono
import PyProof.Rows.StrJoinRep
import PySem.Challenge.RW_rotafair_k14_too_wide
set_option Elab.async false
set_option linter.all false
set_option maxRecDepth 100000
namespace L2
open PySem PySem.Spec PyProof.Rows
noncomputable abbrev Key:=Sum Int Str
noncomputable def J4H : Key → Value → Bool
 | .inl k,v=>Value.isInt k v
 | .inr x,v=>Value.isStrOf x v
noncomputable def keyH (w : World) : Key → Int
 | .inl k=>hashInt k
 | .inr x=>hashStr w x
theorem JT : ∀ {k : Key} {v : Value},J4H k v = true → (∃ i t,k = Sum.inl i ∧ v = Value.int i t) ∨ (∃ x t,k = Sum.inr x ∧ v = Value.str x t)
 | .inl i,v,h=>by
  obtain ⟨t,e⟩:=Value.isInt_shape (k:=i) (v:=v) h
  exact .inl ⟨i,t,rfl,e⟩
 | .inr x,v,h=>by
  obtain ⟨t,e⟩:=Value.isStrOf_shape (x:=x) (v:=v) h
  exact .inr ⟨x,t,rfl,e⟩
theorem J8s (i : Int) (t : Tok) : J4H (.inl i) (.int i t) = true:=by simp [J4H,Value.isInt]
theorem J8k (x : Str) (t : Tok) : J4H (.inr x) (.str x t) = true:=by simp [J4H,Value.isStrOf]
theorem Jbc (a b : Int) : decide ((Sum.inl a : Key) = Sum.inl b) = (a == b):=by
 by_cases e : a = b
 ·subst e; simp
 ·have h : ¬ (Sum.inl a : Key) = Sum.inl b:=fun q=>e (Sum.inl.inj q)
  rw [decide_eq_false h]
  exact (beq_eq_false_iff_ne.mpr e).symm
theorem Jbe (a b : Str) : decide ((Sum.inr a : Key) = Sum.inr b) = decide (a = b):=by
 by_cases e : a = b
 ·subst e; simp
 ·have h : ¬ (Sum.inr a : Key) = Sum.inr b:=fun q=>e (Sum.inr.inj q)
  rw [decide_eq_false h,decide_eq_false e]
theorem Jb2 (a : Int) (b : Str) : decide ((Sum.inl a : Key) = Sum.inr b) = false:=decide_eq_false (fun q=>nomatch q)
theorem JaW (a : Str) (b : Int) : decide ((Sum.inr a : Key) = Sum.inl b) = false:=decide_eq_false (fun q=>nomatch q)
noncomputable def JX (prog : Program) (w : World) : PySem.KeyKind prog w Key where
 is:=J4H
 hash:=keyH w
 inj:=fun v a b ha hb=>by
  rcases JT ha with ⟨i,t,rfl,rfl⟩ | ⟨x,t,rfl,rfl⟩
  ·rcases JT hb with ⟨j,u,rfl,e⟩ | ⟨y,u,rfl,e⟩
   ·injection e with e1 _; rw [e1]
   ·exact nomatch e
  ·rcases JT hb with ⟨j,u,rfl,e⟩ | ⟨y,u,rfl,e⟩
   ·exact nomatch e
   ·injection e with e1 _; rw [e1]
 byValue:=fun k v h=>by
  rcases JT h with ⟨i,t,rfl,rfl⟩ | ⟨x,t,rfl,rfl⟩ <;> rfl
 pyHash:=fun hv h=>by
  rcases JT hv with ⟨i,t,rfl,rfl⟩ | ⟨x,t,rfl,rfl⟩
  ·exact wpAny_pyHash_int h
  ·exact wpAny_pyHash_str h
 eqBool:=fun hu hv h=>by
  rcases JT hu with ⟨i,t,rfl,rfl⟩ | ⟨x,t,rfl,rfl⟩
  ·rcases JT hv with ⟨j,u,rfl,rfl⟩ | ⟨y,u,rfl,rfl⟩
   ·rw [Jbc] at h; exact wpAny_eqBool_int h
   ·rw [Jb2] at h; exact SeqAt.EqAt.int_str i t y u _ _ _ _ h
  ·rcases JT hv with ⟨j,u,rfl,rfl⟩ | ⟨y,u,rfl,rfl⟩
   ·rw [JaW] at h; exact SeqAt.EqAt.str_int x t j u _ _ _ _ h
   ·rw [Jbe] at h; exact wpAny_eqBool_str h
 «strs»:=fun k x t v h=>by
  rcases JT h with ⟨i,u,rfl,e⟩ | ⟨y,u,rfl,e⟩
  ·exact nomatch e
  ·injection e with e1 _
   subst e1
   cases v <;> rfl
theorem J6b (prog : Program) (w : World) (i : Int) (t : Tok) : (JX prog w).is (.inl i) (.int i t) = true:=J8s i t
theorem J5Z (prog : Program) (w : World) (x : Str) (t : Tok) : (JX prog w).is (.inr x) (.str x t) = true:=J8k x t
end L2
namespace L2
open PySem PySem.Spec PyProof.Rows
inductive V where
 | non | bl (b : Bool) | int (i : Int) | str (x : Str) | byt (b : Array UInt8) | flt (b : UInt64) | ref (a : Addr) | ty (n : String)
 deriving DecidableEq
noncomputable def RelV : V → Value → Prop
 | .non,u=>u = Value.none
 | .bl b,u=>u = Value.bool b
 | .int i,u=>∃ t,u = Value.int i t
 | .str x,u=>∃ t,u = Value.str x t
 | .byt b,u=>∃ t,u = Value.bytes b t
 | .flt b,u=>∃ t,u = Value.float b t
 | .ref a,u=>u = Value.ref a
 | .ty n,u=>u = Value.type n
noncomputable abbrev Vals : List V → List Value → Prop:=Paired RelV
theorem Vals.length {xs : List V} {us : List Value} (r : Vals xs us) : xs.length = us.length:=Paired.length r
theorem Vals.get : ∀ {xs : List V} {us : List Value} {i : Nat} {x : V},Vals xs us → xs[i]? = some x → ∃ u,us[i]? = some u ∧ RelV x u
 | _,_,_,_,.nil,e=>by simp at e
 | _,_,0,_,.cons r _,e=>by simp at e; subst e; exact ⟨_,rfl,r⟩
 | _,_,i + 1,x,.cons _ t,e=>by
  obtain ⟨u,h1,h2⟩:=Vals.get (i:=i) (x:=x) t (by simpa using e)
  exact ⟨u,by simpa using h1,h2⟩
theorem Vals.append : ∀ {xs ys : List V} {us ws : List Value},Vals xs us → Vals ys ws → Vals (xs ++ ys) (us ++ ws)
 | _,_,_,_,.nil,s=>s
 | _,_,_,_,.cons r t,s=>.cons r (Vals.append t s)
noncomputable def RelO : Option V → Option Value → Prop
 | some v,some u=>RelV v u
 | none,none=>True
 | _,_=>False
noncomputable def KV {κ : Type} : List (κ × V) → List (κ × Value) → Prop:=Paired fun (p : κ × V) (q : κ × Value)=>p.1 = q.1 ∧ RelV p.2 q.2
noncomputable def kV : Key → V
 | .inl i=>.int i
 | .inr x=>.str x
inductive HO where
 | lst (xs : List V)
 | tup (xs : List V)
 | dK (kvs : List (Key × V)) | dT (kvs : List (List Key × V))
 | set (S : Int → Bool) (n : Nat)
 | ins (C dx : Addr) (fs : List (Str × V))
 | own (x : Addr)
 | xd (fs : List (Str × V))
 | met (f x : Addr)
 | rng (lo hi : Int)
 | frz (o : Obj) (u : HO)
 | tbl (ps : Array Value)
 | ext (φ : Heap → Prop)
noncomputable abbrev Hp:=Addr → Option HO
noncomputable def upd (H : Hp) (a : Addr) (o : HO) : Hp:=fun b=>if b = a then some o else H b
theorem Jd {H : Hp} {a : Addr} {o : HO} : upd H a o a = some o:=by unfold upd; rw [if_pos rfl]
theorem Jq {H : Hp} {a b : Addr} {o : HO} (h : b ≠ a) : upd H a o b = H b:=by unfold upd; rw [if_neg h]
theorem JaH {H : Hp} {a b : Addr} {o u : HO} (h : H a = some o) (h' : H b = some u) (d : o ≠ u) : a ≠ b:=by
 intro e; subst e; rw [h] at h'; exact d (Option.some.inj h')
theorem Jo {H : Hp} {a b : Addr} {o : HO} (h : H a = some o) (h' : H b = none) : a ≠ b:=by
 intro e; subst e; rw [h] at h'; cases h'
section
variable (P : Program) (w : World)
noncomputable def J0g (H : Hp) (h : Heap) (a : Addr) : HO → Prop
 | .lst xs=>xs.length ≤ sizeLine ∧ ∃ (its : List Value) (n : Nat),Vals xs its ∧ h.get? a = some { cls:=.type "list",data:=.seq its.toArray n }
 | .tup xs=>xs.length ≤ sizeLine ∧ ∃ its : List Value,Vals xs its ∧ IsTup h a its.toArray
 | .dK kvs=>kvs.length ≤ sizeLine ∧ (a == sysModules) = false ∧ ∃ vs,KV kvs vs ∧ h.DictOf (JX P w) a vs
 | .dT kvs=>kvs.length ≤ sizeLine ∧ (a == sysModules) = false ∧ ∃ xs : List (List Key × Addr × Value),
   Paired (fun (p : List Key × V) (q : List Key × Addr × Value)=>p.1 = q.1 ∧ H q.2.1 = some (.tup (p.1.map kV)) ∧ RelV p.2 q.2.2) kvs xs ∧
   ∃ o es ep,h.get? a = some o ∧ o.ExactDict ∧ o.data = .dict es ep ∧ es.toList = xs.map (entryOfKey (tupleKind (JX P w))) ∧ (xs.map (·.1)).Nodup
 | .set S n=>h.SetOf (intKind P w) a S n
 | .ins C dx fs=>H dx = some (.own a) ∧ fs.length ≤ 1000 ∧ dx ≠ a ∧ h.get? a = some (PySem.W.instObj C dx) ∧
   ∃ mA,h.Ns1 dx mA ∧ (∀ f,RelO (fs.lookup f) (mA f)) ∧ PySem.Within mA (fs.map (·.1))
 | .own _=>∃ o,h.get? a = some o
 | .xd fs=>∃ mA,h.Ns1 a mA ∧ ∀ f,RelO (fs.lookup f) (mA f)
 | .rng lo hi=>∃ t u v,h.get? a = some { cls:=.type "range",data:=.fields #[.int lo t,.int hi u,.int 1 v] }
 | .frz o u=>h.get? a = some o ∧ J0g H h a u
 | .tbl ps=>h.get? a = some { cls:=.none,data:=.fields ps }
 | .met f x=>h.get? a = some (PySem.W.methodObj (.ref f) (.ref x))
 | .ext φ=>φ h ∧ (∃ o,h.get? a = some o) ∧ ∀ h1 h2 : Heap,φ h1 → (∀ o,h1.get? a = some o → h2.get? a = some o) → φ h2
noncomputable def HOk (H : Hp) (h : Heap) : Prop:=∀ a o,H a = some o → J0g P w H h a o
end
section
variable {P : Program} {w : World} {H H' : Hp} {h h' : Heap} {a : Addr} {o : HO}
theorem J0g.lt (x : J0g P w H h a o) : a < h.objs.size:=by
 cases o with
 | lst xs=>obtain ⟨_,_,_,_,e⟩:=x; exact Heap.lt_size e
 | tup xs=>obtain ⟨_,_,_,p⟩:=x; exact p.lt
 | dK kvs=>obtain ⟨_,_,_,_,o,_,_,e,_⟩:=x; exact Heap.lt_size e
 | dT kvs=>obtain ⟨_,_,_,_,o,_,_,e,_⟩:=x; exact Heap.lt_size e
 | set S n=>obtain ⟨o,_,_,_,e,_⟩:=x; exact Heap.lt_size e
 | ins C dx fs=>obtain ⟨_,_,_,e,_⟩:=x; exact Heap.lt_size e
 | own y=>obtain ⟨_,e⟩:=x; exact Heap.lt_size e
 | xd fs=>obtain ⟨_,⟨_,_,_,e,_⟩,_⟩:=x; exact Heap.lt_size e
 | rng lo hi=>obtain ⟨_,_,_,e⟩:=x; exact Heap.lt_size e
 | frz ob u=>obtain ⟨e,_⟩:=x; exact Heap.lt_size e
 | tbl ps=>exact Heap.lt_size (show h.get? a = some _ from x)
 | met f y=>exact Heap.lt_size (show h.get? a = some _ from x)
 | ext φ=>obtain ⟨_,⟨_,e⟩,_⟩:=x; exact Heap.lt_size e
theorem Paired.mapP {α β : Type} {F G : α → β → Prop} : ∀ {l₁ : List α} {l₂ : List β},Paired F l₁ l₂ → (∀ a b,F a b → G a b) → Paired G l₁ l₂
 | _,_,.nil,_=>.nil
 | _,_,.cons r t,f=>.cons (f _ _ r) (Paired.mapP t f)
theorem J0g.stay (x : J0g P w H h a o) (k : ∀ b u,(b = a ∨ H b = some (.own a)) → h.get? b = some u → h'.get? b = some u)
  (ho : ∀ b,H b = some (.own a) → H' b = some (.own a)) (ht : ∀ b xs,H b = some (.tup xs) → H' b = some (.tup xs)) : J0g P w H' h' a o:=by
 induction o with
 | lst xs=>obtain ⟨z,its,n,r,e⟩:=x; exact ⟨z,its,n,r,k _ _ (.inl rfl) e⟩
 | tup xs=>obtain ⟨z,its,r,ob,e,c⟩:=x; exact ⟨z,its,r,ob,k _ _ (.inl rfl) e,c⟩
 | dK kvs=>obtain ⟨z,y,vs,r,ob,es,ep,e,c⟩:=x; exact ⟨z,y,vs,r,ob,es,ep,k _ _ (.inl rfl) e,c⟩
 | dT kvs =>
  obtain ⟨z,y,xs,r,ob,es,ep,e,c⟩:=x
  exact ⟨z,y,xs,Paired.mapP r fun p q z=>⟨z.1,ht _ _ z.2.1,z.2.2⟩,ob,es,ep,k _ _ (.inl rfl) e,c⟩
 | set S n=>obtain ⟨ob,es,ep,t,e,c⟩:=x; exact ⟨ob,es,ep,t,k _ _ (.inl rfl) e,c⟩
 | ins C dx fs =>
  obtain ⟨d,z,ne,e,mA,⟨od,es,ep,e2,c⟩,r⟩:=x
  exact ⟨ho _ d,z,ne,k _ _ (.inl rfl) e,mA,⟨od,es,ep,k _ _ (.inr d) e2,c⟩,r⟩
 | own y=>obtain ⟨ob,e⟩:=x; exact ⟨ob,k _ _ (.inl rfl) e⟩
 | xd fs=>obtain ⟨mA,⟨od,es,ep,e,c⟩,r⟩:=x; exact ⟨mA,⟨od,es,ep,k _ _ (.inl rfl) e,c⟩,r⟩
 | rng lo hi=>obtain ⟨t,u,v,e⟩:=x; exact ⟨t,u,v,k _ _ (.inl rfl) e⟩
 | frz ob u ih=>obtain ⟨e,q⟩:=x; exact ⟨k _ _ (.inl rfl) e,ih q⟩
 | tbl ps =>
  have e : h.get? a = some { cls:=.none,data:=.fields ps }:=x
  show h'.get? a = some { cls:=.none,data:=.fields ps }
  exact k a _ (.inl rfl) e
 | met f y =>
  have e : h.get? a = some (PySem.W.methodObj (.ref f) (.ref y)):=x
  show h'.get? a = some (PySem.W.methodObj (.ref f) (.ref y))
  exact k a _ (.inl rfl) e
 | ext φ=>obtain ⟨p,⟨o,e⟩,st⟩:=x; exact ⟨st _ _ p fun o q=>k _ _ (.inl rfl) q,⟨o,k _ _ (.inl rfl) e⟩,st⟩
theorem HOk.lt (x : HOk P w H h) (e : H a = some o) : a < h.objs.size:=(x a o e).lt
theorem HOk.fresh (x : HOk P w H h) (e : h.objs.size ≤ a) : H a = none:=by
 cases q : H a with
 | none=>rfl
 | some u=>exact absurd (Nat.lt_of_lt_of_le (x.lt q) e) (Nat.lt_irrefl _)
theorem HOk.kept (x : HOk P w H h) (k : ∀ b u,h.get? b = some u → h'.get? b = some u) : HOk P w H h':=fun a o e =>
 (x a o e).stay (fun b u _ q=>k b u q) (fun _ q=>q) fun _ _ q=>q
theorem HOk.laid (x : HOk P w H h) (k : ∀ b u,h.get? b = some u → h'.get? b = some u) (hp : h.objs.size ≤ a) (new : J0g P w (upd H a o) h' a o) : HOk P w (upd H a o) h':=fun b u e=>by
 have hn:=x.fresh hp
 by_cases hb : b = a
 ·subst hb; rw [Jd] at e; cases e; exact new
 ·rw [Jq hb] at e
  exact (x b u e).stay (fun c v _ q=>k c v q) (fun c q=>by rw [Jq (Jo q hn)]; exact q) fun c xs q=>by rw [Jq (Jo q hn)]; exact q
end
noncomputable def Rd (H : Hp) (a : Addr) (u : HO) : Prop:=H a = some u ∨ ∃ o,H a = some (.frz o u)
theorem Rd.ok {P : Program} {w : World} {H : Hp} {h : Heap} {a : Addr} {u : HO} (r : Rd H a u) (x : HOk P w H h) : J0g P w H h a u:=by
 rcases r with r | ⟨o,r⟩
 ·exact x a u r
 ·obtain ⟨_,q⟩:=x a _ r
  exact q
noncomputable def Mut : Option HO → Prop
 | some (.lst _)=>True
 | some (.dK _)=>True
 | some (.dT _)=>True
 | some (.set _ _)=>True
 | some (.ins _ _ _)=>True
 | some (.ext _)=>True
 | _=>False
section
variable {P : Program} {w : World} {H : Hp} {h h' : Heap} {x e : Addr} {o' : HO}
theorem HOk.write (ok : HOk P w H h) (mu : Mut (H x)) (he : e = x ∨ H e = some (.own x)) (k : ∀ b u,b ≠ e → h.get? b = some u → h'.get? b = some u) (heo : ∃ u,h'.get? e = some u)
  (new : J0g P w (upd H x o') h' x o') : HOk P w (upd H x o') h':=fun b u q=>by
 have nown : ∀ c y,H c = some (.own y) → c ≠ x:=fun c y r z=>by subst z; rw [r] at mu; exact mu
 have ntup : ∀ c xs,H c = some (.tup xs) → c ≠ x:=fun c xs r z=>by subst z; rw [r] at mu; exact mu
 by_cases hb : b = x
 ·subst hb; rw [Jd] at q; cases q; exact new
 ·rw [Jq hb] at q
  by_cases hbe : b = e
  ·have q' : H b = some (.own x):=by
    rcases he with z | z
    ·exact absurd (hbe.trans z) hb
    ·rw [hbe]; exact z
   rw [q] at q'; cases q'
   obtain ⟨v,hv⟩:=heo
   exact ⟨v,by rw [hbe]; exact hv⟩
  ·refine (ok b u q).stay (fun c v hc r=>k c v ?_ r) (fun c r=>by rw [Jq (nown c b r)]; exact r) fun c xs r=>by rw [Jq (ntup c xs r)]; exact r
   rcases hc with rfl | hc
   ·exact hbe
   ·rintro rfl
    rcases he with z | z
    ·exact nown c b hc z
    ·rw [hc] at z; cases z; exact hb rfl
end
structure Un (fs ex : List Addr) (H H' : Hp) (h h' : Heap) : Prop where
 keep : ∀ b o,h.get? b = some o → H b = none → b ∉ fs → b ∉ ex → h'.get? b = some o
 slot : ∀ b o,h.get? b = some o → H b = none → b ∈ fs → b ∉ ex → ∃ sl,h'.get? b = some { o with slots:=sl }
 free : ∀ b o,h.get? b = some o → H b = none → b ∉ ex → H' b = none
 there : ∀ b o,h.get? b = some o → b ∉ ex → ∃ o',h'.get? b = some o'
 tups : ∀ b xs,H b = some (.tup xs) → H' b = some (.tup xs)
 frzs : ∀ b o u,H b = some (.frz o u) → H' b = some (.frz o u)
 tbls : ∀ b ps,H b = some (.tbl ps) → ∃ more,H' b = some (.tbl (ps ++ more))
section
variable {fs fs' ex ex' : List Addr} {H H1 H2 : Hp} {h h1 h2 h' : Heap} {a x e : Addr} {o : HO}
theorem Un.any (u : Un fs ex H H1 h h1) {b : Addr} {ob : Obj} (q : h.get? b = some ob) (n : H b = none) (hx : b ∉ ex) : ∃ sl,h1.get? b = some { ob with slots:=sl }:=by
 by_cases hb : b ∈ fs
 ·exact u.slot b ob q n hb hx
 ·exact ⟨ob.slots,u.keep b ob q n hb hx⟩
theorem Un.kept (k : ∀ b u,h.get? b = some u → h'.get? b = some u) : Un fs ex H H h h' :=
 ⟨fun b ob q _ _ _=>k b ob q,fun b ob q _ _ _=>⟨ob.slots,k b ob q⟩,fun _ _ _ n _=>n,fun b ob q _=>⟨ob,k b ob q⟩,fun _ _ q=>q,fun _ _ _ q=>q,fun _ ps q=>⟨#[],by rw [q]; simp⟩⟩
theorem Un.refl : Un fs ex H H h h:=Un.kept fun _ _ q=>q
theorem Un.laid (k : ∀ b u,h.get? b = some u → h'.get? b = some u) (hp : h.objs.size ≤ a) (hn : H a = none) : Un fs ex H (upd H a o) h h' where
 keep:=fun b u q _ _ _=>k b u q
 slot:=fun b u q _ _ _=>⟨u.slots,k b u q⟩
 free:=fun b u q n _=>by rw [Jq (Nat.ne_of_lt (Nat.lt_of_lt_of_le (Heap.lt_size q) hp))]; exact n
 there:=fun b u q _=>⟨u,k b u q⟩
 tups:=fun b xs q=>by rw [Jq (Jo q hn)]; exact q
 frzs:=fun b u xs q=>by rw [Jq (Jo q hn)]; exact q
 tbls:=fun b ps q=>⟨#[],by rw [Jq (Jo q hn),q]; simp⟩
theorem Un.write (mu : Mut (H x)) (he : e = x ∨ H e = some (.own x)) (k : ∀ b u,b ≠ e → h.get? b = some u → h'.get? b = some u) (heo : ∃ u,h'.get? e = some u) : Un fs ex H (upd H x o) h h':=by
 have hx : ∀ b,H b = none → b ≠ x:=fun b n z=>by subst z; rw [n] at mu; exact mu
 have hb : ∀ b,H b = none → b ≠ e:=fun b n z=>by
  subst z
  rcases he with r | r
  ·exact hx b n r
  ·rw [n] at r; cases r
 have hm : ∀ b u,H b = some u → ¬ Mut (some u) → b ≠ x:=fun b u q nm z=>by subst z; rw [q] at mu; exact nm mu
 refine ⟨fun b u q n _ _=>k b u (hb b n) q,fun b u q n _ _=>⟨u.slots,k b u (hb b n) q⟩,fun b u q n _=>by rw [Jq (hx b n)]; exact n,fun b u q _=>?_,
  fun b xs q=>by rw [Jq (hm b _ q fun z=>z)]; exact q,fun b u xs q=>by rw [Jq (hm b _ q fun z=>z)]; exact q,fun b ps q=>⟨#[],by rw [Jq (hm b _ q fun z=>z),q]; simp⟩⟩
 by_cases hbe : b = e
 ·subst hbe; exact heo
 ·exact ⟨u,k b u hbe q⟩
end
noncomputable def trk (h : Heap) (H : Hp) : List Addr:=(List.range h.objs.size).filter fun a=>(H a).isSome
noncomputable def hidT (h : Heap) (H : Hp) : Heap:=PySem.W.hideAll h (trk h H)
theorem J8c (h : Heap) (H : Hp) : (hidT h H).objs.size = h.objs.size:=PySem.W.hideAll_size _ _
theorem J93 {h : Heap} {H : Hp} {b : Addr} {o : Obj} (e : h.get? b = some o) (n : H b = none) : (hidT h H).get? b = some o :=
 PySem.W.hideAll_get _ e fun hm=>by
  have q : (H b).isSome = true:=(List.mem_filter.mp hm).2
  rw [n] at q; simp at q
theorem Jaj {h : Heap} {H : Hp} {b : Addr} {o : Obj} (e : (hidT h H).get? b = some o) : h.get? b = some o ∧ H b = none:=by
 have e' : h.get? b = some o:=PySem.W.of_hideAll (trk h H) e
 refine ⟨e',?_⟩
 cases q : H b with
 | none=>rfl
 | some x =>
  have hm : b ∈ trk h H:=List.mem_filter.mpr ⟨List.mem_range.mpr (Heap.lt_size e'),by simp [q]⟩
  have z : (hidT h H).get? b = none:=PySem.W.hideAll_none (trk h H) hm
  rw [z] at e; cases e
end L2
namespace L2
open PySem PySem.Spec PyProof.Rows
structure Mod (K : PySem.W.Frag) (mg : Str → Option Value) (base : Heap) : Prop where
 kin : K.In base
 glob : base.Ns mainGlobals mg
 blt : ∃ mb,base.Ns builtinsNs mb ∧ ∀ x : Str,x ≠ "__name__" → mb x = bootBuiltins x
 nolimit : base.NoLimit
structure Cx where
 prog : Program
 w : World
 K : PySem.W.Frag
 mg : Str → Option Value
 base : Heap
 A : Around
 N : List Str
 s₀ : Shared
 H₀ : Hp
 env : Env
 outer : List Env
 stack : List Env
 ex : List Addr
 fn : Str → Bool
 calm : Bool
 pn : List (Addr × Obj)
 xe : Value → Shared → Prop
noncomputable def frs (l : List Env) : List Addr:=l.filterMap (·.frame)
noncomputable abbrev Cx.fs (X : Cx) : List Addr:=frs X.outer
noncomputable def Vis (sc : Scope) (x : Str) : Prop:=sc.names.lookup x = some .local ∨ sc.names.lookup x = some .cell ∨ sc.names.lookup x = some .free
noncomputable def Loc (sc : Scope) (x : Str) : Prop:=sc.names.lookup x = some .local ∨ sc.names.lookup x = some .cell
noncomputable def Look (env : Env) (h : Heap) (m : Str → Option Value) (x : Str) (u : Value) : Prop :=
 (env.kindOf x = some .local ∧ m x = some u) ∨ ((env.kindOf x = some .cell ∨ env.kindOf x = some .free) ∧ ∃ c,env.cells.lookup x = some c ∧ h.IsCell c (some u))
structure Cx.Ok (X : Cx) : Prop where
 mod : Mod X.K X.mg X.base
 kind : X.env.scope.kind = .function
 glob : X.env.globals = mainGlobals
 blt : X.env.builtins = builtinsNs
 above : X.s₀.heap.objs.size ≤ X.env.locals
 inj : ∀ x y c,X.env.cells.lookup x = some c → X.env.cells.lookup y = some c → x = y
 has : ∀ x,(X.env.kindOf x = some .cell ∨ X.env.kindOf x = some .free) → ∃ c,X.env.cells.lookup x = some c
 cab : ∀ x c,X.fn x = true → X.env.cells.lookup x = some c → X.s₀.heap.objs.size ≤ c
 hd : X.calm = true → X.A.handled = none
 frames : X.A.frames = some X.stack
 stk : X.stack = X.outer ∨ (X.stack = X.env :: X.outer ∧ X.env.frame = some X.env.locals)
 exf : ∀ b ∈ X.ex,b ≠ X.env.locals ∧ ∀ x c,X.env.cells.lookup x = some c → c ≠ b
 bs : ∀ b o,X.base.get? b = some o → X.s₀.heap.get? b = some o ∧ X.H₀ b = none
 bsz : X.base.objs.size ≤ X.s₀.heap.objs.size
 noex : ∀ b o,X.base.get? b = some o → b ∉ X.ex
 exfs : ∀ b ∈ X.ex,b ∉ X.fs
 funs : X.s₀.heap.FunFrames X.base X.outer
 frf : ∀ b ∈ X.fs,X.H₀ b = none
structure Inv (X : Cx) (pins : List (Addr × Obj)) (σ : List (Option V)) (H : Hp) (s : Shared) : Prop where
 ok : X.Ok
 os : s.os = X.s₀.os
 bare : AllBare s.gens
 base : Un X.fs X.ex X.H₀ H X.s₀.heap s.heap
 loc : ∃ m,s.heap.Ns X.env.locals m ∧ ∀ (i : Nat) (x : Str) (v : V),X.N[i]? = some x → σ[i]? = some (some v) → Vis X.env.scope x → ∃ u,RelV v u ∧ Look X.env s.heap m x u
 cell : ∀ x c,X.env.cells.lookup x = some c → ∃ v,s.heap.IsCell c v
 free : H X.env.locals = none
 freeC : ∀ x c,X.env.cells.lookup x = some c → H c = none
 pin : ∀ p ∈ X.pn ++ pins,s.heap.get? p.1 = some p.2 ∧ H p.1 = none ∧ p.1 ≠ X.env.locals ∧ p.1 ∉ X.fs ∧ ∀ v,p.2.data ≠ .cell v
 hok : HOk X.prog X.w H s.heap
 len : σ.length = X.N.length
section
variable {X : Cx} {pins : List (Addr × Obj)} {σ : List (Option V)} {H H' : Hp} {s : Shared} {h' : Heap}
theorem Cx.Ok.nofr (ok : X.Ok) {b : Addr} {o : Obj} (e : X.base.get? b = some o) : b ∉ X.fs:=fun hb=>by
 have:=(ok.funs.mem hb).1
 rw [e] at this; cases this
theorem Inv.bs (I : Inv X pins σ H s) : ∀ b o,X.base.get? b = some o → s.heap.get? b = some o ∧ H b = none:=fun b o e =>
 ⟨I.base.keep b o (I.ok.bs b o e).1 (I.ok.bs b o e).2 (I.ok.nofr e) (I.ok.noex b o e),I.base.free b o (I.ok.bs b o e).1 (I.ok.bs b o e).2 (I.ok.noex b o e)⟩
theorem Inv.bk (I : Inv X pins σ H s) : ∀ b o,X.base.get? b = some o → s.heap.get? b = some o:=fun b o e=>(I.bs b o e).1
theorem Inv.mod (I : Inv X pins σ H s) : Mod X.K X.mg X.base:=I.ok.mod
theorem Inv.kIn (I : Inv X pins σ H s) : X.K.In s.heap:=I.ok.mod.kin.keeps I.bk
theorem Inv.lt (I : Inv X pins σ H s) : X.env.locals < s.heap.objs.size:=let ⟨_,hn,_⟩:=I.loc; hn.lt
theorem Inv.sz (I : Inv X pins σ H s) : X.s₀.heap.objs.size ≤ s.heap.objs.size:=Nat.le_trans I.ok.above (Nat.le_of_lt I.lt)
theorem Inv.nofs (I : Inv X pins σ H s) {a : Addr} (h : s.heap.objs.size ≤ a) : a ∉ X.fs:=fun hb=>by
 obtain ⟨_,o,ho,_⟩:=I.ok.funs.mem hb
 exact absurd (Nat.lt_of_lt_of_le (Heap.lt_size ho) (Nat.le_trans I.sz h)) (Nat.lt_irrefl _)
theorem Inv.cne (I : Inv X pins σ H s) : ∀ x c,X.env.cells.lookup x = some c → c ≠ X.env.locals:=fun x c e z=>by
 obtain ⟨v,o,ho,hd⟩:=I.cell x c e
 obtain ⟨m,⟨o',es,ep,ho',hd',_⟩,_⟩:=I.loc
 rw [z,ho'] at ho; cases ho; rw [hd'] at hd; cases hd
theorem Inv.funs (I : Inv X pins σ H s) : s.heap.FunFrames X.base X.outer:=by
 have all : ∀ (l : List Env),(∀ b ∈ frs l,b ∈ X.fs) → X.s₀.heap.FunFrames X.base l → s.heap.FunFrames X.base l:=by
  intro l
  induction l with
  | nil=>intro _ _; trivial
  | cons env r ih =>
   intro hs hl
   obtain ⟨hk,⟨L,o,hf,hn,ho,hd⟩,hr⟩:=hl
   have hL : L ∈ X.fs:=hs L (by unfold frs; rw [List.filterMap_cons,hf]; exact List.mem_cons_self)
   obtain ⟨sl,e⟩:=I.base.slot L o ho (I.ok.frf L hL) hL fun z=>I.ok.exfs L z hL
   exact ⟨hk,⟨L,_,hf,hn,e,hd⟩,ih (fun b hb=>hs b (by unfold frs; rw [List.filterMap_cons,hf]; exact List.mem_cons_of_mem _ hb)) hr⟩
 exact all X.outer (fun _ hb=>hb) I.ok.funs
theorem Inv.stack (I : Inv X pins σ H s) : s.heap.FunFrames X.base X.stack:=by
 rcases I.ok.stk with e | ⟨e,hf⟩
 ·rw [e]; exact I.funs
 ·rw [e]
  obtain ⟨m,hn,_⟩:=I.loc
  refine .cons (by rw [I.ok.kind]; decide) hf hn ?_ I.funs
  exact Heap.get?_none_of_le (Nat.le_trans I.ok.bsz I.ok.above)
theorem Inv.stkSub (I : Inv X pins σ H s) : ∀ b ∈ frs X.stack,b ∈ X.env.locals :: X.fs:=fun b hb=>by
 rcases I.ok.stk with e | ⟨e,hf⟩
 ·rw [e] at hb; exact List.mem_cons_of_mem _ hb
 ·rw [e] at hb
  unfold frs at hb
  rw [List.filterMap_cons,hf] at hb
  exact hb
theorem Inv.stkFree (I : Inv X pins σ H s) : ∀ b ∈ frs X.stack,H b = none:=fun b hb=>by
 rcases List.mem_cons.mp (I.stkSub b hb) with e | hb
 ·rw [e]; exact I.free
 ·obtain ⟨_,o,ho,_⟩:=I.ok.funs.mem hb
  exact I.base.free b o ho (I.ok.frf b hb) fun z=>I.ok.exfs b z hb
theorem Inv.step {g' : Array GenState} {t' : Nat} {d' : Drawn} {ch : List Addr} (I : Inv X pins σ H s)
  (hch : ∀ b ∈ ch,(b ∈ X.ex ∨ X.s₀.heap.objs.size ≤ b) ∧ b ≠ X.env.locals ∧ (∀ x c,X.env.cells.lookup x = some c → c ≠ b) ∧ ∀ p ∈ X.pn ++ pins,p.1 ≠ b)
  (keep : ∀ b o,b ≠ X.env.locals → b ∉ X.fs → b ∉ ch → s.heap.get? b = some o → H b = none → h'.get? b = some o)
  (slot : ∀ b o,b ≠ X.env.locals → b ∈ X.fs → b ∉ ch → s.heap.get? b = some o → H b = none → ∃ sl,h'.get? b = some { o with slots:=sl }) (free : ∀ b o,b ∉ ch → s.heap.get? b = some o → H b = none → H' b = none)
  (there : ∀ b o,b ∉ ch → s.heap.get? b = some o → ∃ o',h'.get? b = some o')
  (tups : ∀ b xs,H b = some (.tup xs) → H' b = some (.tup xs)) (frzs : ∀ b o u,H b = some (.frz o u) → H' b = some (.frz o u)) (tbls : ∀ b ps,H b = some (.tbl ps) → ∃ more,H' b = some (.tbl (ps ++ more)))
  (ns : ∀ m,s.heap.Ns X.env.locals m → h'.Ns X.env.locals m) (hok : HOk X.prog X.w H' h') (hg : AllBare g') :
  Inv X pins σ H' { s with heap:=h',gens:=g',drawn:=d',toks:=t' }:=by
 have neL : ∀ b o,X.s₀.heap.get? b = some o → b ≠ X.env.locals:=fun b o e=>Nat.ne_of_lt (Nat.lt_of_lt_of_le (Heap.lt_size e) I.ok.above)
 have neC : ∀ b o,X.s₀.heap.get? b = some o → b ∉ X.ex → b ∉ ch:=fun b o e hx hb=>by
  rcases (hch b hb).1 with z | z
  ·exact hx z
  ·exact absurd (Nat.lt_of_lt_of_le (Heap.lt_size e) z) (Nat.lt_irrefl _)
 have cellK : ∀ x c,X.env.cells.lookup x = some c → ∀ v,s.heap.IsCell c v → h'.IsCell c v:=fun x c e v ⟨o,ho,hd⟩=>by
  have nch : c ∉ ch:=fun z=>(hch c z).2.2.1 x c e rfl
  by_cases hc : c ∈ X.fs
  ·obtain ⟨sl,q⟩:=slot c o (I.cne x c e) hc nch ho (I.freeC x c e)
   exact ⟨_,q,hd⟩
  ·exact ⟨o,keep c o (I.cne x c e) hc nch ho (I.freeC x c e),hd⟩
 refine ⟨I.ok,I.os,hg,⟨fun b o e n hb hx=>?_,fun b o e n hb hx=>?_,fun b o e n hx=>?_,fun b o e hx=>?_,fun b xs e=>tups b xs (I.base.tups b xs e),fun b o xs e=>frzs b o xs (I.base.frzs b o xs e),fun b ps e=>?_⟩,?_,fun x c e=>?_,?_,fun x c e=>?_,fun p hp=>?_,hok,I.len⟩
 ·exact keep b o (neL b o e) hb (neC b o e hx) (I.base.keep b o e n hb hx) (I.base.free b o e n hx)
 ·obtain ⟨sl,e1⟩:=I.base.slot b o e n hb hx
  obtain ⟨sl',e2⟩:=slot b _ (neL b o e) hb (neC b o e hx) e1 (I.base.free b o e n hx)
  exact ⟨sl',e2⟩
 ·obtain ⟨o',e1⟩:=I.base.there b o e hx
  exact free b o' (neC b o e hx) e1 (I.base.free b o e n hx)
 ·obtain ⟨o',e1⟩:=I.base.there b o e hx
  exact there b o' (neC b o e hx) e1
 ·obtain ⟨m1,e1⟩:=I.base.tbls b ps e
  obtain ⟨m2,e2⟩:=tbls b _ e1
  exact ⟨m1 ++ m2,by rw [e2,Array.append_assoc]⟩
 ·obtain ⟨m,hn,hl⟩:=I.loc
  refine ⟨m,ns m hn,fun i x v e1 e2 e3=>?_⟩
  obtain ⟨u,r,l⟩:=hl i x v e1 e2 e3
  refine ⟨u,r,?_⟩
  rcases l with l | ⟨k,c,e,z⟩
  ·exact .inl l
  ·exact .inr ⟨k,c,e,cellK x c e _ z⟩
 ·obtain ⟨v,z⟩:=I.cell x c e
  exact ⟨v,cellK x c e v z⟩
 ·obtain ⟨m,⟨o,_,_,ho,_⟩,_⟩:=I.loc
  exact free _ o (fun z=>(hch _ z).2.1 rfl) ho I.free
 ·obtain ⟨v,o,ho,hd⟩:=I.cell x c e
  exact free c o (fun z=>(hch c z).2.2.1 x c e rfl) ho (I.freeC x c e)
 ·obtain ⟨e,n,ne,nf,d⟩:=I.pin p hp
  have nch : p.1 ∉ ch:=fun z=>(hch p.1 z).2.2.2 p hp rfl
  exact ⟨keep p.1 p.2 ne nf nch e n,free p.1 p.2 nch e n,ne,nf,d⟩
theorem Inv.un {t' : Nat} (I : Inv X pins σ H s) (u : Un X.fs [] H H' s.heap h') (hok : HOk X.prog X.w H' h') : Inv X pins σ H' { s with heap:=h',toks:=t' }:=by
 obtain ⟨m,⟨o,es,ep,ho,r⟩,_⟩:=id I.loc
 obtain ⟨sl,hL⟩:=u.any ho I.free (by simp)
 exact I.step (g':=s.gens) (d':=s.drawn) (ch:=[]) (fun _ z=>nomatch z) (fun b o _ hb _ e n=>u.keep b o e n hb (by simp)) (fun b o _ hb _ e n=>u.slot b o e n hb (by simp)) (fun b o _ e n=>u.free b o e n (by simp)) (fun b o _ e=>u.there b o e (by simp)) u.tups u.frzs u.tbls (fun m' hm=>by
  obtain ⟨o',es',ep',ho',r'⟩:=hm
  rw [ho] at ho'; cases ho'
  exact ⟨_,es',ep',hL,r'⟩) hok I.bare
theorem Inv.call {g' : Array GenState} {t' : Nat} {d' : Drawn} {ch : List Addr} (I : Inv X pins σ H s) (u : Un (frs X.stack) ch H H' s.heap h') (hok : HOk X.prog X.w H' h') (hg : AllBare g')
  (hch : ∀ b ∈ ch,(b ∈ X.ex ∨ X.s₀.heap.objs.size ≤ b) ∧ b ≠ X.env.locals ∧ (∀ x c,X.env.cells.lookup x = some c → c ≠ b) ∧ ∀ p ∈ X.pn ++ pins,p.1 ≠ b) :
  Inv X pins σ H' { s with heap:=h',gens:=g',drawn:=d',toks:=t' }:=by
 obtain ⟨m,⟨o,es,ep,ho,r⟩,_⟩:=id I.loc
 obtain ⟨sl,hL⟩:=u.any ho I.free fun z=>(hch _ z).2.1 rfl
 exact I.step (ch:=ch) hch (fun b o hL hb hc e n=>u.keep b o e n (fun z=>(List.mem_cons.mp (I.stkSub b z)).elim hL hb) hc) (fun b o _ _ hc e n=>u.any e n hc) (fun b o hc e n=>u.free b o e n hc) (fun b o hc e=>u.there b o e hc) u.tups u.frzs u.tbls (fun m' hm=>by
  obtain ⟨o',es',ep',ho',r'⟩:=hm
  rw [ho] at ho'; cases ho'
  exact ⟨_,es',ep',hL,r'⟩) hok hg
theorem Inv.turned {t' : Nat} {it : Addr} (I : Inv X pins σ H s) (k : ∀ b o,b ≠ it → s.heap.get? b = some o → h'.get? b = some o) (hn : H it = none) (hL : it ≠ X.env.locals)
  (h1 : it ∈ X.ex ∨ X.s₀.heap.objs.size ≤ it) (h2 : ∀ x c,X.env.cells.lookup x = some c → c ≠ it) (h3 : ∀ p ∈ X.pn ++ pins,p.1 ≠ it) : Inv X pins σ H { s with heap:=h',toks:=t' }:=by
 have nit : ∀ b u,H b = some u → b ≠ it:=fun b u e z=>by rw [z,hn] at e; cases e
 refine I.step (g':=s.gens) (d':=s.drawn) (ch:=[it]) (fun b hb=>?_) (fun b o _ _ hc e _=>k b o (fun z=>hc (by simp [z])) e) (fun b o _ _ hc e _=>⟨o.slots,k b o (fun z=>hc (by simp [z])) e⟩) (fun _ _ _ _ n=>n)
  (fun b o hc e=>⟨o,k b o (fun z=>hc (by simp [z])) e⟩) (fun _ _ e=>e) (fun _ _ _ e=>e) (fun b ps e=>⟨#[],by rw [e]; simp⟩) (fun m hm=>?_) (fun b u e=>?_) I.bare
 ·have e : b = it:=by simpa using hb
  subst e
  exact ⟨h1,hL,h2,h3⟩
 ·obtain ⟨o,es,ep,ho,r⟩:=hm
  exact ⟨o,es,ep,k _ o (Ne.symm hL) ho,r⟩
 ·refine (I.hok b u e).stay (fun c v hc q=>k c v ?_ q) (fun _ q=>q) fun _ _ q=>q
  rcases hc with z | z
  ·rw [z]; exact nit b u e
  ·exact nit c _ z
theorem Inv.tok (I : Inv X pins σ H s) (t : Nat) : Inv X pins σ H { s with toks:=t }:=I.un (h':=s.heap) (t':=t) Un.refl I.hok
theorem Inv.kept {t' : Nat} (I : Inv X pins σ H s) (k : ∀ b u,s.heap.get? b = some u → h'.get? b = some u) : Inv X pins σ H { s with heap:=h',toks:=t' }:=I.un (Un.kept k) (I.hok.kept k)
theorem Inv.laid {a : Addr} {o : HO} {t' : Nat} (I : Inv X pins σ H s) (k : ∀ b u,s.heap.get? b = some u → h'.get? b = some u) (hp : s.heap.objs.size ≤ a) (new : J0g X.prog X.w (upd H a o) h' a o) :
  Inv X pins σ (upd H a o) { s with heap:=h',toks:=t' }:=I.un (Un.laid k hp (I.hok.fresh hp)) (I.hok.laid k hp new)
theorem Inv.write {x e : Addr} {o : HO} {t' : Nat} (I : Inv X pins σ H s) (mu : Mut (H x)) (he : e = x ∨ H e = some (.own x)) (k : ∀ b u,b ≠ e → s.heap.get? b = some u → h'.get? b = some u) (heo : ∃ u,h'.get? e = some u)
  (new : J0g X.prog X.w (upd H x o) h' x o) : Inv X pins σ (upd H x o) { s with heap:=h',toks:=t' }:=I.un (Un.write mu he k heo) (I.hok.write mu he k heo new)
theorem Inv.pins_of {pins' : List (Addr × Obj)} (I : Inv X pins σ H s) (h : ∀ p ∈ pins',s.heap.get? p.1 = some p.2 ∧ H p.1 = none ∧ p.1 ≠ X.env.locals ∧ p.1 ∉ X.fs ∧ ∀ v,p.2.data ≠ .cell v) : Inv X pins' σ H s :=
 ⟨I.ok,I.os,I.bare,I.base,I.loc,I.cell,I.free,I.freeC,fun p hp=>(List.mem_append.mp hp).elim (fun z=>I.pin p (List.mem_append_left _ z)) (h p),I.hok,I.len⟩
theorem J3U {N : List Str} (hN : N.Nodup) {i j : Nat} {x : Str} (a : N[i]? = some x) (b : N[j]? = some x) : i = j:=by
 obtain ⟨h1,e1⟩:=List.getElem?_eq_some_iff.mp a
 obtain ⟨h2,e2⟩:=List.getElem?_eq_some_iff.mp b
 exact (List.getElem_inj hN).mp (e1.trans e2.symm)
theorem J8f {M : Model} {A : Around} {E : Value → Shared → Prop} {i : Nat} {x : Str} {v : V} {u : Value} {Q : Unit → Shared → Prop} (I : Inv X pins σ H s) (hN : X.N.Nodup) (hi : X.N[i]? = some x) (hx : Loc X.env.scope x) (r : RelV v u)
  (h : ∀ s',Inv X pins (σ.set i (some v)) H s' → (∃ a,Heap.SameBut a s.heap s'.heap ∧ (a = X.env.locals ∨ X.env.cells.lookup x = some a)) → Q () s') (hf : X.fn x = true ∨ X.env.scope.names.lookup x = some .local:=by first | exact .inl rfl | exact .inr rfl | assumption) : wpAny M A (storeName X.env x u) Q E s:=by
 obtain ⟨m,hn,hl⟩:=id I.loc
 have hcls : (X.env.scope.kind == .class || (X.env.scope.kind == .module && X.env.locals != X.env.globals)) = false:=by rw [I.ok.kind]; rfl
 have hiσ : i < σ.length:=by rw [I.len]; exact (List.getElem?_eq_some_iff.mp hi).1
 have cne:=I.cne
 have tracked : ∀ {a : Addr} {h' : Heap},(∃ o,s.heap.get? a = some o ∧ H a = none) → Heap.SameBut a s.heap h' → HOk X.prog X.w H h':=fun {a h'} ha hs b ob e=>by
  obtain ⟨_,_,hfree⟩:=ha
  refine (I.hok b ob e).stay (fun c w' hc q=>(hs.2 c ?_).trans q) (fun _ q=>q) fun _ _ q=>q
  rintro rfl
  rcases hc with rfl | hc
  ·rw [hfree] at e; cases e
  ·rw [hfree] at hc; cases hc
 rcases hx with hk | hk
 ·refine wpAny_storeName_local hk hn (fun h' hn' hs=>?_) hcls
  obtain ⟨oL,_,_,hoL,_⟩:=id hn
  refine h _ ⟨I.ok,I.os,I.bare,⟨fun b o e n hb hx=>?_,fun b o e n hb hx=>?_,I.base.free,fun b o e hx=>?_,I.base.tups,I.base.frzs,I.base.tbls⟩,⟨_,hn',fun j y v' e1 e2 e3=>?_⟩,fun y c e=>?_,I.free,I.freeC,fun p hp=>?_,tracked ⟨oL,hoL,I.free⟩ hs,by simpa using I.len⟩ ⟨_,hs,.inl rfl⟩
  ·exact (hs.2 b (Nat.ne_of_lt (Nat.lt_of_lt_of_le (Heap.lt_size e) I.ok.above))).trans (I.base.keep b o e n hb hx)
  ·obtain ⟨sl,e1⟩:=I.base.slot b o e n hb hx
   exact ⟨sl,(hs.2 b (Nat.ne_of_lt (Nat.lt_of_lt_of_le (Heap.lt_size e) I.ok.above))).trans e1⟩
  ·obtain ⟨o',e1⟩:=I.base.there b o e hx
   exact ⟨o',(hs.2 b (Nat.ne_of_lt (Nat.lt_of_lt_of_le (Heap.lt_size e) I.ok.above))).trans e1⟩
  ·by_cases hj : j = i
   ·subst hj
    rw [hi] at e1; cases e1
    rw [List.getElem?_set_self hiσ] at e2
    cases e2
    exact ⟨u,r,.inl ⟨hk,by simp⟩⟩
   ·rw [List.getElem?_set_ne (Ne.symm hj)] at e2
    obtain ⟨u',r',q⟩:=hl j y v' e1 e2 e3
    refine ⟨u',r',?_⟩
    rcases q with ⟨k,e⟩ | ⟨k,c,e,z⟩
    ·refine .inl ⟨k,?_⟩
     have : y ≠ x:=fun e=>hj (J3U hN e1 (e ▸ hi))
     simp [this,e]
    ·exact .inr ⟨k,c,e,z.sameBut hs (cne y c e)⟩
  ·obtain ⟨w',z⟩:=I.cell y c e
   exact ⟨w',z.sameBut hs (cne y c e)⟩
  ·obtain ⟨e,n,ne,nf,d⟩:=I.pin p hp
   exact ⟨(hs.2 p.1 ne).trans e,n,ne,nf,d⟩
 ·have hfn : X.fn x = true:=by
   rcases hf with z | z
   ·exact z
   ·rw [z] at hk; cases hk
  obtain ⟨c,hc⟩:=I.ok.has x (.inl hk)
  obtain ⟨w',z⟩:=I.cell x c hc
  refine wpAny_storeName_cell I.ok.kind hk hc z (fun h' hc' hs=>?_)
  obtain ⟨oc,hoc,hocd⟩:=id z
  refine h { s with heap:=h' } ⟨I.ok,I.os,I.bare,⟨fun b o e n hb hx=>?_,fun b o e n hb hx=>?_,I.base.free,fun b o e hx=>?_,I.base.tups,I.base.frzs,I.base.tbls⟩,⟨m,hn.sameBut hs (Ne.symm (cne x c hc)),fun j y v' e1 e2 e3=>?_⟩,fun y c' e=>?_,I.free,I.freeC,fun p hp=>?_,tracked ⟨oc,hoc,I.freeC x c hc⟩ hs,by simpa using I.len⟩ ⟨c,hs,.inr hc⟩
  ·exact (hs.2 b (Nat.ne_of_lt (Nat.lt_of_lt_of_le (Heap.lt_size e) (I.ok.cab x c hfn hc)))).trans (I.base.keep b o e n hb hx)
  ·obtain ⟨sl,e1⟩:=I.base.slot b o e n hb hx
   exact ⟨sl,(hs.2 b (Nat.ne_of_lt (Nat.lt_of_lt_of_le (Heap.lt_size e) (I.ok.cab x c hfn hc)))).trans e1⟩
  ·obtain ⟨o',e1⟩:=I.base.there b o e hx
   exact ⟨o',(hs.2 b (Nat.ne_of_lt (Nat.lt_of_lt_of_le (Heap.lt_size e) (I.ok.cab x c hfn hc)))).trans e1⟩
  ·by_cases hj : j = i
   ·subst hj
    rw [hi] at e1; cases e1
    rw [List.getElem?_set_self hiσ] at e2
    cases e2
    exact ⟨u,r,.inr ⟨.inl hk,c,hc,hc'⟩⟩
   ·rw [List.getElem?_set_ne (Ne.symm hj)] at e2
    obtain ⟨u',r',q⟩:=hl j y v' e1 e2 e3
    refine ⟨u',r',?_⟩
    rcases q with q | ⟨k,c',e,z'⟩
    ·exact .inl q
    ·refine .inr ⟨k,c',e,z'.sameBut hs ?_⟩
     rintro rfl
     exact hj (J3U hN e1 (I.ok.inj _ _ _ e hc ▸ hi))
  ·by_cases hcc : c' = c
   ·subst hcc; exact ⟨_,hc'⟩
   ·obtain ⟨w2,z2⟩:=I.cell y c' e
    exact ⟨w2,z2.sameBut hs hcc⟩
  ·obtain ⟨e,n,ne,nf,d⟩:=I.pin p hp
   refine ⟨(hs.2 p.1 ?_).trans e,n,ne,nf,d⟩
   intro q
   rw [q,hoc] at e
   have q' : oc = p.2:=Option.some.inj e
   exact d w' (by rw [← q']; exact hocd)
theorem J1P {M : Model} {A : Around} {E : Value → Shared → Prop} {i : Nat} {x : Str} {v : V} {u : Value} {Q : Unit → Shared → Prop} (I : Inv X pins σ H s) (hN : X.N.Nodup) (hi : X.N[i]? = some x) (hx : Loc X.env.scope x) (r : RelV v u)
  (h : ∀ s',Inv X pins (σ.set i (some v)) H s' → Q () s') (hf : X.fn x = true ∨ X.env.scope.names.lookup x = some .local:=by first | exact .inl rfl | exact .inr rfl | assumption) : wpAny M A (storeName X.env x u) Q E s :=
 J8f I hN hi hx r (fun s' I' _=>h s' I') hf
theorem Inv.call' {s' : Shared} {ch : List Addr} (I : Inv X pins σ H s) (ho : s'.os = s.os) (u : Un (frs X.stack) ch H H' s.heap s'.heap) (hok : HOk X.prog X.w H' s'.heap) (hg : AllBare s'.gens)
  (hch : ∀ b ∈ ch,(b ∈ X.ex ∨ X.s₀.heap.objs.size ≤ b) ∧ b ≠ X.env.locals ∧ (∀ x c,X.env.cells.lookup x = some c → c ≠ b) ∧ ∀ p ∈ X.pn ++ pins,p.1 ≠ b) : Inv X pins σ H' s':=by
 obtain ⟨h',g',d',t',o'⟩:=s'
 have e : o' = s.os:=ho
 subst e
 exact I.call (g':=g') (t':=t') (d':=d') u hok hg hch
end
noncomputable abbrev XK:=Value → Option Addr → Hp → Prop
noncomputable abbrev St:=List (Option V)
noncomputable abbrev VK:=V → Hp → Prop
noncomputable abbrev TE:=St → Hp → VK → Prop
noncomputable abbrev TT:=St → Hp → (Bool → Hp → Prop) → Prop
noncomputable abbrev TA:=St → Hp → (List V → Hp → Prop) → Prop
structure Ends where
 nx : St → Hp → Prop
 rt : VK
 bk : St → Hp → Prop:=fun _ _=>False
 ct : St → Hp → Prop:=fun _ _=>False
noncomputable abbrev TS:=Ends → St → Hp → Prop
noncomputable def EP (X : Cx) (pins : List (Addr × Obj)) (σ : St) (Q : VK) (u : Value) (s' : Shared) : Prop:=∃ v H',Inv X pins σ H' s' ∧ RelV v u ∧ Q v H'
noncomputable def TP (X : Cx) (pins : List (Addr × Obj)) (σ : St) (Q : Bool → Hp → Prop) (b : Bool) (s' : Shared) : Prop:=∃ H',Inv X pins σ H' s' ∧ Q b H'
noncomputable def AP (X : Cx) (pins : List (Addr × Obj)) (σ : St) (Q : List V → Hp → Prop) (us : List Value) (s' : Shared) : Prop:=∃ vs H',Inv X pins σ H' s' ∧ Vals vs us ∧ Q vs H'
noncomputable def SP (X : Cx) (pins : List (Addr × Obj)) (D : Ends) (f : Flow) (s' : Shared) : Prop :=
 match f with
 | .next=>∃ σ' H',Inv X pins σ' H' s' ∧ D.nx σ' H'
 | .brk=>∃ σ' H',Inv X pins σ' H' s' ∧ D.bk σ' H'
 | .cont=>∃ σ' H',Inv X pins σ' H' s' ∧ D.ct σ' H'
 | .ret u=>∃ v σ' H',Inv X pins σ' H' s' ∧ RelV v u ∧ D.rt v H'
noncomputable def PE (X : Cx) (e : Expr) (t : TE) : Prop :=
 ∀ (pins : List (Addr × Obj)) (s : Shared) (σ : St) (H : Hp) (Q : VK),Inv X pins σ H s → t σ H Q → wpAny (model X.prog X.w) X.A (eval e X.env) (EP X pins σ Q) X.xe s
noncomputable def PT (X : Cx) (e : Expr) (t : TT) : Prop :=
 ∀ (pins : List (Addr × Obj)) (s : Shared) (σ : St) (H : Hp) (Q : Bool → Hp → Prop),Inv X pins σ H s → t σ H Q → wpAny (model X.prog X.w) X.A (isTrue e X.env (eval e X.env)) (TP X pins σ Q) X.xe s
noncomputable def PW (X : Cx) (e : Expr) (t : TT) : Prop :=
 ∀ (whole : Sem Value) (pins : List (Addr × Obj)) (s : Shared) (σ : St) (H : Hp) (Q : Bool → Hp → Prop),Inv X pins σ H s → t σ H Q → wpAny (model X.prog X.w) X.A (isTrue e X.env whole) (TP X pins σ Q) X.xe s
theorem PW.pt {X : Cx} {e : Expr} {t : TT} (h : PW X e t) : PT X e t:=h _
noncomputable def PA (X : Cx) (es : List Expr) (t : TA) : Prop :=
 ∀ (pos : Pos) (pins : List (Addr × Obj)) (s : Shared) (σ : St) (H : Hp) (Q : List V → Hp → Prop),Inv X pins σ H s → t σ H Q → wpAny (model X.prog X.w) X.A (spliced (backTo pos (starEach es X.env))) (AP X pins σ Q) X.xe s
noncomputable def PS (X : Cx) (st : Stmt) (t : TS) : Prop :=
 ∀ (pins : List (Addr × Obj)) (s : Shared) (σ : St) (H : Hp) (D : Ends),Inv X pins σ H s → t D σ H → wpAny (model X.prog X.w) X.A (exec st X.env) (SP X pins D) X.xe s
noncomputable def PSs (X : Cx) (st : List Stmt) (t : TS) : Prop :=
 ∀ (pins : List (Addr × Obj)) (s : Shared) (σ : St) (H : Hp) (D : Ends),Inv X pins σ H s → t D σ H → wpAny (model X.prog X.w) X.A (execs st X.env) (SP X pins D) X.xe s
theorem thn {α : Type} {t : Sem α} {Q Q' : α → Shared → Prop} {M : Model} {A : Around} {E : Value → Shared → Prop} {s : Shared} (h : wpAny M A t Q E s) (hQ : ∀ a s,Q a s → Q' a s) : wpAny M A t Q' E s:=wpAny_mono h hQ fun _ _ x=>x
end L2
namespace L2
open PySem PySem.Spec PyProof.Rows
section
variable {X : Cx}
noncomputable def tVar (i : Nat) : TE:=fun σ H Q=>∃ v,σ[i]? = some (some v) ∧ Q v H
noncomputable def tC (v : V) : TE:=fun _ H Q=>Q v H
theorem Jbh {i : Nat} {x : Str} {pos : Pos} (hN : X.N[i]? = some x) (hv : Vis X.env.scope x) (hd : (x == ("__debug__" : Str)) = false:=by decide) (hcd : (x == ("__classdict__" : Str)) = false:=by decide) : PE X (.Name x pos) (tVar i):=by
 intro pins s σ H Q I h
 obtain ⟨v,e,h⟩:=h
 obtain ⟨m,hn,hl⟩:=I.loc
 obtain ⟨u,r,l⟩:=hl i x v hN e hv
 have fin : EP X pins σ Q u s:=⟨v,H,I,r,h⟩
 rcases l with ⟨hk,hm⟩ | ⟨hk,c,hc,hcell⟩
 ·exact wpAny_Name (wpAny_loadName_local I.ok.kind hk hn hm fin) hd
 ·rcases hk with hk | hk
  ·exact wpAny_Name (wpAny_loadName_cell I.ok.kind hk hc hcell fin) hd
  ·exact wpAny_Name (wpAny_loadName_free I.ok.kind hk hc hcell fin hcd) hd
theorem Ja {i j pos} : PE X (.Constant (.int i) j pos) (tC (.int i)):=fun _ _ _ H _ I h=>wpAny_Constant_int ⟨.int i,H,I.tok _,⟨_,rfl⟩,h⟩
theorem J33 {b j pos} : PE X (.Constant (.bool b) j pos) (tC (.bl b)):=fun _ _ _ H _ I h=>Constant_bool ⟨.bl b,H,I,rfl,h⟩
theorem JaU {x j pos} : PE X (.Constant (.str x) j pos) (tC (.str x)):=fun _ _ _ H _ I h=>Calls.Constant_str ⟨.str x,H,I.tok _,⟨_,rfl⟩,h⟩
noncomputable def Gl (X : Cx) (x : Str) : Prop:=X.env.kindOf x = some .globalImplicit
theorem J21 {E : Value → Shared → Prop} {pins : List (Addr × Obj)} {s : Shared} {σ : St} {H : Hp} {x : Str} {u : Value} {pos : Pos} {Q : Value → Shared → Prop} (I : Inv X pins σ H s) (hg : Gl X x) (hm : X.mg x = some u) (h : Q u s)
  (hd : (x == ("__debug__" : Str)) = false:=by decide) : wpAny (model X.prog X.w) X.A (eval (.Name x pos) X.env) Q E s :=
 Calls.Name_function_global I.ok.kind hg (Calls.loadGlobal_global (by rw [I.ok.glob]; exact I.mod.glob.keeps I.bk) hm h) hd
theorem J42 {E : Value → Shared → Prop} {pins : List (Addr × Obj)} {s : Shared} {σ : St} {H : Hp} {x : Str} {u : Value} {pos : Pos} {Q : Value → Shared → Prop} (I : Inv X pins σ H s) (hg : Gl X x) (hm : X.mg x = none) (hv : bootBuiltins x = some u) (h : Q u s)
  (hn : x ≠ "__name__":=by decide) (hd : (x == ("__debug__" : Str)) = false:=by decide) : wpAny (model X.prog X.w) X.A (eval (.Name x pos) X.env) Q E s:=by
 obtain ⟨mb,h1,h2⟩:=I.mod.blt
 exact Calls.Name_function_global I.ok.kind hg (Calls.loadGlobal_builtin (by rw [I.ok.glob]; exact I.mod.glob.keeps I.bk) hm (by rw [I.ok.blt]; exact h1.keeps I.bk) ((h2 x hn).trans hv) h) hd
theorem J5f {x : Str} {v : V} {u : Value} {pos : Pos} (hg : Gl X x) (hm : X.mg x = some u) (r : RelV v u) (hd : (x == ("__debug__" : Str)) = false:=by decide) : PE X (.Name x pos) (tC v) :=
 fun _ _ _ H _ I h=>J21 I hg hm ⟨v,H,I,r,h⟩ hd
theorem Ja6 {x : Str} {v : V} {u : Value} {pos : Pos} (hg : Gl X x) (hm : X.mg x = none) (hv : bootBuiltins x = some u) (r : RelV v u) (hn : x ≠ "__name__":=by decide) (hd : (x == ("__debug__" : Str)) = false:=by decide) : PE X (.Name x pos) (tC v) :=
 fun _ _ _ H _ I h=>J42 I hg hm hv ⟨v,H,I,r,h⟩ hn hd
variable {a b : Expr} {ta tb : TE} {pos : Pos}
noncomputable def PC (X : Cx) (op : CmpOp) (a b : Expr) (t : TE) : Prop :=
 ∀ (pins : List (Addr × Obj)) (s : Shared) (σ : St) (H : Hp) (Q : VK),Inv X pins σ H s → t σ H Q →
  wpAny (model X.prog X.w) X.A (eval a X.env) (fun v s₁=>wpAny (model X.prog X.w) X.A (eval b X.env) (fun u s₂=>wpAny (model X.prog X.w) X.A (compareOp op v u) (EP X pins σ Q) X.xe s₂) X.xe s₁) X.xe s
noncomputable def tB (t : TE) : TT:=fun σ H Q=>t σ H fun x H1=>∃ c,x = .bl c ∧ Q c H1
theorem JaR {op : CmpOp} {t : TE} (h : PC X op a b t) (h1 : behindInMarks op b = false:=by first | exact nobehind _ (by decide) (by decide) | rfl) : PT X (.Compare a [op] [b] pos) (tB t):=by
 intro pins s σ H Q I hw
 refine wpAny_isTrue_Compare1 (thn (h pins s σ H _ I hw) fun v s1 h1=>thn h1 fun u s2 h2=>thn h2 fun c s3 ⟨x,H1,I1,r1,q1⟩=>?_) h1
 obtain ⟨d,rfl,q⟩:=q1
 cases r1
 exact wpAny_truthy_bool ⟨H1,I1,q⟩
theorem J7g {e : Expr} {t : TE} (h : PE X e t) (he : ∀ whole,isTrue e X.env whole = (do let v ← whole; standAt e.pos; holding [v] (truthy v)):=by intro _; rfl) : PT X e (tB t):=by
 intro pins s σ H Q I hw
 refine isTrue_plain (thn (h pins s σ H _ I hw) fun v s1 ⟨x,H1,I1,r1,q1⟩=>?_) (he _)
 obtain ⟨d,rfl,q⟩:=q1
 cases r1
 exact wpAny_truthy_bool ⟨H1,I1,q⟩
variable {tA tB' : TT} {rest : List Expr}
noncomputable def tAnd (t u : TT) : TT:=fun σ H Q=>t σ H fun c H1=>if c = true then u σ H1 Q else Q false H1
noncomputable def tNot (t : TT) : TT:=fun σ H Q=>t σ H fun c H1=>Q (!c) H1
theorem J9Z (ha : PT X a tA) : PW X (.BoolOp .And [a] pos) tA:=by
 intro wh pins s σ H Q I h
 refine isTrue_and (thn (ha pins s σ H Q I h) fun c s1 e=>?_)
 cases c with
 | true=>exact isTrue_and_nil e
 | false=>exact e
theorem J9t (ha : PT X a tA) (hb : PW X (.BoolOp .And (b :: rest) pos) tB') : PW X (.BoolOp .And (a :: b :: rest) pos) (tAnd tA tB'):=by
 intro wh pins s σ H Q I h
 refine isTrue_and (thn (ha pins s σ H _ I h) fun c s1 ⟨H1,I1,q1⟩=>?_)
 cases c with
 | true=>exact hb wh pins s1 σ H1 Q I1 q1
 | false=>exact ⟨H1,I1,q1⟩
theorem J9d (ha : PT X a tA) : PT X (.UnaryOp .Not a pos) (tNot tA):=by
 intro pins s σ H Q I h
 exact isTrue_not (ha pins s σ H (fun c H1=>Q (!c) H1) I h)
noncomputable def JbA (ta tb : TE) : TE:=fun σ H Q=>ta σ H fun x H1=>∃ c,x = .bl c ∧ if c = true then tb σ H1 Q else Q (.bl false) H1
noncomputable def tOrV (ta tb : TE) : TE:=fun σ H Q=>ta σ H fun x H1=>∃ c,x = .bl c ∧ if c = true then Q (.bl true) H1 else tb σ H1 Q
noncomputable def JbF (ta : TE) : TE:=fun σ H Q=>ta σ H fun x H1=>∃ c,x = .bl c ∧ Q (.bl (!c)) H1
theorem J7q {op} {t : TE} (h : PE X a t) : PE X (.BoolOp op [a] pos) t:=fun pins s σ H Q I hw=>BoolOp_one (h pins s σ H Q I hw)
theorem J5j (ha : PE X a ta) (hb : PE X (.BoolOp .And (b :: rest) pos) tb) : PE X (.BoolOp .And (a :: b :: rest) pos) (JbA ta tb):=by
 intro pins s σ H Q I h
 refine BoolOp_and (thn (ha pins s σ H _ I h) fun v s1 ⟨x,H1,I1,r1,q1⟩=>?_)
 obtain ⟨c,rfl,q1⟩:=q1
 cases r1
 refine wpAny_truthy_bool ?_
 cases c with
 | true=>exact hb pins s1 σ H1 Q I1 q1
 | false=>exact ⟨.bl false,H1,I1,rfl,q1⟩
theorem JbJ (ha : PE X a ta) (hb : PE X (.BoolOp .Or (b :: rest) pos) tb) : PE X (.BoolOp .Or (a :: b :: rest) pos) (tOrV ta tb):=by
 intro pins s σ H Q I h
 refine BoolOp_or (thn (ha pins s σ H _ I h) fun v s1 ⟨x,H1,I1,r1,q1⟩=>?_)
 obtain ⟨c,rfl,q1⟩:=q1
 cases r1
 refine wpAny_truthy_bool ?_
 cases c with
 | false=>exact hb pins s1 σ H1 Q I1 q1
 | true=>exact ⟨.bl true,H1,I1,rfl,q1⟩
theorem J9i (ha : PE X a ta) : PE X (.UnaryOp .Not a pos) (JbF ta):=by
 intro pins s σ H Q I h
 refine UnaryOp_ (thn (ha pins s σ H _ I h) fun v s1 ⟨x,H1,I1,r1,q1⟩=>?_)
 obtain ⟨c,rfl,q1⟩:=q1
 cases r1
 exact not_of (wpAny_truthy_bool ⟨.bl (!c),H1,I1,rfl,q1⟩)
end
end L2
namespace L2
open PySem PySem.Spec PyProof.Rows
noncomputable def SqL (K : PySem.W.Frag) (H : Hp) (a : Addr) (xs : List V) : Prop :=
 Rd H a (.lst xs) ∨
  ∃ (o : Obj) (its : Array Value) (n : Nat),K.lookup a = some o ∧ o.cls = .type "list" ∧ o.dict = none ∧ o.data = .seq its n ∧ its.size ≤ sizeLine ∧ Vals xs its.toList
noncomputable def SqT (K : PySem.W.Frag) (H : Hp) (a : Addr) (xs : List V) : Prop :=
 Rd H a (.tup xs) ∨
  ∃ (o : Obj) (its : Array Value) (n : Nat),K.lookup a = some o ∧ o.cls = .type "tuple" ∧ o.data = .seq its n ∧ its.size ≤ sizeLine ∧ Vals xs its.toList
noncomputable def absV : Value → Option V
 | .none=>some .non
 | .bool b=>some (.bl b)
 | .int i _=>some (.int i)
 | .str x _=>some (.str x)
 | .bytes b _=>some (.byt b)
 | .float b _=>some (.flt b)
 | .ref a=>some (.ref a)
 | .type n=>some (.ty n)
 | _=>none
theorem RelV.abs {x : V} {u : Value} (r : RelV x u) : absV u = some x:=by
 cases x with
 | non=>cases r; rfl
 | bl _=>cases r; rfl
 | int _=>obtain ⟨t,rfl⟩:=r; rfl
 | str _=>obtain ⟨t,rfl⟩:=r; rfl
 | byt _=>obtain ⟨t,rfl⟩:=r; rfl
 | flt _=>obtain ⟨t,rfl⟩:=r; rfl
 | ref _=>cases r; rfl
 | ty _=>cases r; rfl
theorem RelV.inj {x y : V} {u : Value} (r : RelV x u) (q : RelV y u) : x = y:=Option.some.inj (r.abs.symm.trans q.abs)
theorem Vals.inj : ∀ {xs ys : List V} {us : List Value},Vals xs us → Vals ys us → xs = ys
 | _,_,_,.nil,.nil=>rfl
 | _,_,_,.cons r t,.cons r' t'=>by rw [r.inj r',Vals.inj t t']
section
variable {X : Cx} {pins : List (Addr × Obj)} {σ : St} {H : Hp} {s : Shared} {a : Addr} {xs ys : List V}
theorem SqL.of {K : PySem.W.Frag} (h : H a = some (.lst xs)) : SqL K H a xs:=.inl (.inl h)
theorem SqT.of {K : PySem.W.Frag} (h : H a = some (.tup xs)) : SqT K H a xs:=.inl (.inl h)
theorem Inv.list (I : Inv X pins σ H s) (h : SqL X.K H a xs) : ∃ its : List Value,Vals xs its ∧ PlainL s.heap a its.toArray ∧ xs.length ≤ sizeLine:=by
 rcases h with h | ⟨o,its,n,hk,hc,hd,hs,hz,r⟩
 ·obtain ⟨z,its,n,r,e⟩:=h.ok I.hok
  exact ⟨its,r,⟨_,n,e,rfl,rfl,rfl⟩,z⟩
 ·refine ⟨its.toList,r,⟨o,n,I.kIn a o hk,hc,hd,by simpa using hs⟩,?_⟩
  have e:=r.length
  simp only [Array.length_toList] at e
  omega
theorem Inv.tuple (I : Inv X pins σ H s) (h : SqT X.K H a xs) : ∃ its : List Value,Vals xs its ∧ IsTup s.heap a its.toArray ∧ xs.length ≤ sizeLine:=by
 rcases h with h | ⟨o,its,n,hk,hc,hs,hz,r⟩
 ·obtain ⟨z,its,r,p⟩:=h.ok I.hok
  exact ⟨its,r,p,z⟩
 ·refine ⟨its.toList,r,⟨o,I.kIn a o hk,hc,n,by simpa using hs⟩,?_⟩
  have e:=r.length
  simp only [Array.length_toList] at e
  omega
theorem Inv.list_inj (I : Inv X pins σ H s) (h : SqL X.K H a xs) (h' : SqL X.K H a ys) : xs = ys:=by
 obtain ⟨its,r,⟨o,n,e,_,_,d⟩,_⟩:=I.list h
 obtain ⟨its',r',⟨o',n',e',_,_,d'⟩,_⟩:=I.list h'
 rw [e] at e'; cases e'
 rw [d] at d'
 injection d' with d1 _
 have : its = its':=by simpa using congrArg Array.toList d1
 subst this
 exact r.inj r'
end
noncomputable abbrev Cx.wish (X : Cx) (E : Value → Shared → Prop) : Cx:={ X with xe:=E }
noncomputable abbrev Cx.nox (X : Cx) : Cx:=X.wish fun _ _=>False
theorem Cx.Ok.wish {X : Cx} (ok : X.Ok) (E : Value → Shared → Prop) : (X.wish E).Ok :=
 ⟨ok.mod,ok.kind,ok.glob,ok.blt,ok.above,ok.inj,ok.has,ok.cab,ok.hd,ok.frames,ok.stk,ok.exf,ok.bs,ok.bsz,ok.noex,ok.exfs,ok.funs,ok.frf⟩
theorem Cx.Ok.unwish {X : Cx} {E : Value → Shared → Prop} (ok : (X.wish E).Ok) : X.Ok :=
 ⟨ok.mod,ok.kind,ok.glob,ok.blt,ok.above,ok.inj,ok.has,ok.cab,ok.hd,ok.frames,ok.stk,ok.exf,ok.bs,ok.bsz,ok.noex,ok.exfs,ok.funs,ok.frf⟩
section
variable {X : Cx} {pins : List (Addr × Obj)} {σ : St} {H : Hp} {s : Shared} {E : Value → Shared → Prop}
theorem Inv.wish (I : Inv X pins σ H s) (E : Value → Shared → Prop) : Inv (X.wish E) pins σ H s:=⟨I.ok.wish E,I.os,I.bare,I.base,I.loc,I.cell,I.free,I.freeC,I.pin,I.hok,I.len⟩
theorem Inv.unwish (I : Inv (X.wish E) pins σ H s) : Inv X pins σ H s:=⟨I.ok.unwish,I.os,I.bare,I.base,I.loc,I.cell,I.free,I.freeC,I.pin,I.hok,I.len⟩
theorem SP.unwish {D : Ends} {f : Flow} {s' : Shared} (h : SP (X.wish E) pins D f s') : SP X pins D f s':=by
 cases f with
 | next=>obtain ⟨σ',H',I,q⟩:=h; exact ⟨σ',H',I.unwish,q⟩
 | brk=>obtain ⟨σ',H',I,q⟩:=h; exact ⟨σ',H',I.unwish,q⟩
 | cont=>obtain ⟨σ',H',I,q⟩:=h; exact ⟨σ',H',I.unwish,q⟩
 | ret u=>obtain ⟨v,σ',H',I,r,q⟩:=h; exact ⟨v,σ',H',I.unwish,r,q⟩
theorem PSs.nox {st : List Stmt} {t : TS} (h : PSs X.nox st t) : PSs X st t:=fun pins s σ H D I hw =>
 wpAny_mono (h pins s σ H D (I.wish _) hw) (fun _ _ q=>q.unwish) fun _ _ z=>False.elim z
end
section
variable {X : Cx} {st : Stmt} {rest : List Stmt} {t u : TS} {e : Expr} {te : TE} {pos : Pos}
noncomputable def JbR : TS:=fun D σ H=>D.nx σ H
noncomputable def tSeq (t u : TS) : TS:=fun D σ H=>t { D with nx:=u D } σ H
theorem Jx : PSs X [] JbR:=fun _ _ σ H _ I h=>wpAny_execs_nil ⟨σ,H,I,h⟩
theorem J6 (h1 : PS X st t) (h2 : PSs X rest u) : PSs X (st :: rest) (tSeq t u):=by
 intro pins s σ H D I h
 refine wpAny_execs_cons (thn (h1 pins s σ H { D with nx:=u D } I h) fun f s1 q=>?_)
 cases f with
 | next =>
  obtain ⟨σ',H',I',q⟩:=q
  exact h2 pins s1 σ' H' D I' q
 | ret v=>exact q
 | brk=>exact q
 | cont=>exact q
theorem Jc (h1 : PS X st t) : PSs X [st] t:=by
 intro pins s σ H D I h
 refine wpAny_execs_cons (thn (h1 pins s σ H D I h) fun f s1 q=>?_)
 cases f with
 | next=>exact wpAny_execs_nil q
 | ret v=>exact q
 | brk=>exact q
 | cont=>exact q
theorem Inv.quiet {pins : List (Addr × Obj)} {σ : St} {H : Hp} {s : Shared} (I : Inv X pins σ H s) : interactive X.env = false:=by simp [interactive,I.ok.kind]
noncomputable def JaG (te : TE) : TS:=fun D σ H=>te σ H fun _ H1=>D.nx σ H1
theorem J38 (he : PE X e te) (hs : swapsWith e none pos.line X.env = pure false:=by rfl) : PS X (.Expr e pos) (JaG te):=by
 intro pins s σ H D I h
 exact wpAny_Expr_any (thn (he pins s σ H _ I h) fun v s1 ⟨x,H1,I1,r1,q1⟩=>⟨σ,H1,I1,q1⟩) I.quiet hs
noncomputable def tRet (te : TE) : TS:=fun D σ H=>te σ H D.rt
theorem Jn (he : PE X e te) : PS X (.Return (some e) pos) (tRet te):=by
 intro pins s σ H D I h
 exact wpAny_Return_some (thn (he pins s σ H _ I h) fun v s1 ⟨x,H1,I1,r1,q1⟩=>⟨x,σ,H1,I1,r1,q1⟩)
noncomputable def tIfS (c : TT) (t u : TS) : TS:=fun D σ H=>c σ H fun b H1=>if b = true then t D σ H1 else u D σ H1
theorem JZ {c : Expr} {a b : List Stmt} {tc : TT} (hc : PT X c tc) (ha : PSs X a t) (hb : PSs X b u) : PS X (.If c a b pos) (tIfS tc t u):=by
 intro pins s σ H D I h
 refine wpAny_If (thn (hc pins s σ H _ I h) fun d s1 ⟨H1,I1,q1⟩=>?_)
 cases d with
 | true=>exact ha pins s1 σ H1 D I1 q1
 | false=>exact hb pins s1 σ H1 D I1 q1
end
noncomputable abbrev TG:=V → St → Hp → (St → Hp → Prop) → Prop
noncomputable abbrev TGs:=List V → St → Hp → (St → Hp → Prop) → Prop
noncomputable def PG (X : Cx) (target : Expr) (t : TG) : Prop :=
 ∀ (pins : List (Addr × Obj)) (s : Shared) (σ : St) (H : Hp) (v : V) (u : Value) (Q : St → Hp → Prop),Inv X pins σ H s → RelV v u → t v σ H Q →
  wpAny (model X.prog X.w) X.A (assign target X.env u) (fun _ s'=>∃ σ' H',Inv X pins σ' H' s' ∧ Q σ' H') X.xe s
noncomputable def PGs (X : Cx) (ts : List Expr) (t : TGs) : Prop :=
 ∀ (pins : List (Addr × Obj)) (s : Shared) (σ : St) (H : Hp) (vs : List V) (us : List Value) (Q : St → Hp → Prop),Inv X pins σ H s → Vals vs us → t vs σ H Q →
  wpAny (model X.prog X.w) X.A (assignInOrder ((assignEach ts X.env).map (·.2)) us) (fun _ s'=>∃ σ' H',Inv X pins σ' H' s' ∧ Q σ' H') X.xe s
noncomputable abbrev TIp:=V → V → Hp → VK → Prop
noncomputable def PIp (X : Cx) (op : Operator) (t : TIp) : Prop :=
 ∀ (pins : List (Addr × Obj)) (s : Shared) (σ : St) (H : Hp) (x y : V) (v u : Value) (Q : VK),Inv X pins σ H s → RelV x v → RelV y u → t x y H Q →
  wpAny (model X.prog X.w) X.A (inplaceOp op v u) (EP X pins σ Q) X.xe s
section
variable {X : Cx} {pos : Pos}
noncomputable def J2d (i : Nat) : TG:=fun v σ H Q=>Q (σ.set i (some v)) H
theorem JH {i : Nat} {x : Str} (hN : X.N.Nodup) (hi : X.N[i]? = some x) (hx : Loc X.env.scope x) (hf : X.fn x = true ∨ X.env.scope.names.lookup x = some .local:=by first | exact .inl rfl | exact .inr rfl | assumption) : PG X (.Name x pos) (J2d i):=by
 intro pins s σ H v u Q I r h
 exact wpAny_assign_Name (J1P I hN hi hx r (fun s' I'=>⟨_,H,I',h⟩) hf)
noncomputable def gNil : TGs:=fun vs σ H Q=>vs = [] ∧ Q σ H
noncomputable def J6r (t : TG) (u : TGs) : TGs:=fun vs σ H Q=>∃ v r,vs = v :: r ∧ t v σ H fun σ' H'=>u r σ' H' Q
theorem J7A : PGs X [] gNil:=by
 intro pins s σ H vs us Q I r h
 obtain ⟨e,h⟩:=h
 subst e
 cases r
 exact assignInOrder_nil ⟨σ,H,I,h⟩
theorem J1x {e : Expr} {es : List Expr} {t : TG} {u : TGs} (h1 : PG X e t) (h2 : PGs X es u)
  (hs : (assignEach (e :: es) X.env).map (·.2) = assign e X.env :: (assignEach es X.env).map (·.2):=by rfl) : PGs X (e :: es) (J6r t u):=by
 intro pins s σ H vs us Q I r h
 obtain ⟨v,vr,e1,h⟩:=h
 subst e1
 cases r with
 | cons r rr =>
  rw [hs]
  refine assignInOrder_cons (thn (h1 pins s σ H _ _ _ I r h) fun _ s1 ⟨σ1,H1,I1,q1⟩=>?_)
  exact h2 pins s1 σ1 H1 _ _ Q I1 rr q1
noncomputable def gTup (K : PySem.W.Frag) (n : Nat) (t : TGs) : TG:=fun v σ H Q=>∃ a xs,v = .ref a ∧ SqT K H a xs ∧ xs.length = n ∧ t xs σ H Q
theorem J9e {es : List Expr} {k : Nat} {t : TGs} {n : Nat} (hc : X.calm = true) (h : PGs X es t)
  (hn : (assignEach es X.env).length = n:=by rfl) (hst : (assignEach es X.env).findIdx? (·.1) = none:=by rfl) : PG X (.Tuple es k pos) (gTup X.K n t):=by
 intro pins s σ H v u Q I r hw
 obtain ⟨a,xs,e1,hq,hl,hw⟩:=hw
 subst e1
 cases r
 obtain ⟨its,rv,ht,hz⟩:=I.tuple hq
 refine assign_Tuple_tuple (I.ok.hd hc) ht (by simp [hn,← hl,rv.length]) hst fun h' hx=>?_
 have I1 : Inv X pins σ H { s with heap:=h' }:=I.kept (t':=s.toks) fun b o e=>hx b o (Nat.ne_of_lt (Heap.lt_size e)) e
 exact h pins _ σ H xs _ Q I1 (by simpa using rv) hw
noncomputable def tAsg (te : TE) (g : TG) : TS:=fun D σ H=>te σ H fun x H1=>g x σ H1 D.nx
theorem JaZ {tg e : Expr} {te : TE} {g : TG} (he : PE X e te) (hg : PG X tg g) (hs : swapsWithSole [tg] e pos.line X.env = pure false:=by rfl) (hw : swappedStores [tg] e X.env = pure none:=by rfl)
  (h1 : (assignEach [tg] X.env).map (·.2) = [assign tg X.env]:=by rfl) : PS X (.Assign [tg] e pos) (tAsg te g):=by
 intro pins s σ H D I h
 refine wpAny_Assign_stores (thn (he pins s σ H _ I h) fun v s1 ⟨x,H1,I1,r1,q1⟩=>?_) hs hw
 rw [h1]
 exact thn (hg pins s1 σ H1 x v _ I1 r1 q1) fun _ s2 q=>q
theorem Jm {i : Nat} {x : Str} {e : Expr} {te : TE} {pos' : Pos} (hN : X.N.Nodup) (hi : X.N[i]? = some x) (hx : Loc X.env.scope x) (he : PE X e te) (hs : swapsWith e (some (.Name x pos')) pos.line X.env = pure false:=by rfl) (hf : X.fn x = true ∨ X.env.scope.names.lookup x = some .local:=by first | exact .inl rfl | exact .inr rfl | assumption) :
  PS X (.Assign [.Name x pos'] e pos) (tAsg te (J2d i)):=by
 intro pins s σ H D I h
 refine wpAny_Assign_Name (thn (he pins s σ H _ I h) fun v s1 ⟨y,H1,I1,r1,q1⟩=>?_) hs
 exact J1P I1 hN hi hx r1 (fun s2 I2=>⟨_,H1,I2,q1⟩) hf
noncomputable def tAug (i : Nat) (te : TE) (ti : TIp) : TS:=fun D σ H=>∃ x,σ[i]? = some (some x) ∧ te σ H fun y H1=>ti x y H1 fun z H2=>D.nx (σ.set i (some z)) H2
theorem Jba {i : Nat} {x : Str} {e : Expr} {te : TE} {op : Operator} {ti : TIp} {pos' : Pos} (hN : X.N.Nodup) (hi : X.N[i]? = some x) (hx : Loc X.env.scope x) (he : PE X e te) (ho : PIp X op ti) (hf : X.fn x = true ∨ X.env.scope.names.lookup x = some .local:=by first | exact .inl rfl | exact .inr rfl | assumption) :
  PS X (.AugAssign (.Name x pos') op e pos) (tAug i te ti):=by
 intro pins s σ H D I h
 obtain ⟨v,e1,h⟩:=h
 obtain ⟨m,hn,hl⟩:=I.loc
 have vis : Vis X.env.scope x:=by rcases hx with k | k; exact .inl k; exact .inr (.inl k)
 obtain ⟨u,r,l⟩:=hl i x v hi e1 vis
 refine wpAny_AugAssign_Name ?_
 have go : wpAny (model X.prog X.w) X.A (eval e X.env) (fun w s₂=>wpAny (model X.prog X.w) X.A (inplaceOp op u w) (fun r s₃=>wpAny (model X.prog X.w) X.A (storeName X.env x r) (fun _=>SP X pins D .next) X.xe s₃) X.xe s₂) X.xe s:=by
  refine thn (he pins s σ H _ I h) fun w s1 ⟨y,H1,I1,r1,q1⟩=>?_
  refine thn (ho pins s1 σ H1 v y u w _ I1 r r1 q1) fun z s2 ⟨zv,H2,I2,r2,q2⟩=>?_
  exact J1P I2 hN hi hx r2 (fun s3 I3=>⟨_,H2,I3,q2⟩) hf
 rcases l with ⟨hk,hm⟩ | ⟨hk,c,hc,hcell⟩
 ·exact wpAny_loadName_local I.ok.kind hk hn hm go
 ·rcases hk with hk | hk
  ·exact wpAny_loadName_cell I.ok.kind hk hc hcell go
  ·rcases hx with k | k
   ·have : X.env.scope.names.lookup x = some .free:=hk
    rw [k] at this; cases this
   ·have : X.env.scope.names.lookup x = some .free:=hk
    rw [k] at this; cases this
end
section
variable {X : Cx} {pos : Pos}
noncomputable def Jbi (c : TT) (tb : TS) : TS:=fun D σ H=>∃ W : Nat → St → Hp → Prop,(∃ m,W m σ H) ∧ ∀ m σ H,W m σ H →
 c σ H fun b H1=>if b = true then ∃ N : St → Hp → Prop,(∀ σ' H',N σ' H' → ∃ m',m' < m ∧ W m' σ' H') ∧ tb { D with nx:=N,ct:=N,bk:=D.nx } σ H1 else D.nx σ H1
theorem J9c {c : Expr} {body : List Stmt} {tc : TT} {tb : TS} (hp : PassesOwn (model X.prog X.w) X.A X.env X.xe) (hc : PT X c tc) (hb : PSs X body tb) : PS X (.While c body [] pos) (Jbi tc tb):=by
 intro pins s σ H D I h
 obtain ⟨W,⟨m0,w0⟩,turn⟩:=h
 refine wpAny_While (codeAny_whileLoop (fun n s'=>∃ σ' H',Inv X pins σ' H' s' ∧ W n σ' H') ?_ m0 ⟨σ,H,I,w0⟩)
 rintro n s1 ⟨σ1,H1,I1,w1⟩
 refine wpAny_passesOwn hp (thn (hc pins s1 σ1 H1 _ I1 (turn n σ1 H1 w1)) fun b s2 ⟨H2,I2,q2⟩=>?_)
 cases b with
 | true =>
  obtain ⟨N,hN,q2⟩:=q2
  rw [if_pos rfl]
  refine wpAny_passesOwn hp (thn (hb pins s2 σ1 H2 _ I2 q2) fun f s3 q3=>?_)
  cases f with
  | next =>
   obtain ⟨σ3,H3,I3,n3⟩:=q3
   obtain ⟨m',hm,w3⟩:=hN σ3 H3 n3
   exact ⟨m',hm,σ3,H3,I3,w3⟩
  | cont =>
   obtain ⟨σ3,H3,I3,n3⟩:=q3
   obtain ⟨m',hm,w3⟩:=hN σ3 H3 n3
   exact ⟨m',hm,σ3,H3,I3,w3⟩
  | brk=>exact q3
  | ret v=>exact q3
 | false =>
  rw [if_neg Bool.false_ne_true]
  exact wpAny_execs_nil ⟨σ1,H2,I2,q2⟩
end
structure It where
 go : Nat → Hp → Prop
 yld : Nat → Hp → V → Hp → Prop
 stop : Nat → Hp → Prop
noncomputable def FpOk (X : Cx) (pins : List (Addr × Obj)) (H : Hp) (b : Addr) : Prop :=
 H b = none ∧ b ≠ X.env.locals ∧ b ∉ X.fs ∧ (b ∈ X.ex ∨ X.s₀.heap.objs.size ≤ b) ∧ (∀ x c,X.env.cells.lookup x = some c → c ≠ b) ∧ ∀ p ∈ X.pn ++ pins,p.1 ≠ b
theorem Inv.fpOk {X : Cx} {pins : List (Addr × Obj)} {σ : St} {H H' : Hp} {s : Shared} {b : Addr} (I : Inv X pins σ H s) (hb : s.heap.objs.size ≤ b) (hn : H' b = none) : FpOk X pins H' b:=by
 refine ⟨hn,Nat.ne_of_gt (Nat.lt_of_lt_of_le I.lt hb),I.nofs hb,.inr (Nat.le_trans I.sz hb),fun x c e z=>?_,fun p hp z=>?_⟩
 ·obtain ⟨v,q⟩:=I.cell x c e
  exact absurd (Nat.lt_of_lt_of_le q.lt (by rw [z]; exact hb)) (Nat.lt_irrefl _)
 ·exact absurd (Nat.lt_of_lt_of_le (Heap.lt_size (I.pin p hp).1) (by rw [z]; exact hb)) (Nat.lt_irrefl _)
structure Turn (P : Program) (w : World) (K : PySem.W.Frag) (tg : Expr) (J : It) (fp : List Addr) (it : Addr) (tn : Nat → Heap → Prop) : Prop where
 mem : it ∈ fp
 obj : ∀ i h,tn i h → ∀ b ∈ fp,∃ o,h.get? b = some o ∧ ∀ v,o.data ≠ .cell v
 keep : ∀ i h h',tn i h → (∀ b ∈ fp,∀ o,h.get? b = some o → h'.get? b = some o) → tn i h'
 item : ∀ (X : Cx),X.prog = P → X.w = w → X.K = K → X.calm = true → ∀ (i : Nat) (pins : List (Addr × Obj)) (s : Shared) (σ : St) (H : Hp) (E : Value → Shared → Prop),Inv X pins σ H s → (∀ b ∈ fp,FpOk X pins H b) → tn i s.heap → J.go i H →
  wpAny (model P w) X.A (pyNext (.ref it)) (fun r s1=>∃ u,r = some u ∧
   wpAny (model P w) X.A (letOwnedTupleGo tg (.ref it) u) (fun _ s2=>∃ x H',Inv X pins σ H' s2 ∧ RelV x u ∧ J.yld i H x H' ∧ tn (i + 1) s2.heap ∧ ∀ b ∈ fp,H' b = none) E s1) E s
 done : ∀ (X : Cx),X.prog = P → X.w = w → X.K = K → X.calm = true → ∀ (i : Nat) (pins : List (Addr × Obj)) (s : Shared) (σ : St) (H : Hp) (E : Value → Shared → Prop),Inv X pins σ H s → (∀ b ∈ fp,FpOk X pins H b) → tn i s.heap → J.stop i H →
  wpAny (model P w) X.A (pyNext (.ref it)) (fun r s1=>r = none ∧ Inv X pins σ H s1) E s
 self : ∀ (A : Around) (i : Nat) (s : Shared) (Q : Value → Shared → Prop) (E : Value → Shared → Prop),tn i s.heap → Q (.ref it) s → wpAny (model P w) A (pyIter (.ref it)) Q E s
noncomputable abbrev TI:=St → Hp → (It → Hp → Prop) → Prop
noncomputable def PIE (X : Cx) (pins : List (Addr × Obj)) (σ : St) (tg : Expr) (R : It → Hp → Prop) (itv : Value) (s2 : Shared) : Prop :=
 ∃ (it : Addr) (fp : List Addr) (tn : Nat → Heap → Prop) (J : It) (H' : Hp),itv = .ref it ∧ Inv X pins σ H' s2 ∧ Turn X.prog X.w X.K tg J fp it tn ∧ tn 0 s2.heap ∧ (∀ b ∈ fp,FpOk X pins H' b) ∧ R J H'
noncomputable def PI (X : Cx) (tg iter : Expr) (wi : TI) : Prop :=
 ∀ (pins : List (Addr × Obj)) (s : Shared) (σ : St) (H : Hp) (R : It → Hp → Prop),Inv X pins σ H s → wi σ H R →
  wpAny (model X.prog X.w) X.A (eval iter X.env) (fun v s1=>wpAny (model X.prog X.w) X.A (pyIter v) (PIE X pins σ tg R) X.xe s1) X.xe s
theorem J9F {M : Model} {A : Around} {E : Value → Shared → Prop} {s : Shared} {tg : Expr} {it : Addr} {u : Value} {o : Obj} {n : String} {vs : Array Value} {Q : Unit → Shared → Prop} (ho : s.heap.get? it = some o) (hc : o.cls = .type n) (hd : o.data = .fields vs)
    (hn : ["enumerate","zip","dict_itemiterator","dict_reverseitemiterator","odict_iterator","itertools.zip_longest","itertools.pairwise"].contains n = false) (hQ : Q () s) : wpAny M A (letOwnedTupleGo tg (.ref it) u) Q E s:=by
  unfold letOwnedTupleGo
  cases tg <;> first
    | exact wpAny_pure hQ
    | (cases u <;> first
        | exact wpAny_pure hQ
        | (refine wpAny_bind (wpAny_load ho ?_)
           rw [hc,hd]
           show wpAny M A (if (["enumerate","zip","dict_itemiterator","dict_reverseitemiterator","odict_iterator","itertools.zip_longest","itertools.pairwise"].contains n && vs[0]? == some (rawInt _)) = true then _ else _) Q E s
           rw [if_neg (by intro h; rw [hn,Bool.false_and] at h; cases h)]
           exact wpAny_pure hQ))
noncomputable def Itl (K : PySem.W.Frag) (a : Addr) : It :=
 ⟨fun i H=>∃ xs x,SqL K H a xs ∧ xs[i]? = some x,fun i H x H'=>H' = H ∧ ∀ xs,SqL K H a xs → xs[i]? = some x,fun i H=>∃ xs,SqL K H a xs ∧ xs.length ≤ i⟩
noncomputable def Itr (lo : Int) (n : Nat) : It:=⟨fun i _=>i < n,fun i H x H'=>H' = H ∧ x = .int (lo + i),fun i _=>n ≤ i⟩
theorem J8I {P : Program} {w : World} {K : PySem.W.Frag} {tg : Expr} (a it : Addr) : Turn P w K tg (Itl K a) [it] it (fun i h=>h.IsListIter it a i) where
 mem:=by simp
 obj:=fun i h st b hb=>by
  have e : b = it:=by simpa using hb
  subst e
  obtain ⟨o,e,c,d⟩:=st
  exact ⟨o,e,fun v z=>by rw [d] at z; cases z⟩
 keep:=fun i h h' st k=>st.at fun o e=>k it (by simp) o e
 item:=by
  intro X hP hw hK hc i pins s σ H E I hf st hg
  subst hP hw hK
  obtain ⟨xs,x,hq,hx⟩:=hg
  obtain ⟨its,rv,p,hz⟩:=I.list hq
  obtain ⟨u,hu,ru⟩:=rv.get hx
  obtain ⟨f0,f1,f2,f3,f4,f5⟩:=hf it (by simp)
  refine wpAny_pyNext_list_item st p.isList (x:=u) (by simpa using hu) fun h' st' sb=>?_
  have I1 : Inv X pins σ H { s with heap:=h' }:=I.turned (t':=s.toks) (fun b o hb e=>(sb.2 b hb).trans e) f0 f1 f3 f4 f5
  obtain ⟨o,e,c,d⟩:=id st'
  exact ⟨u,rfl,J9F (s:={ s with heap:=h' }) e c d (by decide) ⟨x,H,I1,ru,⟨rfl,fun ys hy=>by rw [I.list_inj hy hq]; exact hx⟩,st',fun b hb=>(hf b hb).1⟩⟩
 done:=by
  intro X hP hw hK hc i pins s σ H E I hf st hg
  subst hP hw hK
  obtain ⟨xs,hq,hx⟩:=hg
  obtain ⟨its,rv,p,hz⟩:=I.list hq
  obtain ⟨f0,f1,f2,f3,f4,f5⟩:=hf it (by simp)
  have hl:=rv.length
  exact wpAny_pyNext_list_end (I.ok.hd hc) st p.isList (by simp; omega) fun h' eb=>⟨rfl,I.turned (t':=s.toks) (fun b o hb e=>eb b o hb e) f0 f1 f3 f4 f5⟩
 self:=fun _ _ _ _ _ st h=>wpAny_pyIter_listiter st h
theorem J7u {P : Program} {w : World} {K : PySem.W.Frag} {tg : Expr} (it : Addr) (lo : Int) (n : Nat) : Turn P w K tg (Itr lo n) [it] it (fun i h=>IsRangeIter h it (lo + (i : Nat) * 1) ((n : Int) - (i : Nat)) 1) where
 mem:=by simp
 obj:=fun i h st b hb=>by
  have e : b = it:=by simpa using hb
  subst e
  exact ⟨_,st,fun v z=>by
   have z' : Data.fields _ = Data.cell v:=z
   cases z'⟩
 keep:=fun i h h' st k=>k it (by simp) _ st
 item:=by
  intro X hP hw hK hc i pins s σ H E I hf st hg
  subst hP hw hK
  obtain ⟨f0,f1,f2,f3,f4,f5⟩:=hf it (by simp)
  have W:=Walks.range (prog:=X.prog) (w:=X.w) (I.ok.hd hc) it lo 1 n
  refine W.item i s _ _ hg st fun v h' tk hv st' kk=>?_
  obtain ⟨t,rfl⟩:=hv
  have I1 : Inv X pins σ H { s with heap:=h',toks:=tk }:=I.turned (fun b o hb e=>kk b o (by simpa using hb) e) f0 f1 f3 f4 f5
  refine ⟨_,rfl,J9F (s:={ s with heap:=h',toks:=tk }) (n:="range_iterator") st' rfl rfl (by decide) ⟨.int (lo + i),H,I1,⟨t,?_⟩,⟨rfl,rfl⟩,st',fun b hb=>(hf b hb).1⟩⟩
  rw [Int.mul_one]
 done:=by
  intro X hP hw hK hc i pins s σ H E I hf st hg
  subst hP hw hK
  obtain ⟨f0,f1,f2,f3,f4,f5⟩:=hf it (by simp)
  exact wpAny_pyNext_range_end (I.ok.hd hc) st (by have : n ≤ i:=hg; omega) fun h' eb=>⟨rfl,I.turned (t':=s.toks) (fun b o hb e=>eb b o hb e) f0 f1 f3 f4 f5⟩
 self:=fun _ _ _ _ _ st h=>wpAny_pyIter_rangeiter st h
end L2
namespace L2
open PySem PySem.Spec PyProof.Rows
section
variable {X : Cx} {tg : Expr}
noncomputable def JaC (K : PySem.W.Frag) (tl : TE) : TI:=fun σ H R=>tl σ H fun x H1=>∃ a,x = .ref a ∧ (∃ xs,SqL K H1 a xs) ∧ R (Itl K a) H1
theorem Jar {l : Expr} {tl : TE} (hl : PE X l tl) : PI X tg l (JaC X.K tl):=by
 intro pins s σ H R I h
 refine thn (hl pins s σ H _ I h) fun v s1 ⟨x,H1,I1,r1,q1⟩=>?_
 obtain ⟨a,e,⟨xs,hq⟩,q⟩:=q1
 subst e
 cases r1
 obtain ⟨its,rv,p,hz⟩:=I1.list hq
 refine wpAny_pyIter_list p.isList ?_
 refine ⟨s1.heap.objs.size,[s1.heap.objs.size],_,_,H1,rfl,I1.kept (t':=s1.toks) fun b o e=>Heap.get?_push_of_some _ e,J8I a _,⟨_,Heap.get?_push_size _ rfl,rfl,rfl⟩,fun b hb=>?_,q⟩
 have e : b = s1.heap.objs.size:=by simpa using hb
 subst e
 exact I1.fpOk (Nat.le_refl _) (I1.hok.fresh (Nat.le_refl _))
theorem J63 {pins : List (Addr × Obj)} {σ : St} {H : Hp} {s : Shared} {R : It → Hp → Prop} {E : Value → Shared → Prop} {lo hi : Int} {t u v : Tok} {tk : Nat} (I : Inv X pins σ H s) (h1 : -(2 ^ 62) ≤ lo) (h2 : lo < 2 ^ 62) (h3 : -(2 ^ 62) ≤ hi) (h4 : hi < 2 ^ 62)
  (q : R (Itr lo (hi - lo).toNat) H) : wpAny (model X.prog X.w) X.A (pyIter (.ref s.heap.objs.size)) (PIE X pins σ tg R) E { s with heap:=s.heap.push { cls:=.type "range",data:=.fields #[.int lo t,.int hi u,.int 1 v] },toks:=tk }:=by
 refine wpAny_pyIter_range (IsRange.new ..) (small_one h1 h2 h3 h4) ?_
 have I1 : Inv X pins σ H { s with heap:=s.heap.push { cls:=.type "range",data:=.fields #[.int lo t,.int hi u,.int 1 v] },toks:=tk }:=I.kept fun b o e=>Heap.get?_push_of_some _ e
 refine ⟨(s.heap.push { cls:=.type "range",data:=.fields #[.int lo t,.int hi u,.int 1 v] }).objs.size,[(s.heap.push { cls:=.type "range",data:=.fields #[.int lo t,.int hi u,.int 1 v] }).objs.size],_,_,H,rfl,
  I1.kept (t':=tk) fun b o e=>Heap.get?_push_of_some _ e,J7u _ lo (hi - lo).toNat,?_,fun b hb=>?_,q⟩
 ·have e1 : lo + ((0 : Nat) : Int) * 1 = lo:=by simp
  have e2 : (((hi - lo).toNat : Nat) : Int) - ((0 : Nat) : Int) = Builtin.Range.rangeSize lo hi 1:=by rw [rangeSize_one]; split <;> omega
  show IsRangeIter _ _ (lo + ((0 : Nat) : Int) * 1) ((((hi - lo).toNat : Nat) : Int) - ((0 : Nat) : Int)) 1
  rw [e1,e2]
  exact Heap.get?_push_size _ rfl
 ·have e : b = (s.heap.push { cls:=.type "range",data:=.fields #[.int lo t,.int hi u,.int 1 v] }).objs.size:=by simpa using hb
  subst e
  exact I1.fpOk (Nat.le_refl _) (I1.hok.fresh (Nat.le_refl _))
noncomputable def JbI (ta : TA) : TI:=fun σ H R=>ta σ H fun vs H1=>∃ j : Int,vs = [.int j] ∧ -(2 ^ 62) ≤ j ∧ j < 2 ^ 62 ∧ R (Itr 0 j.toNat) H1
noncomputable def JbE (ta : TA) : TI:=fun σ H R=>ta σ H fun vs H1=>∃ i j : Int,vs = [.int i,.int j] ∧ (-(2 ^ 62) ≤ i ∧ i < 2 ^ 62 ∧ -(2 ^ 62) ≤ j ∧ j < 2 ^ 62) ∧ R (Itr i (j - i).toNat) H1
theorem J1V {a : Expr} {ta : TA} {p pos : Pos} (hg : Gl X "range") (hm : X.mg "range" = none) (ha : PA X [a] ta) (hs : starEach [a] X.env = [(false,eval a X.env)]:=by rfl) : PI X tg (.Call (.Name "range" p) [a] [] pos) (JbI ta):=by
 intro pins s σ H R I h
 refine Call_ (J42 I hg hm boot_range (PyProof.Rows.callWith_type1 (thn (ha pos pins s σ H _ I h) fun us s1 ⟨vs,H1,I1,r1,q1⟩=>?_) hs rfl))
 obtain ⟨j,e,q1,q2,q⟩:=q1
 subst e
 cases r1 with
 | cons r rr =>
  cases rr
  obtain ⟨t,rfl⟩:=r
  exact call_range_1 (J63 I1 (by omega) (by omega) q1 q2 (by simpa using q))
theorem J4E {a b : Expr} {ta : TA} {p pos : Pos} (hg : Gl X "range") (hm : X.mg "range" = none) (ha : PA X [a,b] ta) (hs : starEach [a,b] X.env = [(false,eval a X.env),(false,eval b X.env)]:=by rfl) (hs2 : starEach [b] X.env = [(false,eval b X.env)]:=by rfl) :
  PI X tg (.Call (.Name "range" p) [a,b] [] pos) (JbE ta):=by
 intro pins s σ H R I h
 refine Call_ (J42 I hg hm boot_range (PyProof.Rows.callWith_type1 (thn (ha pos pins s σ H _ I h) fun us s1 ⟨vs,H1,I1,r1,q1⟩=>?_) (by rw [hs,hs2]) (by rw [hs2]; rfl)))
 obtain ⟨i,j,e,⟨q1,q2,q3,q4⟩,q⟩:=q1
 subst e
 cases r1 with
 | cons r rr =>
  cases rr with
  | cons r' rr =>
   cases rr
   obtain ⟨t,rfl⟩:=r
   obtain ⟨t',rfl⟩:=r'
   exact call_range_2 (J63 I1 q1 q2 q3 q4 q)
noncomputable def tFor (wi : TI) (g : TG) (tb : TS) : TS:=fun D σ H=>wi σ H fun J H1=>∃ W : Nat → Nat → St → Hp → Prop,(∃ m,W 0 m σ H1) ∧ ∀ i m σ H,W i m σ H →
 (J.stop i H ∧ D.nx σ H) ∨ (J.go i H ∧ ∃ N : St → Hp → Prop,(∀ σ' H',N σ' H' → ∃ m',m' < m ∧ W (i + 1) m' σ' H') ∧ ∀ x H',J.yld i H x H' → g x σ H' fun σ2 H2=>tb { D with nx:=N,ct:=N,bk:=D.nx } σ2 H2)
noncomputable def J2S (fp : List Addr) (h : Heap) : List (Addr × Obj):=fp.filterMap fun b=>(h.get? b).map fun o=>(b,o)
theorem J0y {fp : List Addr} {h : Heap} {b : Addr} {o : Obj} (hb : b ∈ fp) (e : h.get? b = some o) : (b,o) ∈ J2S fp h:=List.mem_filterMap.mpr ⟨b,hb,by rw [e]; rfl⟩
theorem J8d {fp : List Addr} {h : Heap} {p : Addr × Obj} (hp : p ∈ J2S fp h) : p.1 ∈ fp ∧ h.get? p.1 = some p.2:=by
 obtain ⟨b,hb,e⟩:=List.mem_filterMap.mp hp
 cases q : h.get? b with
 | none=>rw [q] at e; cases e
 | some o =>
  rw [q] at e
  have e' : (b,o) = p:=Option.some.inj e
  subst e'
  exact ⟨hb,q⟩
theorem Inv.pinned {pins : List (Addr × Obj)} {σ : St} {H : Hp} {s : Shared} {fp : List Addr} (I : Inv X pins σ H s) (hf : ∀ b ∈ fp,FpOk X pins H b) (ho : ∀ b ∈ fp,∃ o,s.heap.get? b = some o ∧ ∀ v,o.data ≠ .cell v) : Inv X (pins ++ J2S fp s.heap) σ H s :=
 I.pins_of fun p hp=>(List.mem_append.mp hp).elim (fun z=>I.pin p (List.mem_append_right _ z)) fun z=>by
  obtain ⟨hb,e⟩:=J8d z
  obtain ⟨f0,f1,f2,_⟩:=hf p.1 hb
  obtain ⟨o,e',d⟩:=ho p.1 hb
  rw [e] at e'; cases e'
  exact ⟨e,f0,f1,f2,d⟩
theorem Inv.unpinned {pins pl : List (Addr × Obj)} {σ : St} {H : Hp} {s : Shared} (I : Inv X (pins ++ pl) σ H s) : Inv X pins σ H s:=I.pins_of fun p hp=>I.pin p (List.mem_append_right _ (List.mem_append_left _ hp))
theorem J1H {iter : Expr} {body : List Stmt} {wi : TI} {g : TG} {tb : TS} {pos : Pos} (hp : PassesOwn (model X.prog X.w) X.A X.env X.xe) (hc : X.calm = true) (hi : PI X tg iter wi) (hg : PG X tg g) (hb : PSs X body tb)
  (hs : ∀ x,foldedSetIterable iter X.env x = pure x:=by intro _; rfl) : PS X (.For tg iter body [] pos) (tFor wi g tb):=by
 intro pins s σ H D I h
 refine wpAny_For (thn (hi pins s σ H _ I h) fun v s1 h1=>thn h1 fun itv s2 h2=>?_) hs
 obtain ⟨it,fp,tn,J,H2,e,I2,T,st2,f2,W,⟨m0,w0⟩,turn⟩:=h2
 subst e
 have stat : ∀ {H' : Hp},(∀ b ∈ fp,H' b = none) → ∀ b ∈ fp,FpOk X pins H' b:=fun hn b hb=>⟨hn b hb,(f2 b hb).2⟩
 refine codeAny_forLoop_any (fun n s'=>∃ i σ' H',Inv X pins σ' H' s' ∧ tn i s'.heap ∧ (∀ b ∈ fp,H' b = none) ∧ W i n σ' H') ?_ m0 ⟨0,σ,H2,I2,st2,fun b hb=>(f2 b hb).1,w0⟩
 rintro n s3 ⟨i,σ3,H3,I3,st3,fr3,w3⟩
 rcases turn i n σ3 H3 w3 with ⟨stop,qn⟩ | ⟨go,N,hN,step⟩
 ·refine wpAny_passesOwn hp (thn (T.done X rfl rfl rfl hc i pins s3 σ3 H3 X.xe I3 (stat fr3) st3 stop) fun r s4 ⟨hr,I4⟩=>?_)
  subst hr
  exact wpAny_execs_nil ⟨σ3,H3,I4,qn⟩
 ·refine wpAny_passesOwn hp (thn (T.item X rfl rfl rfl hc i pins s3 σ3 H3 X.xe I3 (stat fr3) st3 go) fun r s4 ⟨u,hr,h4⟩=>?_)
  subst hr
  refine wpAny_passesOwn hp (thn h4 fun _ s5 ⟨x,H5,I5,r5,y5,st5,fr5⟩=>?_)
  have I5':=I5.pinned (stat fr5) (T.obj _ _ st5)
  refine wpAny_passesOwn hp (thn (hg _ s5 σ3 H5 x u _ I5' r5 (step x H5 y5)) fun _ s6 ⟨σ6,H6,I6,q6⟩=>?_)
  refine wpAny_passesOwn hp (thn (hb _ s6 σ6 H6 _ I6 q6) fun f s7 q7=>?_)
  have again : ∀ {σ7 : St} {H7 : Hp},Inv X (pins ++ J2S fp s5.heap) σ7 H7 s7 → N σ7 H7 → ∃ m,m < n ∧ ∃ i σ' H',Inv X pins σ' H' s7 ∧ tn i s7.heap ∧ (∀ b ∈ fp,H' b = none) ∧ W i m σ' H':=fun {σ7 H7} I7 n7=>by
   obtain ⟨m',hm,w7⟩:=hN σ7 H7 n7
   refine ⟨m',hm,i + 1,σ7,H7,I7.unpinned,T.keep _ _ _ st5 fun b hb o e=>(I7.pin (b,o) (List.mem_append_right _ (List.mem_append_right _ (J0y hb e)))).1,fun b hb=>?_,w7⟩
   obtain ⟨o,e,d⟩:=T.obj _ _ st5 b hb
   exact (I7.pin (b,o) (List.mem_append_right _ (List.mem_append_right _ (J0y hb e)))).2.1
  cases f with
  | next=>obtain ⟨σ7,H7,I7,n7⟩:=q7; exact again I7 n7
  | cont=>obtain ⟨σ7,H7,I7,n7⟩:=q7; exact again I7 n7
  | brk=>obtain ⟨σ7,H7,I7,q7⟩:=q7; exact ⟨σ7,H7,I7.unpinned,q7⟩
  | ret v=>obtain ⟨x7,σ7,H7,I7,r7,q7⟩:=q7; exact ⟨x7,σ7,H7,I7.unpinned,r7,q7⟩
end
theorem J3G {K : PySem.W.Frag} {a : Addr} {xs : List V} {g : TG} {tb : TS} {D : Ends} {σ : St} {H : Hp} (Pv : Nat → St → Hp → Prop) (h0 : Pv 0 σ H) (hl : ∀ i σ H,i ≤ xs.length → Pv i σ H → SqL K H a xs)
  (hs : ∀ i x σ H,xs[i]? = some x → Pv i σ H → g x σ H fun σ2 H2=>tb { D with nx:=Pv (i + 1),ct:=Pv (i + 1),bk:=D.nx } σ2 H2) (hd : ∀ σ H,Pv xs.length σ H → D.nx σ H) :
  ∃ W : Nat → Nat → St → Hp → Prop,(∃ m,W 0 m σ H) ∧ ∀ i m σ H,W i m σ H →
   ((Itl K a).stop i H ∧ D.nx σ H) ∨ ((Itl K a).go i H ∧ ∃ N : St → Hp → Prop,(∀ σ' H',N σ' H' → ∃ m',m' < m ∧ W (i + 1) m' σ' H') ∧ ∀ x H',(Itl K a).yld i H x H' → g x σ H' fun σ2 H2=>tb { D with nx:=N,ct:=N,bk:=D.nx } σ2 H2):=by
 refine ⟨fun i m σ H=>m = xs.length - i ∧ i ≤ xs.length ∧ Pv i σ H,⟨xs.length,by simp,Nat.zero_le _,h0⟩,?_⟩
 rintro i m σ H ⟨rfl,hi,p⟩
 have q:=hl i σ H hi p
 by_cases hlt : i < xs.length
 ·refine .inr ⟨⟨xs,xs[i],q,by simp [hlt]⟩,Pv (i + 1),fun σ' H' p'=>⟨xs.length - (i + 1),by omega,rfl,hlt,p'⟩,fun x H' y=>?_⟩
  obtain ⟨e,y⟩:=y
  subst e
  exact hs i x σ _ (y xs q) p
 ·have e : i = xs.length:=by omega
  subst e
  exact .inl ⟨⟨xs,q,Nat.le_refl _⟩,hd σ H p⟩
theorem J1e {lo : Int} {n : Nat} {g : TG} {tb : TS} {D : Ends} {σ : St} {H : Hp} (Pv : Nat → St → Hp → Prop) (h0 : Pv 0 σ H)
  (hs : ∀ i σ H,i < n → Pv i σ H → g (.int (lo + i)) σ H fun σ2 H2=>tb { D with nx:=Pv (i + 1),ct:=Pv (i + 1),bk:=D.nx } σ2 H2) (hd : ∀ σ H,Pv n σ H → D.nx σ H) :
  ∃ W : Nat → Nat → St → Hp → Prop,(∃ m,W 0 m σ H) ∧ ∀ i m σ H,W i m σ H →
   ((Itr lo n).stop i H ∧ D.nx σ H) ∨ ((Itr lo n).go i H ∧ ∃ N : St → Hp → Prop,(∀ σ' H',N σ' H' → ∃ m',m' < m ∧ W (i + 1) m' σ' H') ∧ ∀ x H',(Itr lo n).yld i H x H' → g x σ H' fun σ2 H2=>tb { D with nx:=N,ct:=N,bk:=D.nx } σ2 H2):=by
 refine ⟨fun i m σ H=>m = n - i ∧ i ≤ n ∧ Pv i σ H,⟨n,by simp,Nat.zero_le _,h0⟩,?_⟩
 rintro i m σ H ⟨rfl,hi,p⟩
 by_cases hlt : i < n
 ·refine .inr ⟨hlt,Pv (i + 1),fun σ' H' p'=>⟨n - (i + 1),by omega,rfl,hlt,p'⟩,fun x H' y=>?_⟩
  obtain ⟨e,y⟩:=y
  subst e y
  exact hs i σ _ hlt p
 ·have e : i = n:=by omega
  subst e
  exact .inl ⟨Nat.le_refl _,hd σ H p⟩
end L2
namespace L2
open PySem PySem.Spec PyProof.Rows
noncomputable abbrev R2:=V → V → Hp → VK → Prop
noncomputable def OpR (X : Cx) (f : Value → Value → Sem Value) (r : R2) : Prop :=
 ∀ (pins : List (Addr × Obj)) (s : Shared) (σ : St) (H : Hp) (x y : V) (v u : Value) (Q : VK),Inv X pins σ H s → RelV x v → RelV y u → r x y H Q →
  wpAny (model X.prog X.w) X.A (f v u) (EP X pins σ Q) X.xe s
noncomputable def J1h (X : Cx) (f : Value) (r : List V → Hp → VK → Prop) : Prop :=
 ∀ (pins : List (Addr × Obj)) (s : Shared) (σ : St) (H : Hp) (xs : List V) (us : List Value) (Q : VK),Inv X pins σ H s → Vals xs us → r xs H Q →
  wpAny (model X.prog X.w) X.A (call f us) (EP X pins σ Q) X.xe s
noncomputable def TruR (X : Cx) (r : V → Hp → (Bool → Hp → Prop) → Prop) : Prop :=
 ∀ (pins : List (Addr × Obj)) (s : Shared) (σ : St) (H : Hp) (x : V) (v : Value) (Q : Bool → Hp → Prop),Inv X pins σ H s → RelV x v → r x H Q →
  wpAny (model X.prog X.w) X.A (truthy v) (TP X pins σ Q) X.xe s
noncomputable def tOp (r : R2) (ta tb : TE) : TE:=fun σ H Q=>ta σ H fun x H1=>tb σ H1 fun y H2=>r x y H2 Q
noncomputable def rI (C : Int → Int → Prop) (g : Int → Int → V) : R2:=fun x y H Q=>∃ i j,x = .int i ∧ y = .int j ∧ C i j ∧ Q (g i j) H
noncomputable def rI0 (g : Int → Int → V) : R2:=fun x y H Q=>∃ i j,x = .int i ∧ y = .int j ∧ Q (g i j) H
section
variable {X : Cx} {a b c : Expr} {ta tb tc : TE} {pos : Pos}
theorem binT (ha : PE X a ta) (hb : PE X b tb) {pins : List (Addr × Obj)} {s : Shared} {σ : St} {H : Hp} {R : V → V → Hp → Prop} (I : Inv X pins σ H s)
  (h : ta σ H fun x H1=>tb σ H1 fun y H2=>R x y H2) {Q : Value → Shared → Prop} {f : Value → Value → Sem Value}
  (hf : ∀ v u s2 x y H2,Inv X pins σ H2 s2 → RelV x v → RelV y u → R x y H2 → wpAny (model X.prog X.w) X.A (f v u) Q X.xe s2) :
  wpAny (model X.prog X.w) X.A (eval a X.env) (fun v s₁=>wpAny (model X.prog X.w) X.A (eval b X.env) (fun u s₂=>wpAny (model X.prog X.w) X.A (f v u) Q X.xe s₂) X.xe s₁) X.xe s:=by
 refine thn (ha pins s σ H _ I h) fun v s1 ⟨x,H1,I1,r1,q1⟩=>?_
 refine thn (hb pins s1 σ H1 _ I1 q1) fun u s2 ⟨y,H2,I2,r2,q2⟩=>?_
 exact hf v u s2 x y H2 I2 r1 r2 q2
theorem Jh {op : Operator} {r : R2} (ho : OpR X (binaryOp op) r) (ha : PE X a ta) (hb : PE X b tb) : PE X (.BinOp a op b pos) (tOp r ta tb):=by
 intro pins s σ H Q I h
 exact wpAny_BinOp (binT ha hb I h fun v u s2 x y H2 I2 rx ry q=>ho pins s2 σ H2 x y v u Q I2 rx ry q)
theorem opI {f : Value → Value → Sem Value} {C : Int → Int → Prop} {g : Int → Int → Int}
  (rule : ∀ (i j : Int) (t u : Tok) (s : Shared) (Q : Value → Shared → Prop) (E : Value → Shared → Prop),C i j → Q (.int (g i j) s.toks) { s with toks:=s.toks + 1 } → wpAny (model X.prog X.w) X.A (f (.int i t) (.int j u)) Q E s) :
  OpR X f (rI C fun i j=>.int (g i j)):=by
 intro pins s σ H x y v u Q I rx ry h
 obtain ⟨i,j,rfl,rfl,hc,q⟩:=h
 obtain ⟨t,rfl⟩:=rx
 obtain ⟨t',rfl⟩:=ry
 exact rule i j t t' s _ _ hc ⟨.int (g i j),H,I.tok _,⟨_,rfl⟩,q⟩
theorem opI0 {f : Value → Value → Sem Value} {g : Int → Int → Int}
  (rule : ∀ (i j : Int) (t u : Tok) (s : Shared) (Q : Value → Shared → Prop) (E : Value → Shared → Prop),Q (.int (g i j) s.toks) { s with toks:=s.toks + 1 } → wpAny (model X.prog X.w) X.A (f (.int i t) (.int j u)) Q E s) :
  OpR X f (rI0 fun i j=>.int (g i j)):=by
 intro pins s σ H x y v u Q I rx ry h
 obtain ⟨i,j,rfl,rfl,q⟩:=h
 obtain ⟨t,rfl⟩:=rx
 obtain ⟨t',rfl⟩:=ry
 exact rule i j t t' s _ _ ⟨.int (g i j),H,I.tok _,⟨_,rfl⟩,q⟩
theorem opB0 {f : Value → Value → Sem Value} {g : Int → Int → Bool}
  (rule : ∀ (i j : Int) (t u : Tok) (s : Shared) (Q : Value → Shared → Prop) (E : Value → Shared → Prop),Q (.bool (g i j)) s → wpAny (model X.prog X.w) X.A (f (.int i t) (.int j u)) Q E s) :
  OpR X f (rI0 fun i j=>.bl (g i j)):=by
 intro pins s σ H x y v u Q I rx ry h
 obtain ⟨i,j,rfl,rfl,q⟩:=h
 obtain ⟨t,rfl⟩:=rx
 obtain ⟨t',rfl⟩:=ry
 exact rule i j t t' s _ _ ⟨.bl (g i j),H,I,rfl,q⟩
noncomputable def CDiv (i j : Int) : Prop:=0 < j ∧ j < 1073741824
noncomputable def CMul (i j : Int) : Prop:=(-(2 ^ 64) < i ∧ i < 2 ^ 64) ∨ (-(2 ^ 64) < j ∧ j < 2 ^ 64)
theorem CMul.ok {i j : Int} (h : CMul i j) : IntMulOk i j:=by
 rcases h with ⟨h1,h2⟩ | ⟨h1,h2⟩
 ·exact .of_left (intBits_le_64 h1 h2)
 ·exact .of_right (intBits_le_64 h1 h2)
theorem J0t : OpR X (binaryOp .Add) (rI0 fun i j=>.int (i + j)):=opI0 fun _ _ _ _ _ _ _ q=>add_int q
theorem J1t : OpR X (binaryOp .Sub) (rI0 fun i j=>.int (i - j)):=opI0 fun _ _ _ _ _ _ _ q=>sub_int q
theorem J1G : OpR X (binaryOp .Mult) (rI CMul fun i j=>.int (i * j)):=opI fun _ _ _ _ _ _ _ hc q=>mul_int q hc.ok
theorem J1a : OpR X (binaryOp .FloorDiv) (rI CDiv fun i j=>.int (i / j)):=opI fun i j _ _ _ _ _ hc q=>by
 have h1 : (0 : Int) < j:=hc.1
 have h2 : j < 1073741824:=hc.2
 exact floordiv_int (by omega) (by rw [Int.fdiv_eq_ediv_of_nonneg i (by omega)]; exact q) (.inl (PyProof.noPylong_small (by omega)))
theorem J02 : OpR X (binaryOp .Mod) (rI (fun _ j=>0 < j) fun i j=>.int (i % j)):=opI fun i j _ _ _ _ _ hc q=>by
 have h1 : (0 : Int) < j:=hc
 exact mod_int' (by omega) (by rw [Int.fmod_eq_emod_of_nonneg i (by omega)]; exact q)
end
noncomputable def scal : V → V → Bool
 | .non,.non=>true | .non,.int _=>true | .int _,.non=>true | .non,.bl _=>true | .bl _,.non=>true | .non,.str _=>true | .str _,.non=>true
 | .int _,.int _=>true | .bl _,.bl _=>true | .str _,.str _=>true | .byt _,.byt _=>true
 | .int _,.str _=>true | .str _,.int _=>true | .bl _,.str _=>true | .str _,.bl _=>true
 | _,_=>false
noncomputable def rEq : R2:=fun x y H Q=>scal x y = true ∧ Q (.bl (decide (x = y))) H
noncomputable def rNe : R2:=fun x y H Q=>scal x y = true ∧ Q (.bl (!decide (x = y))) H
theorem J7E {i j : Int} : decide (V.int i = V.int j) = (i == j):=by
 rw [Bool.eq_iff_iff]
 simp
theorem J94 {i j : Bool} : decide (V.bl i = V.bl j) = (i == j):=by
 rw [Bool.eq_iff_iff]
 simp
theorem J7B {i j : Str} : decide (V.str i = V.str j) = (i == j):=by
 rw [Bool.eq_iff_iff]
 simp
theorem J82 {i j : Array UInt8} : decide (V.byt i = V.byt j) = (i.toList == j.toList):=by
 rw [Bool.eq_iff_iff]
 cases i
 cases j
 simp
section
variable {X : Cx} {a b c : Expr} {ta tb tc : TE} {pos : Pos}
theorem Jv {pins : List (Addr × Obj)} {σ : St} {H : Hp} {s : Shared} {Q : VK} {k k' : Bool} (I : Inv X pins σ H s) (q : Q (.bl k) H) (e : k = k') : EP X pins σ Q (.bool k') s:=by
 subst e
 exact ⟨.bl k,H,I,rfl,q⟩
theorem J13 : OpR X (compareOp .Eq) rEq:=by
 intro pins s σ H x y v u Q I rx ry h
 obtain ⟨hs,q⟩:=h
 cases x with
 | non =>
  cases rx
  cases y with
  | non=>cases ry; exact PySem.EqNone.eq_none_none (Jv I q (by simp))
  | bl j=>cases ry; exact PySem.EqNone.eq_none_bool (Jv I q (by simp))
  | int j=>obtain ⟨t',rfl⟩:=ry; exact PySem.EqNone.eq_none_int (Jv I q (by simp))
  | str j=>obtain ⟨t',rfl⟩:=ry; exact PySem.EqNone.eq_none_str (Jv I q (by simp))
  | _=>exact absurd (show false = true from hs) Bool.false_ne_true
 | bl i =>
  cases rx
  cases y with
  | non=>cases ry; exact PySem.EqNone.eq_bool_none (Jv I q (by simp))
  | bl j=>cases ry; exact eq_bool (Jv I q J94)
  | str j=>obtain ⟨t',rfl⟩:=ry; exact PySem.EqMixed.eq_bool_str (Jv I q (by simp))
  | _=>exact absurd (show false = true from hs) Bool.false_ne_true
 | int i =>
  obtain ⟨t,rfl⟩:=rx
  cases y with
  | non=>cases ry; exact PySem.EqNone.eq_int_none (Jv I q (by simp))
  | int j=>obtain ⟨t',rfl⟩:=ry; exact eq_int (Jv I q J7E)
  | str j=>obtain ⟨t',rfl⟩:=ry; exact PySem.EqMixed.eq_int_str (Jv I q (by simp))
  | _=>exact absurd (show false = true from hs) Bool.false_ne_true
 | str i =>
  obtain ⟨t,rfl⟩:=rx
  cases y with
  | non=>cases ry; exact PySem.EqNone.eq_str_none (Jv I q (by simp))
  | bl j=>cases ry; exact PySem.EqMixed.eq_str_bool (Jv I q (by simp))
  | int j=>obtain ⟨t',rfl⟩:=ry; exact PySem.EqMixed.eq_str_int (Jv I q (by simp))
  | str j=>obtain ⟨t',rfl⟩:=ry; exact eq_str (Jv I q J7B)
  | _=>exact absurd (show false = true from hs) Bool.false_ne_true
 | byt i =>
  obtain ⟨t,rfl⟩:=rx
  cases y with
  | byt j=>obtain ⟨t',rfl⟩:=ry; exact PySem.W.eq_bytes (Jv I q J82)
  | _=>exact absurd (show false = true from hs) Bool.false_ne_true
 | _=>cases y <;> exact absurd (show false = true from hs) Bool.false_ne_true
theorem JaE : OpR X (compareOp .NotEq) rNe:=by
 intro pins s σ H x y v u Q I rx ry h
 obtain ⟨hs,q⟩:=h
 cases x with
 | non =>
  cases rx
  cases y with
  | non=>cases ry; exact PySem.EqNone.ne_none_none (Jv I q (by simp))
  | bl j=>cases ry; exact PySem.EqNone.ne_none_bool (Jv I q (by simp))
  | int j=>obtain ⟨t',rfl⟩:=ry; exact PySem.EqNone.ne_none_int (Jv I q (by simp))
  | str j=>obtain ⟨t',rfl⟩:=ry; exact PySem.EqNone.ne_none_str (Jv I q (by simp))
  | _=>exact absurd (show false = true from hs) Bool.false_ne_true
 | bl i =>
  cases rx
  cases y with
  | non=>cases ry; exact PySem.EqNone.ne_bool_none (Jv I q (by simp))
  | bl j=>cases ry; exact ne_bool (Jv I q (congrArg not J94))
  | str j=>obtain ⟨t',rfl⟩:=ry; exact PySem.EqMixed.ne_bool_str (Jv I q (by simp))
  | _=>exact absurd (show false = true from hs) Bool.false_ne_true
 | int i =>
  obtain ⟨t,rfl⟩:=rx
  cases y with
  | non=>cases ry; exact PySem.EqNone.ne_int_none (Jv I q (by simp))
  | int j=>obtain ⟨t',rfl⟩:=ry; exact ne_int (Jv I q (congrArg not J7E))
  | str j=>obtain ⟨t',rfl⟩:=ry; exact PySem.EqMixed.ne_int_str (Jv I q (by simp))
  | _=>exact absurd (show false = true from hs) Bool.false_ne_true
 | str i =>
  obtain ⟨t,rfl⟩:=rx
  cases y with
  | non=>cases ry; exact PySem.EqNone.ne_str_none (Jv I q (by simp))
  | bl j=>cases ry; exact PySem.EqMixed.ne_str_bool (Jv I q (by simp))
  | int j=>obtain ⟨t',rfl⟩:=ry; exact PySem.EqMixed.ne_str_int (Jv I q (by simp))
  | str j=>obtain ⟨t',rfl⟩:=ry; exact ne_str (Jv I q (congrArg not J7B))
  | _=>exact absurd (show false = true from hs) Bool.false_ne_true
 | byt i =>
  obtain ⟨t,rfl⟩:=rx
  cases y with
  | byt j=>obtain ⟨t',rfl⟩:=ry; exact PySem.W.ne_bytes (Jv I q (congrArg not J82))
  | _=>exact absurd (show false = true from hs) Bool.false_ne_true
 | _=>cases y <;> exact absurd (show false = true from hs) Bool.false_ne_true
theorem J68 : OpR X (compareOp .Lt) (rI0 fun i j=>.bl (decide (i < j))):=opB0 fun _ _ _ _ _ _ _ q=>lt_int q
theorem J4F : OpR X (compareOp .Gt) (rI0 fun i j=>.bl (decide (j < i))):=opB0 fun _ _ _ _ _ _ _ q=>gt_int q
theorem J8F : OpR X (compareOp .In) (fun x y H Q=>∃ i j,x = .str i ∧ y = .str j ∧ Q (.bl (!(Builtin.Str.occurrences j i 0 j.length 1).isEmpty)) H):=by
 intro pins s σ H x y v u Q I rx ry h
 obtain ⟨i,j,rfl,rfl,q⟩:=h
 obtain ⟨t,rfl⟩:=rx
 obtain ⟨t',rfl⟩:=ry
 exact in_str (Jv I q rfl)
theorem J5w : OpR X (compareOp .NotIn) (fun x y H Q=>∃ i j,x = .str i ∧ y = .str j ∧ Q (.bl (!(!(Builtin.Str.occurrences j i 0 j.length 1).isEmpty))) H):=by
 intro pins s σ H x y v u Q I rx ry h
 obtain ⟨i,j,rfl,rfl,q⟩:=h
 obtain ⟨t,rfl⟩:=rx
 obtain ⟨t',rfl⟩:=ry
 exact notIn_str (Jv I q rfl)
theorem Jy (b : Expr) {op : CmpOp} (h : op ≠ .In:=by decide) (h2 : op ≠ .NotIn:=by decide) : behindInMarks op b = false:=by
 have e1 : (op == CmpOp.In) = false:=by cases op <;> first | rfl | exact absurd rfl h
 have e2 : (op == CmpOp.NotIn) = false:=by cases op <;> first | rfl | exact absurd rfl h2
 cases b <;> simp [behindInMarks,e1,e2]
theorem J1C {op : CmpOp} {r : R2} (ho : OpR X (compareOp op) r) (ha : PE X a ta) (hb : PE X b tb) (hm : behindInMarks op b = false) : PE X (.Compare a [op] [b] pos) (tOp r ta tb):=by
 intro pins s σ H Q I h
 exact wpAny_Compare1 (binT ha hb I h fun v u s2 x y H2 I2 rx ry q=>ho pins s2 σ H2 x y v u Q I2 rx ry q) hm
noncomputable def JbM (t : TE) : TT:=fun σ H Q=>t σ H fun x H'=>∃ k,x = .bl k ∧ Q k H'
theorem Ju {op : CmpOp} {r : R2} (ho : OpR X (compareOp op) r) (ha : PE X a ta) (hb : PE X b tb) (hm : behindInMarks op b = false) : PT X (.Compare a [op] [b] pos) (JbM (tOp r ta tb)):=by
 intro pins s σ H Q I h
 refine wpAny_isTrue_Compare1 (thn (ha pins s σ H _ I h) fun v s1 ⟨x,H1,I1,r1,q1⟩=>thn (hb pins s1 σ H1 _ I1 q1) fun u s2 ⟨y,H2,I2,r2,q2⟩ =>
  thn (ho pins s2 σ H2 x y v u _ I2 r1 r2 q2) fun c s3 ⟨z,H3,I3,r3,k,e,q3⟩=>?_) hm
 subst e
 cases r3
 exact wpAny_truthy_bool ⟨H3,I3,q3⟩
noncomputable def TruV (K : PySem.W.Frag) (x : V) (H : Hp) (k : Bool) : Prop :=
 match x with
 | .non=>k = false
 | .bl b=>k = b
 | .int i=>k = (i != 0)
 | .str y=>y.length ≤ sizeLine ∧ k = ((y.length : Int) != 0)
 | .byt y=>y.size ≤ sizeLine ∧ k = ((y.size : Int) != 0)
 | .ref p=>(∃ xs,SqL K H p xs ∧ k = !xs.isEmpty) ∨ (∃ xs,SqT K H p xs ∧ k = !xs.isEmpty) ∨ ∃ kvs,H p = some (.dK kvs) ∧ k = !kvs.isEmpty
 | _=>False
theorem J7f {κ : Type} {kvs : List (κ × V)} {vs : List (κ × Value)} (r : KV kvs vs) : (!vs.isEmpty) = !kvs.isEmpty:=by
 cases r <;> rfl
theorem J3Q {xs : List V} {its : List Value} (r : Vals xs its) : (!its.toArray.isEmpty) = !xs.isEmpty:=by
 cases r <;> simp
theorem J2T : (sizeLine : Nat) < 2 ^ 63:=by rw [sizeLine_eq]; decide
theorem JaT : TruR X (fun x H Q=>∃ k,TruV X.K x H k ∧ Q k H):=by
 intro pins s σ H x v Q I rx h
 obtain ⟨k,e,q⟩:=h
 have hl:=J2T
 have hs : sizeLine = 16777216:=sizeLine_eq
 cases x with
 | non =>
  cases rx
  have e' : k = false:=e
  subst e'
  exact truthy_none ⟨H,I,q⟩
 | bl b =>
  cases rx
  have e' : k = b:=e
  subst e'
  exact wpAny_truthy_bool ⟨H,I,q⟩
 | int i =>
  obtain ⟨t,rfl⟩:=rx
  have e' : k = (i != 0):=e
  subst e'
  exact PySem.P.truthy_int ⟨H,I,q⟩
 | str y =>
  obtain ⟨t,rfl⟩:=rx
  obtain ⟨hy,e'⟩ : y.length ≤ sizeLine ∧ k = ((y.length : Int) != 0):=e
  subst e'
  exact PySem.P.truthy_str (by omega) ⟨H,I.tok _,q⟩
 | byt y =>
  obtain ⟨t,rfl⟩:=rx
  obtain ⟨hy,e'⟩ : y.size ≤ sizeLine ∧ k = ((y.size : Int) != 0):=e
  subst e'
  exact PySem.W.truthy_bytes (by omega) ⟨H,I.tok _,q⟩
 | ref p =>
  cases rx
  have e' : (∃ xs,SqL X.K H p xs ∧ k = !xs.isEmpty) ∨ (∃ xs,SqT X.K H p xs ∧ k = !xs.isEmpty) ∨ ∃ kvs,H p = some (.dK kvs) ∧ k = !kvs.isEmpty:=e
  rcases e' with ⟨xs,hx,e'⟩ | ⟨xs,hx,e'⟩ | ⟨kvs,hx,e'⟩
  ·subst e'
   obtain ⟨its,r,pl,hz⟩:=I.list hx
   have hlen:=r.length
   exact wpAny_truthy_list pl.isList (by simp only [List.size_toArray]; omega) ⟨H,I.tok _,by rw [J3Q r]; exact q⟩
  ·subst e'
   obtain ⟨its,r,pl,hz⟩:=I.tuple hx
   have hlen:=r.length
   exact truthy_tuple pl (by simp only [List.size_toArray]; omega) ⟨H,I.tok _,by rw [J3Q r]; exact q⟩
  ·subst e'
   obtain ⟨hz,hS,vs,r,m⟩ : kvs.length ≤ sizeLine ∧ (p == sysModules) = false ∧ ∃ vs,KV kvs vs ∧ s.heap.DictOf (JX X.prog X.w) p vs:=I.hok p _ hx
   have hlen : kvs.length = vs.length:=Paired.length r
   exact wpAny_truthy_dict hS m (by omega) ⟨H,I.tok _,by rw [J7f r]; exact q⟩
 | _=>exact (show False from e).elim
theorem J98 (ha : PE X a ta) (he : ∀ whole,isTrue a X.env whole = (do let v ← whole; standAt a.pos; holding [v] (truthy v))) :
  PT X a (fun σ H Q=>ta σ H fun x H'=>∃ k,TruV X.K x H' k ∧ Q k H'):=by
 intro pins s σ H Q I h
 exact isTrue_plain (thn (ha pins s σ H _ I h) fun v s1 ⟨x,H1,I1,r1,q1⟩=>JaT pins s1 σ H1 x v Q I1 r1 q1) (he _)
theorem J76 : OpR X (binaryOp .Add) (fun x y H Q=>∃ i j,x = .str i ∧ y = .str j ∧ i.length + j.length ≤ sizeLine ∧ Q (.str (i ++ j)) H):=by
 intro pins s σ H x y v u Q I rx ry h
 obtain ⟨i,j,rfl,rfl,hz,q⟩:=h
 obtain ⟨t,rfl⟩:=rx
 obtain ⟨t',rfl⟩:=ry
 exact add_str (fun t' tk=>⟨.str (i ++ j),H,I.tok _,⟨_,rfl⟩,q⟩) hz
theorem J7D {x : V} {us : List Value} (r : Vals [x] us) : ∃ u,us = [u] ∧ RelV x u:=by
 cases r with
 | cons r1 r2=>cases r2; exact ⟨_,rfl,r1⟩
theorem Jaz {x y : V} {us : List Value} (r : Vals [x,y] us) : ∃ u w',us = [u,w'] ∧ RelV x u ∧ RelV y w':=by
 cases r with
 | cons r1 r2 =>
  cases r2 with
  | cons r3 r4=>cases r4; exact ⟨_,_,rfl,r1,r3⟩
theorem J0W (hc : X.calm = true) : J1h X (.builtin "max") (fun xs H Q=>∃ i j,xs = [.int i,.int j] ∧ Q (.int (if j > i then j else i)) H):=by
 intro pins s σ H xs us Q I r h
 obtain ⟨i,j,rfl,q⟩:=h
 obtain ⟨u,w',rfl,⟨t,rfl⟩,⟨t',rfl⟩⟩:=Jaz r
 refine max_two_ints (I.ok.hd hc) fun h' tk k=>⟨_,H,I.kept k,?_,q⟩
 by_cases hj : j > i
 ·rw [if_pos hj,if_pos hj]; exact ⟨_,rfl⟩
 ·rw [if_neg hj,if_neg hj]; exact ⟨_,rfl⟩
theorem J8h (hc : X.calm = true) : J1h X (.builtin "min") (fun xs H Q=>∃ i j,xs = [.int i,.int j] ∧ Q (.int (if j < i then j else i)) H):=by
 intro pins s σ H xs us Q I r h
 obtain ⟨i,j,rfl,q⟩:=h
 obtain ⟨u,w',rfl,⟨t,rfl⟩,⟨t',rfl⟩⟩:=Jaz r
 refine min_two_ints (I.ok.hd hc) fun h' tk k=>⟨_,H,I.kept k,?_,q⟩
 by_cases hj : j < i
 ·rw [if_pos hj,if_pos hj]; exact ⟨_,rfl⟩
 ·rw [if_neg hj,if_neg hj]; exact ⟨_,rfl⟩
end
end L2
namespace L2
open PySem PySem.Spec PyProof.Rows
structure ObjM (h : Heap) (x dx C : Addr) (mA : Str → Option Value) : Prop where
 obj : h.get? x = some (PySem.W.instObj C dx)
 ns : h.Ns1 dx mA
 ne : dx ≠ x
theorem J8C {h : Heap} {dx : Addr} {mA : Str → Option Value} (n : h.Ns1 dx mA) : ∃ od,h.get? dx = some od ∧ ∀ name,PySem.W.lookIn name od = some (mA name):=by
 obtain ⟨o,es,ep,ho,hd,hk,_,hm⟩:=n
 refine ⟨o,ho,fun name=>?_⟩
 have e:=hm name
 unfold nsFind findBy at e
 rw [← Array.find?_toList] at e
 unfold PySem.W.lookIn
 rw [hd]
 dsimp only
 split
 ·rename_i y q
  rw [q] at e
  exact congrArg some e
 ·rename_i q
  rw [q] at e
  have a : es.toList.any (·.refKey) = false:=by
   rw [List.any_eq_false]
   intro y hy
   obtain ⟨z,t,hkey⟩:=hk y (Array.mem_toList_iff.mp hy)
   simp [DictEntry.refKey,hkey]
  have a' : ¬ es.toList.any (·.refKey) = true:=by rw [a]; exact Bool.false_ne_true
  rw [if_neg a']
  exact congrArg some e
theorem ObjM.look {h : Heap} {x dx C : Addr} {mA : Str → Option Value} (I : ObjM h x dx C mA) : ∃ od,PySem.W.InstAt h x (PySem.W.instObj C dx) C (some od) ∧ ∀ name,PySem.W.lookIn name od = some (mA name) :=
 let ⟨od,ho,hl⟩:=J8C I.ns
 ⟨od,⟨I.obj,rfl,rfl,ho⟩,hl⟩
section
variable {prog : Program} {w : World} {A : Around} {E : Value → Shared → Prop} {s : Shared} {K : PySem.W.Frag} {x dx C f : Addr} {mA : Str → Option Value} {name : Str} {v : Value}
theorem Jaf {expr : Bool} {Q : Value → Shared → Prop} (X : K.In s.heap) (I : ObjM s.heap x dx C mA) (hg : PySem.W.plainGet K C name = true) (hh : PySem.W.hasDictIn K C = true)
  (ha : PySem.W.findIn K (.ref C) name = some none) (hv : mA name = some v) (hv' : PySem.W.handedIn v = true) (h : Q v { s with toks:=s.toks + 1 }) :
  wpAny (model prog w) A (getAttr (.ref x) name expr) Q E s:=by
 obtain ⟨od,J,hl⟩:=I.look
 exact PySem.W.get_value X J (PySem.W.plainGet_of hg).1 (PySem.W.findObj_own hh ha rfl (by rw [hl,hv])) hv' h
theorem J9H {pl : Sem Bool} {Q : Value × List Value → Shared → Prop} (X : K.In s.heap) (I : ObjM s.heap x dx C mA) (hg : PySem.W.plainGet K C name = true)
  (hf : PySem.W.findIn K (.ref C) name = some (some (.ref f))) (ht : PySem.W.isFn K (.ref f) = true) (hv : mA name = none) (h : Q (.ref f,[.ref x]) s) :
  wpAny (model prog w) A (getMethod (.ref x) name pl) Q E s:=by
 obtain ⟨od,J,hl⟩:=I.look
 exact PySem.W.method_fn X J (PySem.W.plainGet_of hg).1 (PySem.W.plainGet_of hg).2 hf (beq_iff_eq.mp ht) (by show (PySem.W.lookIn name od).map (·.isSome) = some false; rw [hl,hv]; rfl) h
theorem Jan {ns : List Str} {Q : Unit → Shared → Prop} (X : K.In s.heap) (I : ObjM s.heap x dx C mA)
  (hs : PySem.W.findIn K (.ref C) "__setattr__" = some (some (.builtin "object.__setattr__"))) (hp : PySem.W.plainOver K C = true) (ht : PySem.W.takerIn K C name = some none) (hh : PySem.W.hasDictIn K C = true)
  (hw : PySem.Within mA ns) (hsz : ns.length ≤ sizeLine)
  (h : ∀ h',ObjM h' x dx C (fun y=>if y = name then some v else mA y) → Heap.SameBut dx s.heap h' → Q () { s with heap:=h',toks:=s.toks + 2 }) :
  wpAny (model prog w) A (setAttr (.ref x) name v) Q E s:=by
 obtain ⟨od,J,hl⟩:=I.look
 refine PySem.W.set_plain X J hs (PySem.W.osa_open (s:={ s with toks:=s.toks + 1 }) (r:=none) X J hp ht fun b=>?_)
 obtain ⟨cd,hc,hd'⟩:=PySem.W.any_some hh
 have hx : s.heap.get? x = some ⟨.ref C,some dx,.plain,#[]⟩:=I.obj
 refine wpAny_bind (wpAny_pure (wpAny_bind (wpAny_bind (wpAny_loadPart hx (wpAny_bind (PySem.W.Looks.here (s:={ s with toks:=s.toks + 1 }) (PySem.W.looks_clsIn X hc) ?_))))))
 rw [hd']
 refine wpAny_pure (a:=some dx) (wpAny_bind (wpAny_pure (wpAny_bind ?_)))
 refine wpAny_nsSet1 (s:={ s with toks:=s.toks + 1 }) I.ns fun h' hn2 hs2=>?_
 obtain ⟨oD,esD,epD,hoD,hdD,hcD⟩:=hn2.count (PySem.Within.cons name v hw)
 refine wpAny_bind (wpAny_lookBehind hoD (by rw [hdD]; exact pastItsLine_dict (Nat.le_trans hcD (by rw [List.length_cons]; omega))) ?_)
 exact wpAny_pure (h _ ⟨(hs2.2 _ (Ne.symm I.ne)).trans I.obj,hn2,I.ne⟩ hs2)
theorem J9z {R : Result → Shared → Prop} {vs : List Value} {kw : List (Str × Value)} (X : K.In s.heap) (hm : PySem.W.makesIn K C = true)
  (hi : PySem.W.findIn K (.ref C) "__init__" = some (some (.ref f))) (hf : PySem.W.typeIn K (.ref f) = some (.type "function"))
  (h : codeAny (model prog w) (A.under (.builtin "type.__call__" ⟨.ref C :: vs,kw⟩)) (.call (.ref f) ⟨.ref (s.heap.objs.size + 1) :: vs,kw⟩) (PySem.W.InitBack (s.heap.objs.size + 1) R)
   {s with heap:=(s.heap.push PySem.W.emptyDict).push (PySem.W.instObj C s.heap.objs.size) }) :
  codeAny (model prog w) A (.call (.ref C) ⟨vs,kw⟩) R s:=by
 obtain ⟨hh,g,d,t,os⟩:=s
 exact PySem.W.make_core (PySem.W.makes_of X hm) (PySem.W.looks_findIn X hi) (fun self=>PySem.W.bind_fn X self hf) (.inl rfl) h
end
noncomputable def putF (f : Str) (v : V) : List (Str × V) → List (Str × V)
 | []=>[(f,v)]
 | (g,x) :: r=>if g = f then (g,v) :: r else (g,x) :: putF f v r
theorem J31 (f g : Str) (v : V) : ∀ fs : List (Str × V),(putF f v fs).lookup g = if g = f then some v else fs.lookup g
 | []=>by
  show List.lookup g [(f,v)] = _
  by_cases h : g = f
  ·have hb : (g == f) = true:=beq_iff_eq.mpr h
   simp only [List.lookup,hb,if_pos h]
  ·have hb : (g == f) = false:=beq_eq_false_iff_ne.mpr h
   simp only [List.lookup,hb,if_neg h]
 | (k,x) :: r=>by
  have ih:=J31 f g v r
  rw [show putF f v ((k,x) :: r) = (if k = f then (k,v) :: r else (k,x) :: putF f v r) from rfl]
  by_cases hk : k = f
  ·rw [if_pos hk]
   by_cases h : g = k
   ·have hb : (g == k) = true:=beq_iff_eq.mpr h
    simp only [List.lookup,hb,if_pos (h.trans hk)]
   ·have hb : (g == k) = false:=beq_eq_false_iff_ne.mpr h
    simp only [List.lookup,hb,if_neg (fun e : g = f=>h (e.trans hk.symm))]
  ·rw [if_neg hk]
   by_cases h : g = k
   ·have hb : (g == k) = true:=beq_iff_eq.mpr h
    simp only [List.lookup,hb,if_neg (fun e : g = f=>hk (h.symm.trans e))]
   ·have hb : (g == k) = false:=beq_eq_false_iff_ne.mpr h
    simp only [List.lookup,hb]
    exact ih
theorem J2P (f : Str) (v : V) : ∀ fs : List (Str × V),f ∈ (putF f v fs).map (·.1) ∧ ∀ g,g ∈ fs.map (·.1) → g ∈ (putF f v fs).map (·.1)
 | []=>⟨by simp [putF],fun g h=>by simp at h⟩
 | (k,x) :: r=>by
  obtain ⟨i1,i2⟩:=J2P f v r
  rw [show putF f v ((k,x) :: r) = (if k = f then (k,v) :: r else (k,x) :: putF f v r) from rfl]
  by_cases hk : k = f
  ·rw [if_pos hk]
   subst hk
   exact ⟨by simp,fun g h=>by simpa using h⟩
  ·rw [if_neg hk]
   refine ⟨?_,fun g h=>?_⟩
   ·rw [List.map_cons]
    exact List.mem_cons_of_mem _ i1
   ·rw [List.map_cons] at h ⊢
    rcases List.mem_cons.mp h with e | e
    ·exact List.mem_cons.mpr (.inl e)
    ·exact List.mem_cons_of_mem _ (i2 g e)
theorem J0I (f : Str) (v : V) : ∀ fs : List (Str × V),(putF f v fs).length ≤ fs.length + 1
 | []=>by simp [putF]
 | (k,x) :: r=>by
  have ih:=J0I f v r
  rw [show putF f v ((k,x) :: r) = (if k = f then (k,v) :: r else (k,x) :: putF f v r) from rfl]
  by_cases hk : k = f
  ·rw [if_pos hk,List.length_cons,List.length_cons]; omega
  ·rw [if_neg hk,List.length_cons,List.length_cons]; omega
theorem RelO.some_of {v : V} {o : Option Value} (r : RelO (some v) o) : ∃ u,o = some u ∧ RelV v u:=by
 cases o with
 | none=>exact (show False from r).elim
 | some u=>exact ⟨u,rfl,r⟩
theorem RelO.none_of {o : Option Value} (r : RelO none o) : o = none:=by
 cases o with
 | none=>rfl
 | some u=>exact (show False from r).elim
theorem J8l {v : V} {u : Value} (r : RelV v u) : PySem.W.handedIn u = true:=by
 cases v with
 | non=>cases (show u = Value.none from r); rfl
 | bl b=>cases (show u = Value.bool b from r); rfl
 | int i=>obtain ⟨t,e⟩:=(show ∃ t,u = Value.int i t from r); cases e; rfl
 | str x=>obtain ⟨t,e⟩:=(show ∃ t,u = Value.str x t from r); cases e; rfl
 | byt b=>obtain ⟨t,e⟩:=(show ∃ t,u = Value.bytes b t from r); cases e; rfl
 | flt b=>obtain ⟨t,e⟩:=(show ∃ t,u = Value.float b t from r); cases e; rfl
 | ref a=>cases (show u = Value.ref a from r); rfl
 | ty n=>cases (show u = Value.type n from r); rfl
section
variable {P : Program} {w : World} {H H' : Hp} {h h' : Heap} {a C dx : Addr} {fs fs' : List (Str × V)}
theorem J5h (hok : HOk P w H h) (e : H a = some (.ins C dx fs)) : ∃ mA,ObjM h a dx C mA ∧ (∀ f,RelO (fs.lookup f) (mA f)) ∧ PySem.Within mA (fs.map (·.1)) ∧ fs.length ≤ 1000 ∧ H dx = some (.own a):=by
 obtain ⟨d,z,ne,ob,mA,n,r,q⟩:=(show J0g P w H h a (.ins C dx fs) from hok a _ e)
 exact ⟨mA,⟨ob,n,ne⟩,r,q,z,d⟩
end
structure Cls (K : PySem.W.Frag) (C : Addr) : Prop where
 pg : PySem.W.plainGet K C Str.empty = true
 hd : PySem.W.hasDictIn K C = true
 po : PySem.W.plainOver K C = true
 sa : PySem.W.findIn K (.ref C) "__setattr__" = some (some (.builtin "object.__setattr__"))
theorem Cls.get {K : PySem.W.Frag} {C : Addr} (c : Cls K C) (f : Str) : PySem.W.plainGet K C f = true:=c.pg
noncomputable def J0s (K : PySem.W.Frag) (C : Addr) (f : Str) : Prop:=PySem.W.findIn K (.ref C) f = some none
theorem J0s.taker {K : PySem.W.Frag} {C : Addr} {f : Str} (n : J0s K C f) : PySem.W.takerIn K C f = some none:=by
 unfold PySem.W.takerIn
 rw [show PySem.W.findIn K (.ref C) f = some none from n]
 rfl
structure Meth (K : PySem.W.Frag) (C : Addr) (m : Str) (f : Addr) : Prop where
 at_ : PySem.W.findIn K (.ref C) m = some (some (.ref f))
 fn : PySem.W.isFn K (.ref f) = true
 kp : PySem.W.keepIn K (.ref f) = true
section
variable {X : Cx} {pins : List (Addr × Obj)} {σ : St} {H : Hp} {s : Shared} {a C dx : Addr} {fs : List (Str × V)} {f : Str} {v : V} {A : Around} {E : Value → Shared → Prop}
theorem J7d {b : Bool} {Q : Value → Shared → Prop} (I : Inv X pins σ H s) (e : H a = some (.ins C dx fs)) (c : Cls X.K C) (n : J0s X.K C f) (l : fs.lookup f = some v)
  (h : ∀ u s',Inv X pins σ H s' → RelV v u → Q u s') : wpAny (model X.prog X.w) A (getAttr (.ref a) f b) Q E s:=by
 obtain ⟨mA,O,r,_,_,_⟩:=J5h I.hok e
 obtain ⟨u,hu,ru⟩:=RelO.some_of (v:=v) (o:=mA f) (by rw [← l]; exact r f)
 exact Jaf I.kIn O (c.get f) c.hd n hu (J8l ru) (h u _ (I.tok _) ru)
theorem J3X {m : Str} {g : Addr} {pl : Sem Bool} {Q : Value × List Value → Shared → Prop} (I : Inv X pins σ H s) (e : H a = some (.ins C dx fs)) (c : Cls X.K C) (k : Meth X.K C m g) (l : fs.lookup m = none)
  (h : Q (.ref g,[.ref a]) s) : wpAny (model X.prog X.w) A (getMethod (.ref a) m pl) Q E s:=by
 obtain ⟨mA,O,r,_,_,_⟩:=J5h I.hok e
 have hn : mA m = none:=RelO.none_of (by rw [← l]; exact r m)
 exact J9H I.kIn O (c.get m) k.at_ k.fn hn h
theorem J7m {y : V} {u : Value} {Q : Unit → Shared → Prop} (I : Inv X pins σ H s) (e : H a = some (.ins C dx fs)) (c : Cls X.K C) (n : J0s X.K C f) (hl : fs.length < 1000) (ry : RelV y u)
  (h : ∀ s',Inv X pins σ (upd H a (.ins C dx (putF f y fs))) s' → Q () s') : wpAny (model X.prog X.w) A (setAttr (.ref a) f u) Q E s:=by
 obtain ⟨mA,O,r,wi,_,ho⟩:=J5h I.hok e
 have hz : (fs.map (·.1)).length ≤ sizeLine:=by rw [List.length_map,sizeLine_eq]; omega
 refine Jan I.kIn O c.sa c.po n.taker c.hd wi hz fun h' O' sb=>h _ ?_
 have hd : ∃ o,h'.get? dx = some o:=let ⟨o,_,_,e',_⟩:=O'.ns; ⟨o,e'⟩
 refine I.write (x:=a) (e:=dx) (by rw [e]; exact True.intro) (.inr ho) (fun b q hb z=>(sb.2 b hb).trans z) hd ?_
 refine ⟨by rw [Jq O.ne]; exact ho,?_,O.ne,O'.obj,_,O'.ns,fun g=>?_,fun g hg=>?_⟩
 ·have:=J0I f y fs; omega
 ·show RelO ((putF f y fs).lookup g) (if g = f then some u else mA g)
  rw [J31]
  by_cases q : g = f
  ·rw [if_pos q,if_pos q]; exact ry
  ·rw [if_neg q,if_neg q]; exact r g
 ·by_cases q : g = f
  ·rw [q]; exact (J2P f y fs).1
  ·refine (J2P f y fs).2 g (wi g fun z=>hg ?_)
   show (if g = f then some u else mA g) = none
   rw [if_neg q]; exact z
theorem Inv.made (I : Inv X pins σ H s) : Inv X pins σ (upd (upd H s.heap.objs.size (.own (s.heap.objs.size + 1))) (s.heap.objs.size + 1) (.ins C s.heap.objs.size []))
  {s with heap:=(s.heap.push PySem.W.emptyDict).push (PySem.W.instObj C s.heap.objs.size) }:=by
 have e1 : (s.heap.push PySem.W.emptyDict).get? s.heap.objs.size = some PySem.W.emptyDict:=Heap.get?_push_size s.heap rfl
 have e2 : ((s.heap.push PySem.W.emptyDict).push (PySem.W.instObj C s.heap.objs.size)).get? (s.heap.objs.size + 1) = some (PySem.W.instObj C s.heap.objs.size):=by
  have:=Heap.get?_push_size (s.heap.push PySem.W.emptyDict) (o:=PySem.W.instObj C s.heap.objs.size) rfl
  rwa [Heap.size_push] at this
 have e3 : (s.heap.push PySem.W.emptyDict).Ns s.heap.objs.size (fun _=>none):=⟨PySem.W.emptyDict,#[],_,e1,rfl,(fun e he=>absurd he (by simp)),fun _=>rfl⟩
 have I1:=I.laid (a:=s.heap.objs.size) (o:=.own (s.heap.objs.size + 1)) (h':=s.heap.push PySem.W.emptyDict) (t':=s.toks) (fun b u q=>Heap.get?_push_of_some _ q) (Nat.le_refl _) ⟨_,e1⟩
 refine I1.laid (a:=s.heap.objs.size + 1) (o:=.ins C s.heap.objs.size []) (t':=s.toks) (fun b u q=>Heap.get?_push_of_some _ q) (Nat.le_of_eq (Heap.size_push _ _)) ?_
 have ne : s.heap.objs.size ≠ s.heap.objs.size + 1:=Nat.ne_of_lt (Nat.lt_succ_self _)
 refine ⟨by rw [Jq ne,Jd],Nat.zero_le _,ne,e2,fun _=>none,(Heap.Ns1.of_empty e3).at fun o q=>Heap.get?_push_of_some _ q,fun _=>True.intro,fun y hy=>absurd rfl hy⟩
theorem Jas {prog : Program} {w : World} {env : Env} {e : Expr} {f : Str} {pos : Pos} {s : Shared} {Q : Value → Shared → Prop} (hb : attributeBase e f env (eval e env) = eval e env)
  (h : wpAny (model prog w) A (eval e env) (fun o s₁=>wpAny (model prog w) A (getAttr o f true) Q E s₁) E s) : wpAny (model prog w) A (eval (.Attribute e f pos) env) Q E s :=
 Attribute_any_ h (by rw [arm_eval_Attribute,hb])
end
noncomputable def tFld (K : PySem.W.Frag) (ta : TE) (f : Str) : TE:=fun σ H Q=>ta σ H fun x H1=>∃ a C dx fs v,x = .ref a ∧ H1 a = some (.ins C dx fs) ∧ Cls K C ∧ J0s K C f ∧ fs.lookup f = some v ∧ Q v H1
noncomputable def sFld (K : PySem.W.Frag) (ta tv : TE) (f : Str) : TS:=fun D σ H=>tv σ H fun y H1=>ta σ H1 fun x H2=>∃ a C dx fs,x = .ref a ∧ H2 a = some (.ins C dx fs) ∧ Cls K C ∧ J0s K C f ∧ fs.length < 1000 ∧
 D.nx σ (upd H2 a (.ins C dx (putF f y fs)))
section
variable {X : Cx} {o e value : Expr} {f : Str} {pos pos' tpos : Pos} {ta tv : TE}
theorem Jb9 (he : PE X e ta) (hb : attributeBase e f X.env (eval e X.env) = eval e X.env) : PE X (.Attribute e f pos) (tFld X.K ta f):=by
 intro pins s σ H Q I h
 refine Jas hb (thn (he pins s σ H _ I h) fun u s1 ⟨x,H1,I1,rx,a,C,dx,fs,v,ex,ea,c,n,l,q⟩=>?_)
 subst ex
 obtain rfl : u = Value.ref a:=rx
 exact J7d I1 ea c n l fun u' s2 I2 ru=>⟨v,H1,I2,ru,q⟩
theorem J1u (ha : PE X o ta) (hv : PE X value tv) (hs : swapsWith value (some (.Attribute o f pos')) pos.line X.env = pure false) : PS X (.Assign [.Attribute o f pos'] value pos) (sFld X.K ta tv f):=by
 intro pins s σ H D I h
 refine plainObj_wpAny_Assign_Attribute (thn (hv pins s σ H _ I h) fun u s1 ⟨y,H1,I1,ry,q⟩=>thn (ha pins s1 σ H1 _ I1 q) fun ov s2 ⟨x,H2,I2,rx,a,C,dx,fs,ex,ea,c,n,l,q2⟩=>?_) hs
 subst ex
 obtain rfl : ov = Value.ref a:=rx
 exact J7m I2 ea c n l ry fun s3 I3=>⟨σ,_,I3,q2⟩
end
section
variable {X : Cx} {pins : List (Addr × Obj)} {σ : St} {H : Hp} {s : Shared} {A : Around} {E : Value → Shared → Prop} {Q : Value → Shared → Prop} {c : Value} {b : Bool}
end
end L2
namespace L2
open PySem PySem.Spec PyProof.Rows
structure Room (k : Nat) (A : Around) : Prop where
 hd : A.handled = none
 dp : A.depth + 3 * k + 5 < recursionLimit
 un : A.units + 16 * k + 200 < cLine
theorem Room.mono {j k : Nat} {A : Around} (r : Room k A) (h : j ≤ k) : Room j A:=⟨r.hd,by have:=r.dp; omega,by have:=r.un; omega⟩
theorem Room.deeper {k : Nat} {A : Around} (r : Room (k + 1) A) (env : Env) : Room k (A.deeper env) :=
 ⟨r.hd,by have:=r.dp; show A.depth + 1 + 3 * k + 5 < _; omega,by have:=r.un; show A.units + 3 + 16 * k + 200 < _; omega⟩
theorem J7k {A : Around} {C : Addr} {us : List Value} {kw : List (Str × Value)} : (A.under (.builtin "type.__call__" ⟨.ref C :: us,kw⟩)).depth = A.depth + 1:=by
 first | rfl | simp [Around.under,Code.weight,Code.isCreation,Code.isGuard,Code.isCaller,Code.frames,Code.isFrame,guardIds]
theorem J7r {A : Around} {C : Addr} {us : List Value} {kw : List (Str × Value)} : (A.under (.builtin "type.__call__" ⟨.ref C :: us,kw⟩)).units = A.units + 1:=by
 first | rfl | simp [Around.under,Code.cUnits,Code.frames,Code.isFrame]
theorem Room.make {k : Nat} {A : Around} (r : Room (k + 1) A) (C : Addr) (us : List Value) (kw : List (Str × Value)) : Room k (A.under (.builtin "type.__call__" ⟨.ref C :: us,kw⟩)) :=
 ⟨r.hd,by have:=r.dp; rw [J7k]; omega,by have:=r.un; rw [J7r]; omega⟩
theorem Room.depth {k : Nat} {A : Around} (r : Room k A) : A.depth < recursionLimit:=by have:=r.dp; omega
theorem Room.units {k : Nat} {A : Around} (r : Room k A) : A.units + 64 < cLine:=by have:=r.un; omega
theorem Room.units0 {k : Nat} {A : Around} (r : Room k A) : A.units < cLine:=by have:=r.un; omega
noncomputable def tNil : TA:=fun _ H Q=>Q [] H
noncomputable def Jbz (ta : TE) (tr : TA) : TA:=fun σ H Q=>ta σ H fun x H1=>tr σ H1 fun xs H2=>Q (x :: xs) H2
section
variable {X : Cx} {e : Expr} {es : List Expr} {te : TE} {t : TA} {pos : Pos}
theorem J7 : PA X [] tNil:=fun _ _ _ _ H Q I h=>Calls.spliced_nil ⟨[],H,I,.nil,h⟩
theorem J0 (ha : PE X e te) (hr : PA X es t) (hs : starEach (e :: es) X.env = (false,eval e X.env) :: starEach es X.env:=by rfl) : PA X (e :: es) (Jbz te t):=by
 intro pos pins s σ H Q I h
 rw [hs]
 show wpAny _ _ (spliced ((false,eval e X.env) :: backTo pos (starEach es X.env))) _ _ s
 refine Calls.spliced_cons (thn (ha pins s σ H _ I h) fun u s1 ⟨x,H1,I1,r1,q1⟩=>?_)
 exact thn (hr pos pins s1 σ H1 _ I1 q1) fun us s2 ⟨xs,H2,I2,r2,q2⟩=>⟨x :: xs,H2,I2,.cons r1 r2,q2⟩
noncomputable def tTup (t : TA) : TE:=fun σ H Q=>t σ H fun xs H1=>xs.length ≤ sizeLine ∧ ∀ p,H1 p = none → Q (.ref p) (upd H1 p (.tup xs))
noncomputable def tLst (t : TA) : TE:=fun σ H Q=>t σ H fun xs H1=>xs.length ≤ sizeLine ∧ ∀ p,H1 p = none → Q (.ref p) (upd H1 p (.lst xs))
theorem J1Q {x1} (h : PA X es t) : PE X (.Tuple es x1 pos) (tTup t):=by
 intro pins s σ H Q I hq
 refine wpAny_Tuple_spliced (thn (h pos pins s σ H _ I hq) fun us s1 ⟨xs,H1,I1,r,z,q⟩=>⟨by rw [← r.length]; exact z,?_⟩)
 have hf : H1 s1.heap.objs.size = none:=I1.hok.fresh (Nat.le_refl _)
 refine ⟨.ref s1.heap.objs.size,upd H1 s1.heap.objs.size (.tup xs),I1.laid (t':=s1.toks) (fun b u e=>Heap.get?_push_of_some _ e) (Nat.le_refl _) ?_,rfl,q _ hf⟩
 exact ⟨z,us,r,⟨_,Heap.get?_push_size _ rfl,rfl,_,rfl⟩⟩
theorem J3N (h : PA X es t) : PE X (.List es pos) (tLst t):=by
 intro pins s σ H Q I hq
 refine wpAny_List_spliced (thn (h pos pins s σ H _ I hq) fun us s1 ⟨xs,H1,I1,r,z,q⟩=>⟨by rw [← r.length]; exact z,?_⟩)
 have hf : H1 s1.heap.objs.size = none:=I1.hok.fresh (Nat.le_refl _)
 refine ⟨.ref s1.heap.objs.size,upd H1 s1.heap.objs.size (.lst xs),I1.laid (t':=s1.toks) (fun b u e=>Heap.get?_push_of_some _ e) (Nat.le_refl _) ?_,rfl,q _ hf⟩
 exact ⟨z,us,0,r,Heap.get?_push_size _ rfl⟩
end
noncomputable abbrev Sp:=List V → Hp → VK → XK → Prop
noncomputable abbrev CXT:=List Env → Hp → Shared → XK → Value → Shared → Prop
structure Env0 (P : Program) (w : World) (K : PySem.W.Frag) (mg : Str → Option Value) (base : Heap) (A : Around) (outer : List Env) (s : Shared) (H : Hp) : Prop where
 frames : A.frames = some outer
 mod : Mod K mg base
 bs : ∀ b o,base.get? b = some o → s.heap.get? b = some o ∧ H b = none
 bsz : base.objs.size ≤ s.heap.objs.size
 funs : s.heap.FunFrames base outer
 frf : ∀ b ∈ frs outer,H b = none
 hok : HOk P w H s.heap
 bare : AllBare s.gens
noncomputable def CE (outer : List Env) (P : Program) (w : World) (H : Hp) (s : Shared) (Q : VK) (u : Value) (s' : Shared) : Prop :=
 ∃ v H',s'.os = s.os ∧ AllBare s'.gens ∧ Un (frs outer) [] H H' s.heap s'.heap ∧ HOk P w H' s'.heap ∧ RelV v u ∧ Q v H'
noncomputable def CR (CX : CXT) (outer : List Env) (P : Program) (w : World) (H : Hp) (s : Shared) (Q : VK) (E : XK) (r : Result) (s' : Shared) : Prop :=
 match r with
 | .ok (.ret u)=>CE outer P w H s Q u s'
 | .ok _=>False
 | .error e=>CX outer H s E e s'
structure FnOk (P : Program) (w : World) (K : PySem.W.Frag) (mg : Str → Option Value) (base : Heap) (CX : CXT) (k : Nat) (f : Addr) (fd : FuncData) (ps : List Str) (sp : Sp) : Prop where
 len : ∀ vs H Q E,sp vs H Q E → vs.length = ps.length
 run : ∀ (A : Around) (outer : List Env) (s : Shared) (H : Hp) (args : Args) (us : List Value) (vs : List V) (Q : VK) (E : XK),Room k A → Env0 P w K mg base A outer s H → BindsTo s fd args (ps.zip us) → Vals vs us → sp vs H Q E →
  codeAny (model P w) A (.call (.ref f) args) (CR CX outer P w H s Q E) s
theorem FnOk.mono {P : Program} {w : World} {K : PySem.W.Frag} {mg : Str → Option Value} {base : Heap} {CX : CXT} {j k : Nat} {f : Addr} {fd : FuncData} {ps : List Str} {sp : Sp} (F : FnOk P w K mg base CX j f fd ps sp) (h : j ≤ k) :
  FnOk P w K mg base CX k f fd ps sp:=⟨F.len,fun A outer s H args us vs Q E hr=>F.run A outer s H args us vs Q E (hr.mono h)⟩
theorem FnOk.imp {P : Program} {w : World} {K : PySem.W.Frag} {mg : Str → Option Value} {base : Heap} {CX : CXT} {k : Nat} {f : Addr} {fd : FuncData} {ps : List Str} {sp sp' : Sp} (F : FnOk P w K mg base CX k f fd ps sp)
  (h : ∀ vs H Q E,sp' vs H Q E → sp vs H Q E) : FnOk P w K mg base CX k f fd ps sp' :=
 ⟨fun vs H Q E q=>F.len vs H Q E (h _ _ _ _ q),fun A outer s H args us vs Q E hr he hb hv hs=>F.run A outer s H args us vs Q E hr he hb hv (h _ _ _ _ hs)⟩
theorem Env0.make {P : Program} {w : World} {K : PySem.W.Frag} {mg : Str → Option Value} {base : Heap} {A : Around} {outer : List Env} {s : Shared} {H : Hp} (e : Env0 P w K mg base A outer s H) (C : Addr) (us : List Value) (kw : List (Str × Value)) :
  Env0 P w K mg base (A.under (.builtin "type.__call__" ⟨.ref C :: us,kw⟩)) outer s H:=⟨by first | exact e.frames | (simpa [Around.under,Code.envs,Code.isFrame,pushEnvs] using e.frames),e.mod,e.bs,e.bsz,e.funs,e.frf,e.hok,e.bare⟩
section
variable {X : Cx} {pins : List (Addr × Obj)} {σ : St} {H : Hp} {s s' : Shared}
theorem Inv.env0 (I : Inv X pins σ H s) : Env0 X.prog X.w X.K X.mg X.base X.A X.stack s H :=
 ⟨I.ok.frames,I.ok.mod,I.bs,Nat.le_trans I.ok.bsz I.sz,I.stack,I.stkFree,I.hok,I.bare⟩
theorem Inv.after {Q : VK} {u : Value} (I : Inv X pins σ H s) (h : CE X.stack X.prog X.w H s Q u s') : EP X pins σ Q u s':=by
 obtain ⟨v,H',os,bare,un,hok,r,q⟩:=h
 obtain ⟨hh,g,d,t,os'⟩:=s'
 obtain rfl : os' = s.os:=os
 exact ⟨v,H',I.call (h':=hh) (g':=g) (d':=d) (t':=t) (ch:=[]) un hok bare (fun b z=>absurd z (by simp)),r,q⟩
end
noncomputable def J7X (sp : Sp) (dvs : List V) (E : XK) (t : TA) : TE:=fun σ H Q=>t σ H fun vs H1=>sp (vs ++ dvs) H1 Q E
noncomputable def J2g (K : PySem.W.Frag) (fd : FuncData) (ps : List Str) (ds : List Value) : Prop :=
 ∀ (s : Shared) (us : List Value),K.In s.heap → (us ++ ds).length = ps.length → BindsTo s fd ⟨us,[]⟩ (ps.zip (us ++ ds))
theorem J2g.all {K : PySem.W.Frag} {fd : FuncData} {ps : List Str} (h : ∀ us : List Value,us.length = ps.length → bindArgs fd ⟨us,[]⟩ = pure (ps.zip us)) : J2g K fd ps []:=fun s us _ hl=>by
 rw [List.append_nil] at hl ⊢
 exact .of_eq (h us hl)
noncomputable def J2V (CX : CXT) (X : Cx) (E : XK) : Prop:=∀ (pins : List (Addr × Obj)) (σ : St) (H : Hp) (s : Shared) (e : Value) (s' : Shared),Inv X pins σ H s → CX X.stack H s E e s' → X.xe e s'
section
variable {X : Cx} {CX : CXT} {k : Nat} {f C : Addr} {fd : FuncData} {ps : List Str} {sp : Sp} {dvs : List V} {ds : List Value} {E : XK} {x m : Str} {p pos apos : Pos} {e o : Expr} {es : List Expr} {ta : TE} {t : TA}
theorem J77 {pins : List (Addr × Obj)} {σ : St} {H : Hp} {s : Shared} {Q : VK} {us : List Value} {vs : List V} (F : FnOk X.prog X.w X.K X.mg X.base CX k f fd ps sp) (hr : Room k X.A) (hb : J2g X.K fd ps ds) (hd : Vals dvs ds) (hx : J2V CX X E)
  (I : Inv X pins σ H s) (r : Vals vs us) (h : sp (vs ++ dvs) H Q E) : wpAny (model X.prog X.w) X.A (call (.ref f) us) (EP X pins σ Q) X.xe s:=by
 have r2 : Vals (vs ++ dvs) (us ++ ds):=r.append hd
 have hl : (us ++ ds).length = ps.length:=by rw [← r2.length]; exact F.len _ _ _ _ h
 refine wpAny_call (codeAny_mono (F.run X.A X.stack s H ⟨us,[]⟩ (us ++ ds) (vs ++ dvs) Q E hr I.env0 (hb s us I.kIn hl) r2 h) fun r s' hq=>?_)
 cases r with
 | error e=>exact hx pins σ H s e s' I hq
 | ok fl =>
  cases fl with
  | ret u=>exact I.after hq
  | next=>exact False.elim hq
  | brk=>exact False.elim hq
  | cont=>exact False.elim hq
theorem J7N (F : FnOk X.prog X.w X.K X.mg X.base CX k f fd ps sp) (hr : Room k X.A) (hg : Gl X x) (hm : X.mg x = some (.ref f)) (hk : PySem.W.keepIn X.K (.ref f) = true) (hb : J2g X.K fd ps ds) (hd : Vals dvs ds) (hx : J2V CX X E)
  (ha : PA X (e :: es) t) (hdb : (x == ("__debug__" : Str)) = false:=by decide) (he : starEach (e :: es) X.env = (false,eval e X.env) :: starEach es X.env:=by rfl) (hpl : (backTo pos (starEach es X.env)).any (·.1) = false:=by rfl) :
  PE X (.Call (.Name x p) (e :: es) [] pos) (J7X sp dvs E t):=by
 intro pins s σ H Q I h
 refine wpAny_Call_Name_kw (J21 I hg hm ?_ hdb)
 refine PySem.W.callWith_K (h₀:=X.base) I.ok.mod.kin hk (thn (ha pos pins s σ H _ I h) fun us s1 ⟨vs,H1,I1,r,q⟩=>⟨I1.kIn,?_⟩) he hpl
 exact J77 F hr hb hd hx I1 r q
structure Mk (K : PySem.W.Frag) (C f : Addr) : Prop where
 makes : PySem.W.makesIn K C = true
 init : PySem.W.findIn K (.ref C) "__init__" = some (some (.ref f))
 fn : PySem.W.isFn K (.ref f) = true
 kp : PySem.W.keepIn K (.ref C) = true
theorem J9n {pins : List (Addr × Obj)} {σ : St} {H : Hp} {s : Shared} {Q : VK} {us : List Value} {vs : List V} (M : Mk X.K C f) (F : FnOk X.prog X.w X.K X.mg X.base CX k f fd ps sp) (hr : Room (k + 1) X.A) (hb : J2g X.K fd ps ds) (hd : Vals dvs ds)
  (hx : J2V CX X E) (I : Inv X pins σ H s) (r : Vals vs us)
  (h : ∀ x dx,H x = none → H dx = none → dx ≠ x → sp (.ref x :: (vs ++ dvs)) (upd (upd H dx (.own x)) x (.ins C dx [])) (fun v H2=>v = .non ∧ Q (.ref x) H2) E) :
  wpAny (model X.prog X.w) X.A (call (.ref C) us) (EP X pins σ Q) X.xe s:=by
 have hq:=h (s.heap.objs.size + 1) s.heap.objs.size (I.hok.fresh (Nat.le_succ _)) (I.hok.fresh (Nat.le_refl _)) (Nat.ne_of_lt (Nat.lt_succ_self _))
 have I2:=Inv.made (C:=C) I
 have r2 : Vals (V.ref (s.heap.objs.size + 1) :: (vs ++ dvs)) (Value.ref (s.heap.objs.size + 1) :: (us ++ ds)):=.cons rfl (r.append hd)
 have hl : (Value.ref (s.heap.objs.size + 1) :: us ++ ds).length = ps.length:=by
  have e:=r2.length
  rw [F.len _ _ _ _ hq] at e
  exact e.symm
 refine wpAny_call (J9z (f:=f) I.kIn M.makes M.init (beq_iff_eq.mp M.fn) (codeAny_mono (F.run _ X.stack _ _ ⟨Value.ref (s.heap.objs.size + 1) :: us,[]⟩ (Value.ref (s.heap.objs.size + 1) :: (us ++ ds)) _ _ E (hr.make C us [])
  (I2.env0.make C us []) (hb _ (Value.ref (s.heap.objs.size + 1) :: us) I2.kIn hl) r2 hq) fun r s' hq'=>?_))
 cases r with
 | error e=>exact hx pins σ _ _ e s' I2 hq'
 | ok fl =>
  cases fl with
  | ret u =>
   obtain ⟨v,H',I3,rv,ev,q3⟩:=I2.after hq'
   subst ev
   exact ⟨rv,⟨V.ref (s.heap.objs.size + 1),H',I3,rfl,q3⟩⟩
  | next=>exact False.elim hq'
  | brk=>exact False.elim hq'
  | cont=>exact False.elim hq'
end
section
variable {X : Cx} {CX : CXT} {k : Nat} {f C : Addr} {fd : FuncData} {ps ks : List Str} {sp : Sp} {E : XK} {x m : Str} {p pos apos kpos : Pos} {e o : Expr} {es : List Expr} {kws : List Keyword} {te ta : TE} {t tk : TA} {nm : Option Str}
variable {g : List Value → List Value → List Value} {gV : List V → List V → List V}
end
structure Jl (N P : List Str) (sc : Scope) : Prop where
 kind : sc.kind = .function
 co : sc.isCoroutine = false
 gen : sc.isGenerator = false
 nd : N.Nodup
 pre : N.take P.length = P
 par : ∀ x ∈ P,sc.names.lookup x = some .local ∨ sc.names.lookup x = some .cell
 nofree : ∀ y ∈ sc.names,y.2 ≠ .free
theorem J4K {kindOf : Str → Option NameKind} {x : Str} : ∀ {binds : List (Str × Value)} {m : Str → Option Value},(∀ v,(x,v) ∉ binds) → bindL kindOf binds m x = m x
 | [],_,_=>rfl
 | (n,v) :: r,m,h=>by
  unfold bindL
  rw [J4K fun w hw=>h w (List.mem_cons_of_mem _ hw)]
  split
  ·have : x ≠ n:=by rintro rfl; exact h v List.mem_cons_self
   simp [this]
  ·rfl
theorem J4L {kindOf : Str → Option NameKind} {x : Str} : ∀ {binds : List (Str × Value)} {m : Str → Option Value},(∀ v,(x,v) ∉ binds) → bindC kindOf binds m x = m x
 | [],_,_=>rfl
 | (n,v) :: r,m,h=>by
  unfold bindC
  rw [J4L fun w hw=>h w (List.mem_cons_of_mem _ hw)]
  split
  ·rfl
  ·have : x ≠ n:=by rintro rfl; exact h v List.mem_cons_self
   simp [this]
theorem J4A {kindOf : Str → Option NameKind} {x : Str} {v : Value} : ∀ {P : List Str} {vs : List Value} {i : Nat} {m : Str → Option Value},P.Nodup → P[i]? = some x → vs[i]? = some v → kindOf x = some .local →
  bindL kindOf (P.zip vs) m x = some v
 | [],_,_,_,_,h,_,_=>by simp at h
 | _ :: _,[],_,_,_,_,h,_=>by simp at h
 | p :: P,w :: vs,0,m,nd,h1,h2,hk=>by
  simp at h1 h2; subst h1; subst h2
  show bindL kindOf ((p,w) :: P.zip vs) m p = _
  unfold bindL
  rw [J4K fun v hv=>(List.nodup_cons.mp nd).1 (List.of_mem_zip hv).1,if_pos hk]
  simp
 | p :: P,w :: vs,i + 1,m,nd,h1,h2,hk=>by
  show bindL kindOf ((p,w) :: P.zip vs) m x = _
  unfold bindL
  exact J4A (i:=i) (List.nodup_cons.mp nd).2 (by simpa using h1) (by simpa using h2) hk
theorem J4D {kindOf : Str → Option NameKind} {x : Str} {v : Value} : ∀ {P : List Str} {vs : List Value} {i : Nat} {m : Str → Option Value},P.Nodup → P[i]? = some x → vs[i]? = some v → kindOf x ≠ some .local →
  bindC kindOf (P.zip vs) m x = some v
 | [],_,_,_,_,h,_,_=>by simp at h
 | _ :: _,[],_,_,_,_,h,_=>by simp at h
 | p :: P,w :: vs,0,m,nd,h1,h2,hk=>by
  simp at h1 h2; subst h1; subst h2
  show bindC kindOf ((p,w) :: P.zip vs) m p = _
  unfold bindC
  rw [J4L fun v hv=>(List.nodup_cons.mp nd).1 (List.of_mem_zip hv).1,if_neg hk]
  simp
 | p :: P,w :: vs,i + 1,m,nd,h1,h2,hk=>by
  show bindC kindOf ((p,w) :: P.zip vs) m x = _
  unfold bindC
  exact J4D (i:=i) (List.nodup_cons.mp nd).2 (by simpa using h1) (by simpa using h2) hk
noncomputable def start (N : List Str) (vs : List V) : St:=vs.map some ++ List.replicate (N.length - vs.length) none
noncomputable def cxOf (CX : CXT) (P : Program) (w : World) (K : PySem.W.Frag) (mg : Str → Option Value) (base : Heap) (N : List Str) (qual : Str) (scope : Scope) (f : Addr) (cd : Value) (A : Around) (outer : List Env) (s : Shared) (H : Hp) (E : XK) : Cx where
 prog:=P
 w:=w
 K:=K
 mg:=mg
 base:=base
 A:=A.deeper (envOfC qual scope s.heap.objs.size f cd)
 N:=N
 s₀:=s
 H₀:=H
 env:=envOfC qual scope s.heap.objs.size f cd
 outer:=outer
 stack:=envOfC qual scope s.heap.objs.size f cd :: outer
 ex:=[]
 calm:=true
 fn:=fun _=>true
 pn:=[]
 xe:=fun e s'=>wpAny (model P w) (A.deeper (envOfC qual scope s.heap.objs.size f cd)) (leaving (envOfC qual scope s.heap.objs.size f cd) e) (fun _ s''=>CX outer H s E e s'') (fun e' s''=>CX outer H s E e' s'') s'
theorem J6j {sc : Scope} {n : Nat} {x : Str} (h : sc.names.lookup x = some .cell) : ∃ c,(cellsFrom n sc.names []).lookup x = some c:=by
 have q:=PySem.W.cellsFrom_some sc.names n [] (.inl h)
 exact Option.isSome_iff_exists.mp q
theorem J8B {CX : CXT} {P : Program} {w : World} {K : PySem.W.Frag} {mg : Str → Option Value} {base : Heap} {N ps : List Str} {qual : Str} {scope : Scope} {f : Addr} {cd : Value} {A : Around} {outer : List Env} {s s1 : Shared} {H : Hp} {E : XK} {us : List Value} {vs : List V}
  (S : Jl N ps scope) (hd : A.handled = none) (e0 : Env0 P w K mg base A outer s H) (hl : vs.length = ps.length) (r : Vals vs us)
  (x : InCallC s s.heap.objs.size (bindL (envOfC qual scope s.heap.objs.size f cd).kindOf (ps.zip us) fun _=>none) (cellsFrom (s.heap.objs.size + 1) scope.names []) (bindC (envOfC qual scope s.heap.objs.size f cd).kindOf (ps.zip us) fun _=>none) s1) :
  Inv (cxOf CX P w K mg base N qual scope f cd A outer s H E) [] (start N vs) H s1:=by
 have hpl : ps.length ≤ N.length:=by have:=congrArg List.length S.pre; rw [List.length_take] at this; omega
 obtain ⟨h1,tk,rfl,hk⟩:=x.done
 have noA : ∀ b : Addr,b ∉ (cxOf CX P w K mg base N qual scope f cd A outer s H E).ex:=fun b z=>absurd (show b ∈ ([] : List Addr) from z) (by simp)
 refine ⟨⟨e0.mod,S.kind,rfl,rfl,Nat.le_refl _,fun y z c h1 h2=>?_,fun y hy=>?_,fun y c _ h=>?_,fun _=>hd,Around.frames_deeper e0.frames,.inr ⟨rfl,rfl⟩,fun b z=>absurd z (noA b),e0.bs,e0.bsz,fun b _ _=>noA b,fun b z=>absurd z (noA b),e0.funs,e0.frf⟩,
  rfl,e0.bare,Un.kept hk,⟨_,x.toInCall.ns,fun i y v h1 h2 h3=>?_⟩,fun y c h=>⟨_,x.cell y c h⟩,e0.hok.fresh (Nat.le_refl _),fun y c h=>?_,fun p hp=>absurd (show p ∈ ([] : List (Addr × Obj)) from hp) (by simp),e0.hok.kept hk,?_⟩
 ·exact name_of_addr x.apart (PySem.mem_of_lookup h1) (PySem.mem_of_lookup h2)
 ·have hy : scope.names.lookup y = some .cell ∨ scope.names.lookup y = some .free:=hy
  rcases hy with hy | hy
  ·exact J6j hy
  ·exact absurd rfl (S.nofree _ (PySem.mem_of_lookup hy))
 ·exact Nat.le_of_lt (x.above y c (PySem.mem_of_lookup h))
 ·have hi : i < vs.length:=by
   unfold start at h2
   by_cases hi : i < vs.length
   ·exact hi
   ·rw [List.getElem?_append_right (by simpa using hi)] at h2
    rw [List.getElem?_replicate] at h2
    split at h2 <;> cases h2
  have ha : vs[i]? = some v:=by
   unfold start at h2
   rw [List.getElem?_append_left (by simpa using hi),List.getElem?_map] at h2
   cases e : vs[i]? with
   | none=>rw [e] at h2; cases h2
   | some a=>rw [e] at h2; cases h2; rfl
  obtain ⟨u,hu,rv⟩:=r.get ha
  have hp : ps[i]? = some y:=by
   rw [← S.pre,List.getElem?_take_of_lt (by omega)]; exact h1
  have ndP : ps.Nodup:=by rw [← S.pre]; exact S.nd.sublist (List.take_sublist _ _)
  refine ⟨u,rv,?_⟩
  rcases S.par y (List.mem_of_getElem? hp) with k | k
  ·exact .inl ⟨k,J4A ndP hp hu k⟩
  ·obtain ⟨c,e⟩:=J6j (n:=s.heap.objs.size + 1) k
   refine .inr ⟨.inl k,c,e,?_⟩
   have q:=x.cell y c e
   rw [J4D ndP hp hu (by show scope.names.lookup y ≠ _; rw [k]; decide)] at q
   exact q
 ·exact e0.hok.fresh (Nat.le_of_lt (x.above y c (PySem.mem_of_lookup h)))
 ·unfold start
  show _ = N.length
  rw [List.length_append,List.length_map,List.length_replicate]
  omega
theorem JaI {CX : CXT} {P : Program} {w : World} {K : PySem.W.Frag} {mg : Str → Option Value} {base : Heap} {k : Nat} {f : Addr} {name qual : Str} {params : Arguments} {body : List Stmt} {scope : Scope} {dV kV doc pm cdv ct oc : Value} {an od : Option Addr}
  {osl : Array (Option Value)} {N ps : List Str} {sp : Sp} (lk : K.lookup f = some ⟨oc,od,.func (PySem.W.fnOf name qual params body scope dV kV doc pm an cdv ct),osl⟩) (hcd : PySem.W.codeIn K cdv qual = true) (S : Jl N ps scope)
  (len : ∀ vs H Q E,sp vs H Q E → vs.length = ps.length)
  (hbody : ∀ (A : Around) (outer : List Env) (s : Shared) (H : Hp) (vs : List V) (Q : VK) (E : XK),Room k (A.deeper (envOfC qual scope s.heap.objs.size f cdv)) → sp vs H Q E →
   ∃ t,PSs (cxOf CX P w K mg base N qual scope f cdv A outer s H E) body t ∧ t { nx:=fun _ H'=>Q .non H',rt:=Q } (start N vs) H) :
  FnOk P w K mg base CX (k + 1) f (PySem.W.fnOf name qual params body scope dV kV doc pm an cdv ct) ps sp:=by
 refine ⟨len,fun A outer s H args us vs Q E hr e0 hb r hsp=>?_⟩
 have hl:=len _ _ _ _ hsp
 have KX : K.In s.heap:=e0.mod.kin.keeps fun b o e=>(e0.bs b o e).1
 have lim : s.heap.NoLimit:=e0.mod.nolimit.keeps fun b o e=>(e0.bs b o e).1
 have hkind : ∀ y ∈ ps.zip us,scope.names.lookup y.1 = some .local ∨ (scope.names.lookup y.1 = some .cell ∧ ((cellsFrom (s.heap.objs.size + 1) scope.names []).lookup y.1).isSome = true):=fun ⟨n,v⟩ hy=>by
  rcases S.par n (List.of_mem_zip hy).1 with q | q
  ·exact .inl q
  ·exact .inr ⟨q,PySem.W.cellsFrom_some _ _ _ (.inl q)⟩
 refine codeAny_call_function hr.depth (KX _ _ lk) rfl S.co S.gen rfl (PySem.W.codeRec_of KX hcd) (hb _ _ _ _ ?_)
 refine wpAny_newFunctionEnv_cells S.kind hkind fun env he s1 x=>?_
 subst he
 refine ⟨lim.keeps x.toInCall.keep,codeAny_func ?_⟩
 obtain ⟨t,ht,hq⟩:=hbody A outer s H vs Q E (hr.deeper _) hsp
 have I : Inv (cxOf CX P w K mg base N qual scope f cdv A outer s H E) [] (start N vs) H s1:=J8B S hr.hd e0 hl r x
 refine wpAny_mono (ht [] s1 (start N vs) H _ I hq) (fun fl s' hs=>?_) fun e s' hs=>hs
 have fin : ∀ {σ' : St} {H' : Hp} {v : V} {u : Value},Inv (cxOf CX P w K mg base N qual scope f cdv A outer s H E) [] σ' H' s' → RelV v u → Q v H' → CE outer P w H s Q u s' :=
  fun {σ' H' v u} J rv q=>⟨v,H',J.os,J.bare,J.base,J.hok,rv,q⟩
 cases fl with
 | ret u =>
  obtain ⟨v,σ',H',J,rv,q⟩:=hs
  exact fin J rv q
 | next =>
  obtain ⟨σ',H',J,q⟩:=hs
  exact fin (v:=V.non) (u:=Value.none) J rfl q
 | brk =>
  obtain ⟨_,_,_,q⟩:=hs
  exact False.elim q
 | cont =>
  obtain ⟨_,_,_,q⟩:=hs
  exact False.elim q
end L2
namespace L2
open PySem PySem.Spec PyProof.Rows
section
variable {X : Cx} {x : Str} {p pos : Pos} {e : Expr} {es : List Expr} {t : TA} {id T : String} {r : List V → Hp → VK → Prop}
noncomputable def tCB (r : List V → Hp → VK → Prop) (t : TA) : TE:=fun σ H Q=>t σ H fun vs H1=>r vs H1 Q
theorem Jk (hc : J1h X (.builtin id) r) (hg : Gl X x) (hm : X.mg x = none) (hv : bootBuiltins x = some (.builtin id)) (ha : PA X (e :: es) t) (hn : x ≠ "__name__":=by decide) (hdb : (x == ("__debug__" : Str)) = false:=by decide)
  (he : starEach (e :: es) X.env = (false,eval e X.env) :: starEach es X.env:=by rfl) (hpl : (backTo pos (starEach es X.env)).any (·.1) = false:=by rfl) : PE X (.Call (.Name x p) (e :: es) [] pos) (tCB r t):=by
 intro pins s σ H Q I h
 refine wpAny_Call_Name_kw (J42 I hg hm hv ?_ hn hdb)
 exact PyProof.Rows.callWith_builtin1 (thn (ha pos pins s σ H _ I h) fun us s1 ⟨vs,H1,I1,r1,q1⟩=>hc pins s1 σ H1 vs us Q I1 r1 q1) he hpl
end
end L2
namespace HT
open PySem PyProof.Rows
section
open PySem.SeqAt
open PySem.AutoSeq1 (wpAny_loadPart')
open PySem.MeetsSeq PySem.MeetsSeq2 PySem.MeetsSeq3
end
section
variable {prog : Program} {w : World} {A : Around} {E : Value → Shared → Prop} {s : Shared}
noncomputable def sIx (n d : Nat) : Option Int → Nat
 | none=>d
 | some v=>if v < 0 then (v + (n : Int)).toNat else min v.toNat n
theorem sIx_none (n d : Nat) : sIx n d none = d:=rfl
theorem sIx_le (n d : Nat) (hd : d ≤ n) (o : Option Int) : sIx n d o ≤ n:=by
 cases o with
 | none=>exact hd
 | some v =>
  show (if v < 0 then (v + (n : Int)).toNat else min v.toNat n) ≤ n
  by_cases hv : v < 0
  ·rw [if_pos hv]; omega
  ·rw [if_neg hv]; exact Nat.min_le_right _ _
end
end HT
namespace L2
open PySem PySem.Spec PyProof.Rows
noncomputable abbrev TO:=St → Hp → (Option Int → Hp → Prop) → Prop
noncomputable def PO (X : Cx) (e : Option Expr) (t : TO) : Prop :=
 ∀ (pins : List (Addr × Obj)) (s : Shared) (σ : St) (H : Hp) (Q : Option Int → Hp → Prop),Inv X pins σ H s → t σ H Q →
  wpAny (model X.prog X.w) X.A (evalPart e X.env) (fun u s'=>∃ o H',Inv X pins σ H' s' ∧ IsPart u o ∧ Q o H') X.xe s
noncomputable def J9X : TO:=fun _ H Q=>Q none H
noncomputable def JbO (t : TE) : TO:=fun σ H Q=>t σ H fun x H1=>∃ i,x = .int i ∧ Q (some i) H1
section
variable {X : Cx} {e : Expr} {te : TE} {lo hi : Option Expr} {tl th : TO} {pos p2 : Pos}
theorem J23 : PO X none J9X:=by
 intro pins s σ H Q I h
 rw [evalPart_none]
 exact wpAny_pure ⟨none,H,I,.none,h⟩
theorem J1n (h : PE X e te) : PO X (some e) (JbO te):=by
 intro pins s σ H Q I hw
 rw [evalPart_some]
 refine thn (h pins s σ H _ I hw) fun u s1 ⟨x,H1,I1,r1,q1⟩=>?_
 obtain ⟨i,rfl,q⟩:=q1
 obtain ⟨t,rfl⟩:=r1
 exact ⟨some i,H1,I1,.int i t,q⟩
noncomputable def SlR (X : Cx) (r : V → Option Int → Option Int → Hp → VK → Prop) : Prop :=
 ∀ (pins : List (Addr × Obj)) (s : Shared) (σ : St) (H : Hp) (x : V) (v vl vu : Value) (lo hi : Option Int) (sl : Addr) (Q : VK),Inv X pins σ H s → RelV x v → s.heap.IsSliceOf sl vl vu .none → IsPart vl lo → IsPart vu hi → r x lo hi H Q →
  ∃ T id,typeLookup (.type T) "__getitem__" = pure (some (.builtin id)) ∧ s.TypeIs v T ∧ wpAny (model X.prog X.w) X.A (getItem v (.ref sl)) (EP X pins σ Q) X.xe s
noncomputable def tSl (r : V → Option Int → Option Int → Hp → VK → Prop) (te : TE) (tl th : TO) : TE:=fun σ H Q=>te σ H fun x H1=>tl σ H1 fun l H2=>th σ H2 fun u H3=>r x l u H3 Q
theorem J1i {r : V → Option Int → Option Int → Hp → VK → Prop} (hr : SlR X r) (he : PE X e te) (hl : PO X lo tl) (hu : PO X hi th) : PE X (.Subscript e (.Slice lo hi none p2) pos) (tSl r te tl th):=by
 intro pins s σ H Q I h
 refine Subscript_ (thn (he pins s σ H _ I h) fun v s1 ⟨x,H1,I1,r1,q1⟩=>?_)
 refine wpAny_Slice (thn (hl pins s1 σ H1 _ I1 q1) fun vl s2 ⟨l,H2,I2,pl,q2⟩=>thn (hu pins s2 σ H2 _ I2 q2) fun vu s3 ⟨u,H3,I3,pu,q3⟩=>?_)
 rw [evalPart_none]
 refine wpAny_pure ?_
 have I4 : Inv X pins σ H3 { s3 with heap:=s3.heap.push { cls:=.type "slice",data:=.fields #[vl,vu,.none] } }:=I3.kept (t':=s3.toks) fun b ob q=>Heap.get?_push_of_some _ q
 obtain ⟨T,id,hT,ht,hg⟩:=hr pins { s3 with heap:=s3.heap.push { cls:=.type "slice",data:=.fields #[vl,vu,.none] } } σ H3 x v vl vu l u s3.heap.objs.size Q I4 r1 (Heap.IsSliceOf.new ..) pl pu q3
 show wpAny (model X.prog X.w) X.A (subscriptTail e (.Slice lo hi none p2) v (.ref s3.heap.objs.size)) (EP X pins σ Q) X.xe { s3 with heap:=s3.heap.push { cls:=.type "slice",data:=.fields #[vl,vu,.none] } }
 exact tail_any (ops:=[.ref s3.heap.objs.size,v]) ht hT hg (by with_unfolding_all rfl)
end
end L2
namespace L2
open PySem PySem.Spec PyProof.Rows
noncomputable def ixN (n : Nat) (i : Int) : Option Nat:=if 0 ≤ i then (if i < n then some i.toNat else none) else if -(n : Int) ≤ i then some (i + n).toNat else none
noncomputable def atI {α : Type} (xs : List α) (i : Int) : Option α:=(ixN xs.length i).bind fun j=>xs[j]?
theorem Jao {n : Nat} {i : Int} {j : Nat} (h : ixN n i = some j) : seqIndex? i n = some j ∧ j < n ∧ -(n : Int) ≤ i ∧ i < n:=by
 unfold ixN at h
 by_cases h0 : 0 ≤ i
 ·rw [if_pos h0] at h
  by_cases h1 : i < n
  ·rw [if_pos h1] at h
   have e : i.toNat = j:=Option.some.inj h
   exact ⟨by rw [seqIndex_of h0 h1,e],by omega,by omega,h1⟩
  ·rw [if_neg h1] at h; cases h
 ·rw [if_neg h0] at h
  by_cases h1 : -(n : Int) ≤ i
  ·rw [if_pos h1] at h
   have e : (i + n).toNat = j:=Option.some.inj h
   exact ⟨by rw [seqIndex_neg (by omega) h1,e],by omega,h1,by omega⟩
  ·rw [if_neg h1] at h; cases h
theorem J5m {α : Type} {xs : List α} {i : Int} {v : α} (h : atI xs i = some v) : ∃ j,seqIndex? i xs.length = some j ∧ xs[j]? = some v ∧ j < xs.length ∧ -(xs.length : Int) ≤ i ∧ i < xs.length:=by
 unfold atI at h
 cases e : ixN xs.length i with
 | none=>rw [e] at h; cases h
 | some j =>
  rw [e] at h
  obtain ⟨h1,h2,h3,h4⟩:=Jao e
  exact ⟨j,h1,h,h2,h3,h4⟩
theorem J7U {α : Type} {xs : List α} {j : Nat} {v : α} (h : xs[j]? = some v) : atI xs (j : Int) = some v:=by
 have hj : j < xs.length:=(List.getElem?_eq_some_iff.mp h).1
 have e : ixN xs.length (j : Int) = some j:=by
  unfold ixN
  rw [if_pos (by omega),if_pos (by omega)]; simp
 unfold atI; rw [e]; exact h
noncomputable def Ja5 (b : Expr) : Prop:=∀ o i,subscripted b false o i = operate [o,i] (getItem o i)
noncomputable def IxR (X : Cx) (r : R2) : Prop :=
 ∀ (value slice : Expr) (pins : List (Addr × Obj)) (s : Shared) (σ : St) (H : Hp) (x y : V) (v u : Value) (Q : VK),Inv X pins σ H s → RelV x v → RelV y u → r x y H Q →
  subscripted slice false v u = operate [v,u] (getItem v u) → wpAny (model X.prog X.w) X.A (subscriptTail value slice v u) (EP X pins σ Q) X.xe s
noncomputable def MtR (X : Cx) (id : String) (r : V → List V → Hp → VK → Prop) : Prop :=
 ∀ (pins : List (Addr × Obj)) (s : Shared) (σ : St) (H : Hp) (x : V) (xs : List V) (v : Value) (us : List Value) (Q : VK),Inv X pins σ H s → RelV x v → Vals xs us → r x xs H Q →
  wpAny (model X.prog X.w) X.A (call (.builtin id) (v :: us)) (EP X pins σ Q) X.xe s
section
variable {X : Cx} {a b : Expr} {ta tb : TE} {pos : Pos}
theorem J15 {r : R2} (hr : IxR X r) (ha : PE X a ta) (hb : PE X b tb) (hs : Ja5 b) : PE X (.Subscript a b pos) (tOp r ta tb):=by
 intro pins s σ H Q I h
 exact Subscript_ (binT ha hb I h fun v u s2 x y H2 I2 rx ry q=>hr a b pins s2 σ H2 x y v u Q I2 rx ry q (hs _ _))
noncomputable def rIxL (K : PySem.W.Frag) : R2:=fun x y H Q=>∃ p xs i v,x = .ref p ∧ y = .int i ∧ SqL K H p xs ∧ atI xs i = some v ∧ Q v H
noncomputable def rIxT (K : PySem.W.Frag) : R2:=fun x y H Q=>∃ p xs i v,x = .ref p ∧ y = .int i ∧ SqT K H p xs ∧ atI xs i = some v ∧ Q v H
noncomputable def rIxS : R2:=fun x y H Q=>∃ z i c,x = .str z ∧ y = .int i ∧ z.length ≤ sizeLine ∧ atI z.cps.toList i = some c ∧ Q (.str ⟨#[c]⟩) H
theorem Ja1 : IxR X (rIxL X.K):=by
 intro value slice pins s σ H x y v u Q I rx ry h hs
 obtain ⟨p,xs,i,z,rfl,rfl,hq,he,q⟩:=h
 cases rx
 obtain ⟨t,rfl⟩:=ry
 obtain ⟨its,r,pl,hz⟩:=I.list hq
 obtain ⟨j,h1,h2,h3,h4,h5⟩:=J5m he
 obtain ⟨w,ew,rw'⟩:=r.get h2
 have hl:=r.length
 have hn:=J2T
 have fin : EP X pins σ Q w s:=⟨z,H,I,rw',q⟩
 by_cases h0 : 0 ≤ i
 ·have hj : i.toNat = j:=by
   rw [seqIndex_of h0 h5] at h1
   exact Option.some.inj h1
  exact item_listR pl.isList h0 (by omega) (by rw [hj]; simpa using ew) fin hs
 ·have hj : (i + (its.toArray.size : Int)).toNat = j:=by
   rw [seqIndex_neg (by omega) h4] at h1
   rw [List.size_toArray,← hl]
   exact Option.some.inj h1
  exact subscriptTail_builtinR (x:=w) pl.isList.typeIs slot_list_getitem.lookup
   (wpAny_getItem_list_neg (Q:=fun r s'=>r = w ∧ EP X pins σ Q r s') pl.isList (by omega) (by rw [List.size_toArray] <;> omega) (by omega) (by rw [hj]; simpa using ew) ⟨rfl,fin⟩) hs
theorem Jb6 : IxR X (rIxT X.K):=by
 intro value slice pins s σ H x y v u Q I rx ry h hs
 obtain ⟨p,xs,i,z,rfl,rfl,hq,he,q⟩:=h
 cases rx
 obtain ⟨t,rfl⟩:=ry
 obtain ⟨its,r,pl,hz⟩:=I.tuple hq
 obtain ⟨j,h1,h2,h3,h4,h5⟩:=J5m he
 obtain ⟨w,ew,rw'⟩:=r.get h2
 have hl:=r.length
 have hn:=J2T
 have fin : EP X pins σ Q w s:=⟨z,H,I,rw',q⟩
 exact subscriptTail_builtinR (x:=w) pl.typeIs slot_tuple_getitem.lookup
  (getItem_tuple (j:=j) (Q:=fun r s'=>r = w ∧ EP X pins σ Q r s') pl (by omega) (by omega) (by rw [List.size_toArray,← hl]; exact h1) (by simpa using ew) ⟨rfl,fin⟩) hs
theorem Jb8 : IxR X rIxS:=by
 intro value slice pins s σ H x y v u Q I rx ry h hs
 obtain ⟨z,i,c,rfl,rfl,hz,he,q⟩:=h
 obtain ⟨t,rfl⟩:=rx
 obtain ⟨t',rfl⟩:=ry
 obtain ⟨j,h1,h2,h3,h4,h5⟩:=J5m he
 have hl : z.cps.toList.length = z.length:=by simp [Str.length]
 rw [hl] at h1 h4 h5
 have hn:=J2T
 exact tail_any (typeIs_str s z t) slot_str_getitem.lookup (getItem_str (c:=c) (by
  have e1 : decide (i < -(2 ^ 63 : Int)) = false:=decide_eq_false (by omega)
  have e2 : decide (i ≥ 2 ^ 63) = false:=decide_eq_false (by omega)
  rw [e1,e2,Bool.or_false]) (by rw [h1]; simpa using h2) ⟨.str ⟨#[c]⟩,H,I.tok _,⟨_,rfl⟩,q⟩) hs
noncomputable def J2H : V → Bool
 | .non=>true
 | .bl _=>true
 | .int _=>true
 | .str _=>true
 | _=>false
noncomputable def eqV : V → V → Bool
 | .non,.non=>true
 | .bl a,.bl b=>a == b
 | .bl a,.int b=>(if a then 1 else 0) == b
 | .int a,.bl b=>a == (if b then 1 else 0)
 | .int a,.int b=>a == b
 | .str a,.str b=>a == b
 | _,_=>false
theorem Jbd {A : Around} {s : Shared} {y x : V} {u v : Value} (ry : RelV y u) (rx : RelV x v) (fy : J2H y = true) (fx : J2H x = true) : SeqAt.EqAt A s u v (eqV y x):=by
 cases y with
 | non =>
  cases ry
  cases x with
  | non=>cases rx; exact SeqAt.EqAt.same _
  | bl b=>cases rx; exact SeqAt.EqAt.none_bool b
  | int b=>obtain ⟨t,rfl⟩:=rx; exact SeqAt.EqAt.none_int b t
  | str b=>obtain ⟨t,rfl⟩:=rx; exact SeqAt.EqAt.none_str b t
  | _=>exact absurd (show false = true from fx) Bool.false_ne_true
 | bl a =>
  cases ry
  cases x with
  | non=>cases rx; exact SeqAt.EqAt.bool_none a
  | bl b=>cases rx; exact SeqAt.EqAt.bool_bool a b
  | int b=>obtain ⟨t,rfl⟩:=rx; exact SeqAt.EqAt.bool_int a b t
  | str b=>obtain ⟨t,rfl⟩:=rx; exact SeqAt.EqAt.bool_str a b t
  | _=>exact absurd (show false = true from fx) Bool.false_ne_true
 | int a =>
  obtain ⟨t',rfl⟩:=ry
  cases x with
  | non=>cases rx; exact SeqAt.EqAt.int_none a t'
  | bl b=>cases rx; exact SeqAt.EqAt.int_bool a t' b
  | int b=>obtain ⟨t,rfl⟩:=rx; exact SeqAt.EqAt.int_int a t' b t
  | str b=>obtain ⟨t,rfl⟩:=rx; exact SeqAt.EqAt.int_str a t' b t
  | _=>exact absurd (show false = true from fx) Bool.false_ne_true
 | str a =>
  obtain ⟨t',rfl⟩:=ry
  cases x with
  | non=>cases rx; exact SeqAt.EqAt.str_none a t'
  | bl b=>cases rx; exact SeqAt.EqAt.str_bool a t' b
  | int b=>obtain ⟨t,rfl⟩:=rx; exact SeqAt.EqAt.str_int a t' b t
  | str b=>obtain ⟨t,rfl⟩:=rx; exact SeqAt.EqAt.str_str a t' b t
  | _=>exact absurd (show false = true from fx) Bool.false_ne_true
 | _=>exact absurd (show false = true from fy) Bool.false_ne_true
theorem J5x : J1h X (.builtin "len") (fun xs H Q=>∃ p ys,xs = [.ref p] ∧ (SqL X.K H p ys ∨ SqT X.K H p ys) ∧ Q (.int ys.length) H):=by
 intro pins s σ H xs us Q I r h
 obtain ⟨p,ys,rfl,hq,q⟩:=h
 obtain ⟨u,rfl,rx⟩:=J7D r
 cases rx
 have hn:=J2T
 rcases hq with hq | hq
 ·obtain ⟨its,r',pl,hz⟩:=I.list hq
  have hlen:=r'.length
  exact Calls.call_len_list pl.isList (by simp only [List.size_toArray] <;> omega) ⟨.int ys.length,H,I.tok _,⟨s.toks + 1,by rw [List.size_toArray,hlen]⟩,q⟩
 ·obtain ⟨its,r',pl,hz⟩:=I.tuple hq
  have hlen:=r'.length
  exact len_tuple pl (by simp only [List.size_toArray] <;> omega) ⟨.int ys.length,H,I.tok _,⟨s.toks + 1,by rw [List.size_toArray,hlen]⟩,q⟩
theorem J5t : J1h X (.builtin "len") (fun xs H Q=>∃ z,xs = [.str z] ∧ z.length ≤ sizeLine ∧ Q (.int z.length) H):=by
 intro pins s σ H xs us Q I r h
 obtain ⟨z,rfl,hz,q⟩:=h
 obtain ⟨u,rfl,t,rfl⟩:=J7D r
 have hn:=J2T
 exact len_str (by omega) ⟨.int z.length,H,I.tok _,⟨_,rfl⟩,q⟩
noncomputable def tyV (K : PySem.W.Frag) (T : String) (x : V) (H : Hp) : Prop:=match x with
 | .str _=>T = "str"
 | .int _=>T = "int"
 | .ref p=>(T = "list" ∧ ∃ xs,SqL K H p xs) ∨ (T = "tuple" ∧ ∃ o,K.lookup p = some o ∧ o.cls = .type "tuple" ∧ o.dict = none) ∨
   (T = "dict" ∧ ((∃ kvs,H p = some (.dK kvs)) ∨ ∃ kvs,H p = some (.dT kvs))) ∨ (T = "set" ∧ ∃ S n,H p = some (.set S n))
 | _=>False
theorem Jb5 {pins : List (Addr × Obj)} {σ : St} {H : Hp} {s : Shared} {T : String} {x : V} {v : Value} (I : Inv X pins σ H s) (r : RelV x v) (ty : tyV X.K T x H) :
  s.TypeIs v T ∧ ∀ a,v = .ref a → ∃ ob,s.heap.get? a = some ob ∧ ob.dict = none:=by
 cases x with
 | str z =>
  obtain ⟨t,rfl⟩:=r
  cases (show T = "str" from ty)
  exact ⟨typeIs_str s z t,fun _ e=>nomatch e⟩
 | int i =>
  obtain ⟨t,rfl⟩:=r
  cases (show T = "int" from ty)
  exact ⟨typeIs_int s i t,fun _ e=>nomatch e⟩
 | ref p =>
  cases r
  rcases ty with ⟨rfl,xs,hq⟩ | ⟨rfl,o,hk,hc,hd⟩ | ⟨rfl,hk⟩ | ⟨rfl,S,n,hk⟩
  ·obtain ⟨its,_,pl,_⟩:=I.list hq
   refine ⟨pl.isList.typeIs,fun a e=>?_⟩
   cases e
   obtain ⟨o,n,e,c,hd,_⟩:=pl
   exact ⟨o,e,hd⟩
  ·refine ⟨⟨o,I.kIn p o hk,hc⟩,fun a e=>?_⟩
   cases e
   exact ⟨o,I.kIn _ o hk,hd⟩
  ·have z : ∃ o,s.heap.get? p = some o ∧ o.ExactDict:=by
    rcases hk with ⟨kvs,hk⟩ | ⟨kvs,hk⟩
    ·obtain ⟨_,_,_,_,o,_,_,e,ex,_⟩:=I.hok p _ hk
     exact ⟨o,e,ex⟩
    ·obtain ⟨_,_,_,_,o,_,_,e,ex,_⟩:=I.hok p _ hk
     exact ⟨o,e,ex⟩
   obtain ⟨o,e,ex⟩:=z
   refine ⟨⟨o,e,ex.1⟩,fun a e2=>?_⟩
   cases e2
   exact ⟨o,e,ex.2.1⟩
  ·obtain ⟨o,_,_,_,e,ex,_⟩:=I.hok p _ hk
   refine ⟨⟨o,e,ex.1⟩,fun a e2=>?_⟩
   cases e2
   exact ⟨o,e,ex.2.1⟩
 | _=>exact False.elim ty
noncomputable def tBM (K : PySem.W.Frag) (T : String) (r : V → List V → Hp → VK → Prop) (to : TE) (t : TA) : TE:=fun σ H Q=>to σ H fun x H1=>tyV K T x H1 ∧ t σ H1 fun xs H2=>r x xs H2 Q
variable {o e : Expr} {es : List Expr} {to : TE} {t : TA} {name : Str} {apos cpos : Pos} {T id : String} {r : V → List V → Hp → VK → Prop}
theorem J7C (pa : PlainAttrs T) (slot : Slot T name id) (hty : typeOf (.builtin id) = pure (.type "method_descriptor")) (hm : MtR X id r) (ho : PE X o to) (ha : PA X (e :: es) t)
  (hbase : attributeBase o name X.env (eval o X.env) = eval o X.env:=by rfl)
  (hfew : ((backTo cpos (starEach (e :: es) X.env)).all (fun x=>!x.1) && (backToKw cpos (keywordEach [] X.env)).all (fun x=>x.1.isSome)
   && decide ((e :: es).length + ([] : List Keyword).length + (if ([] : List Keyword).isEmpty then 0 else 1) < 30)) = true:=by rfl)
  (hline : (apos.endLine == cpos.line) = true:=by rfl) (hs : starEach (e :: es) X.env = (false,eval e X.env) :: starEach es X.env:=by rfl) (hplain : (backTo cpos (starEach es X.env)).any (·.1) = false:=by rfl) :
  PE X (.Call (.Attribute o name apos) (e :: es) [] cpos) (tBM X.K T r to t):=by
 intro pins s σ H Q I h
 refine wpAny_Call_method_late hbase hfew hline rfl (thn (ho pins s σ H _ I h) fun v s1 ⟨x,H1,I1,r1,ty,q1⟩=>?_)
 obtain ⟨h1,h2⟩:=Jb5 I1 r1 ty
 refine ⟨T,id,pa,slot,hty,h1,h2,?_⟩
 have hA:=ha cpos pins s1 σ H1 _ I1 q1
 rw [hs] at hA ⊢
 refine Calls.callWith_builtin (by show (false || (backTo cpos (starEach es X.env)).any (·.1)) = false; rw [hplain] <;> rfl) (Calls.evalArgs_plain ?_)
 exact thn hA fun us s2 ⟨vs,H2,I2,r2,q2⟩=>hm pins s2 σ H2 x vs v us Q I2 r1 r2 q2
end
end L2
namespace L2
open PySem PySem.Spec PyProof.Rows
noncomputable def MtM (X : Cx) (id : String) (r : V → List V → Hp → VK → Prop) : Prop :=
 ∀ (pins : List (Addr × Obj)) (s : Shared) (σ : St) (H : Hp) (x : V) (xs : List V) (v : Value) (us : List Value) (Q : VK),Inv X pins σ H s → RelV x v → Vals xs us → r x xs H Q →
  wpAny (model X.prog X.w) X.A (call (.builtin id) (v :: us)) (EP X pins σ Q) X.xe s
theorem Vals.one : ∀ {x : V} {us : List Value},Vals [x] us → ∃ u,us = [u] ∧ RelV x u
 | _,_,.cons r .nil=>⟨_,rfl,r⟩
theorem Vals.two : ∀ {x y : V} {us : List Value},Vals [x,y] us → ∃ u v,us = [u,v] ∧ RelV x u ∧ RelV y v
 | _,_,_,.cons r (.cons q .nil)=>⟨_,_,rfl,r,q⟩
section
variable {X : Cx} {pins : List (Addr × Obj)} {σ : St} {H : Hp} {s : Shared} {l b : Addr} {xs ys zs : List V}
theorem Inv.lset {its its' : List Value} {n : Nat} {f : Array Value → Array Value} {t' : Nat} (I : Inv X pins σ H s) (hH : H l = some (.lst xs))
  (e : s.heap.get? l = some { cls:=.type "list",data:=.seq its.toArray n }) (hf : f its.toArray = its'.toArray) (hv : Vals ys its') (hz : ys.length ≤ sizeLine) :
  Inv X pins σ (upd H l (.lst ys)) { s with heap:=s.heap.update l (Obj.mapSeq f),toks:=t' }:=by
 have q:=PySem.IsL.update e f
 rw [hf] at q
 refine I.write (x:=l) (e:=l) (by rw [hH]; exact trivial) (.inl rfl) (fun b' u hb hu=>(Heap.get?_update_other s.heap (Obj.mapSeq f) (Ne.symm hb)).trans hu) ⟨_,q⟩ ?_
 exact ⟨hz,its',_,hv,q⟩
theorem Inv.lnew {its : List Value} {t' : Nat} (I : Inv X pins σ H s) (hv : Vals ys its) (hz : ys.length ≤ sizeLine) :
  Inv X pins σ (upd H s.heap.objs.size (.lst ys)) { s with heap:=s.heap.push { cls:=.type "list",data:=.seq its.toArray },toks:=t' } :=
 I.laid (fun _ _ q=>Heap.get?_push_of_some _ q) (Nat.le_refl _) ⟨hz,its,0,hv,Heap.get?_push_size _ rfl⟩
theorem Inv.lstM (I : Inv X pins σ H s) (hH : H l = some (.lst xs)) : xs.length ≤ sizeLine ∧ ∃ (its : List Value) (n : Nat),Vals xs its ∧ xs.length = its.length ∧ s.heap.get? l = some { cls:=.type "list",data:=.seq its.toArray n }:=by
 obtain ⟨z,its,n,r,e⟩:=I.hok l _ hH
 exact ⟨z,its,n,r,r.length,e⟩
theorem J8Z {n : Nat} (h : n ≤ sizeLine) : Builtin.List.listTooLong n = false:=by
 unfold Builtin.List.listTooLong
 exact decide_eq_false (by omega)
end
section
variable {X : Cx}
noncomputable def Jaq : V → List V → Hp → VK → Prop:=fun x vs H Q=>∃ l xs y,x = .ref l ∧ vs = [y] ∧ H l = some (.lst xs) ∧ xs.length < sizeLine ∧ Q .non (upd H l (.lst (xs ++ [y])))
theorem J1d : MtM X "list.append" Jaq:=by
 intro pins s σ H x vs v us Q I rx rv h
 obtain ⟨l,xs,y,rfl,rfl,hH,hz,q⟩:=h
 cases rx
 obtain ⟨u,rfl,ru⟩:=rv.one
 obtain ⟨z,its,n,r,hl,e⟩:=I.lstM hH
 refine call_meets F.slot_list_append ⟨_,e,rfl⟩ F.entry_list_append (F.args_list_append_2 _ _) (PySem.list_append l its.toArray n u (by rw [List.size_toArray]; omega)) ⟨e,?_⟩
 refine ⟨.non,_,I.lset (its':=its ++ [u]) hH e (by simp) (r.append (.cons ru .nil)) ?_,rfl,q⟩
 rw [List.length_append,List.length_singleton]
 omega
end
section
variable {prog : Program} {w : World} {A : Around} {E : Value → Shared → Prop} {s : Shared}
end
section
variable {X : Cx}
end
end L2
namespace Att
open PySem PySem.W PySem.Calls PyProof.Rows
theorem J36 {P : Params} {h : Heap} : ∀ (ns : List Int) (vs : List Value),WellAll P h vs (ns.map WData.int) → IntsAre vs ns:=by
 intro ns
 induction ns with
 | nil =>
  intro vs w
  rw [List.map_nil] at w
  cases w
  exact .nil
 | cons n ns ih =>
  intro vs w
  rw [List.map_cons] at w
  cases w with
  | cons a b =>
   cases a
   exact .cons _ _ (ih _ b)
theorem J8A {l : OpenLaw} {n : Nat} (hn : l.most = some n) {P : Params} {h : Heap} {args : List WData} {vals : List Value}
  (hpre : l.row.toRowW.claim.pre args = true) (hwl : WellAll P h vals args) :
  ∃ a vs ns,vals = [Value.ref a] ∧ args = [WData.list (ns.map WData.int)] ∧ h.get? a = some { cls:=.type "list",data:=.seq vs.toArray } ∧ IntsAre vs ns ∧ ns.length ≤ n:=by
 have hsh : WShape.hasAll [] args [.list .int] = true:=(pre_splitW hpre).1
 have hc : l.pre.holds [] { args:=args } = true:=(pre_splitW hpre).2
 obtain ⟨d,r,rfl,h1,h2⟩:=hasAllW_cons hsh
 obtain rfl:=hasAllW_nil h2
 obtain ⟨xs,rfl,h3⟩:=hasW_list h1
 obtain ⟨ns,rfl⟩:=items_int h3
 have hlen : ns.length ≤ n:=by
  unfold OpenLaw.pre at hc
  have h4 : (WTm.not (.lt (.lit (.int (n : Int))) (.len (.arg 0)))).holds [] { args:=[.list (ns.map .int)] } = true:=by
   have h4:=(holds_andW hc).1
   rw [hn] at h4
   exact h4
  have h5:=condW_of h4 (w_not (w_lt w_lit (w_len_list (w_arg rfl))))
  rw [List.length_map] at h5
  refine Nat.le_of_not_lt fun q=>?_
  have q' : (n : Int) < ((ns.length : Nat) : Int):=by omega
  first
   | (rw [decide_eq_true q'] at h5; exact absurd h5 (by decide))
   | (simp at h5; omega)
 cases hwl with
 | cons w1 w2 =>
  cases w2
  cases w1 with
  | list ho hall=>exact ⟨_,_,ns,rfl,rfl,ho,J36 ns _ hall,hlen⟩
theorem J8r (l : OpenLaw) (args : List WData) : l.row.toRowW.claim.post args (.bool true) args = true :=
 postW_of (r:=l.row.toRowW) (X:=(true == true))
  (show WShape.has [] (.bool true) .bool = true by first | rfl | decide | simp [WShape.has,WShape.arms,WShape.armsAll])
  (show (WTm.eq .res (.lit (.bool true))).value [] { args:=args,res:=some (.bool true),after:=args } = some (.bool (true == true)) from w_eq_bool (w_res rfl) w_lit) rfl
theorem attach_call {l : OpenLaw} {n : Nat} {q : Program} {loose : List Str} {XP : (Str → Option Value) → Heap → Prop} {YP : World → Heap → Prop} {d : DefRec}
  (hn : l.most = some n) (hdf : d.params.defaults = [])
  (call : ∀ (w : World) (s₀ s₁ : Shared) (mg mb : Str → Option Value) (fa : Addr) (o : Obj) (pm cd doc : Value) (a : Addr) (vs : List Value) (ns : List Int),
   Ground q loose [] XP w s₀ mg mb s₁.heap → YP w s₁.heap →
   s₁.heap.get? fa = some o → o.data = .func (docDef d.name d.params d.body d.scope pm cd doc) → s₁.heap.CodeRec cd d.name → mg d.name = some (.ref fa) →
   s₁.heap.get? a = some { cls:=.type "list",data:=.seq vs.toArray } → IntsAre vs ns → ns.length ≤ n → s₁.gens = #[] →
   codeAny (model l.prog w) callerA (.call (.ref fa) ⟨[.ref a],[]⟩) (fun r s'=>r = .ok (.ret (.bool true)) ∧ OldK s₁.heap s'.heap ∧ s'.os = s₁.os ∧ AllBare s'.gens) s₁) :
  WalkO q loose XP YP l.row.toRowW d [] (fun f vs=>PySem.call f vs):=by
 intro w s₀ s₁ mg mb G Y fa o pm cd doc dV kV ho hd hcd hD hmg hg args vals as hpre hlay hrd hwl hlo
 obtain rfl : dV = .none:=Dflts.none hD hdf
 obtain rfl : kV = .none:=Dflts.noKw hD
 obtain ⟨a,vs,ns,rfl,rfl,hobj,hints,hlen⟩:=J8A hn hpre hwl
 refine enter_call (codeAny_mono (call w s₀ s₁ mg mb fa o pm cd doc a vs ns G Y ho (fd_plain hd) hcd hmg hobj hints hlen hg) fun r s' hq=>?_)
 obtain ⟨rfl,h2,h3,h4⟩:=hq
 exact ⟨.inl ⟨.bool true,.bool true,[],rfl,fun _=>rfl,.bool true,J8r l _,fun _=>⟨List.Pairwise.nil,fun _ hm=>(nomatch hm)⟩⟩,h2,h3,h4⟩
section
variable {prog : Program} {w : World} {A : Around} {E : Value → Shared → Prop} {s : Shared} {K : Frag}
end
end Att
namespace L2
open PySem PySem.Spec PyProof.Rows
theorem J4v : ∀ {vs : List Value} {ns : List Int},IntsAre vs ns → Vals (ns.map V.int) vs
 | _,_,.nil=>.nil
 | _,_,.cons n t h=>.cons ⟨t,rfl⟩ (J4v h)
noncomputable def Only (H : Hp) : Prop:=∀ b,H b = none ∨ ∃ o xs,H b = some (.frz o (.lst xs))
theorem J9v {P : Program} {w : World} {K : PySem.W.Frag} {mg mb : Str → Option Value} {CX : CXT} {k : Nat} {fa a : Addr} {fd : FuncData} {x : Str} {sp : Sp} {s₁ : Shared} {vs : List Value} {ns : List Int}
  (KX : K.In s₁.heap) (hns : s₁.heap.Ns mainGlobals mg) (hb : s₁.heap.Ns builtinsNs mb) (hbb : ∀ x : Str,x ≠ "__name__" → mb x = bootBuiltins x) (hlim : s₁.heap.NoLimit) (hg : s₁.gens = #[])
  (ha : s₁.heap.get? a = some { cls:=.type "list",data:=.seq vs.toArray }) (hi : IntsAre vs ns) (hl : ns.length ≤ sizeLine) (hr : Room k callerA)
  (F : ∀ base : Heap,K.In base → base.Ns mainGlobals mg → FnOk P w K mg base CX k fa fd [x] sp) (hbind : ∀ (s : Shared) (u : Value),BindsTo s fd ⟨[u],[]⟩ [(x,u)])
  (hsp : ∀ H : Hp,Only H → SqL K H a (ns.map V.int) → sp [.ref a] H (fun v _=>v = .bl true) fun _ _ _=>False)
  (hCX : ∀ H e s',CX [] H s₁ (fun _ _ _=>False) e s' → False) :
  codeAny (model P w) callerA (.call (.ref fa) ⟨[.ref a],[]⟩) (fun r s'=>r = .ok (.ret (.bool true)) ∧ OldK s₁.heap s'.heap ∧ s'.os = s₁.os ∧ AllBare s'.gens) s₁:=by
 have rv:=J4v hi
 have lenV:=hi.length
 have core : ∀ H : Hp,Only H → SqL K H a (ns.map V.int) → HOk P w H s₁.heap → (∀ b,H b ≠ none → b = a) → (H a ≠ none → K.lookup a = none) →
   codeAny (model P w) callerA (.call (.ref fa) ⟨[.ref a],[]⟩) (fun r s'=>r = .ok (.ret (.bool true)) ∧ OldK s₁.heap s'.heap ∧ s'.os = s₁.os ∧ AllBare s'.gens) s₁:=by
  intro H hO hS hok hA hK
  have base_of : ∀ {b : Addr} {o : Obj},s₁.heap.get? b = some o → H b = none → (hidT s₁.heap H).get? b = some o:=fun e n=>J93 e n
  have noA : ∀ {b : Addr} {o : Obj} {es : Array DictEntry} {ep : Nat},s₁.heap.get? b = some o → o.data = .dict es ep → H b = none:=fun {b o es ep} e d=>by
   cases q : H b with
   | none=>rfl
   | some u =>
    have e' : b = a:=hA b (by rw [q]; simp)
    subst e'
    rw [ha] at e; cases e
    have d' : Data.seq vs.toArray _ = Data.dict es ep:=d
    cases d'
  have nsK : ∀ {b : Addr} {m : Str → Option Value},s₁.heap.Ns b m → (hidT s₁.heap H).Ns b m:=fun {b m} ⟨o,es,ep,e,d,r⟩=>⟨o,es,ep,base_of e (noA e d),d,r⟩
  have hKb : K.In (hidT s₁.heap H):=fun b o e=>base_of (KX b o e) (by
   cases q : H b with
   | none=>rfl
   | some u =>
    have e' : b = a:=hA b (by rw [q]; simp)
    subst e'
    rw [hK (by rw [q]; simp)] at e; cases e)
  have hM : Mod K mg (hidT s₁.heap H):=⟨hKb,nsK hns,⟨mb,nsK hb,hbb⟩,let ⟨mc,h1,h2⟩:=hlim; ⟨mc,nsK h1,h2⟩⟩
  have e0 : Env0 P w K mg (hidT s₁.heap H) callerA [] s₁ H:=⟨rfl,hM,fun b o e=>Jaj e,Nat.le_of_eq (J8c _ _),trivial,fun b hb=>absurd (show b ∈ ([] : List Addr) from hb) (by simp),hok,.of_eq hg⟩
  refine codeAny_mono ((F _ hKb (nsK hns)).run callerA [] s₁ H ⟨[.ref a],[]⟩ [.ref a] [.ref a] _ _ hr e0 (hbind s₁ (.ref a)) (.cons rfl .nil) (hsp H hO hS)) fun r s' h=>?_
  cases r with
  | error e=>exact (hCX H e s' h).elim
  | ok fl =>
   cases fl with
   | next=>exact False.elim h
   | brk=>exact False.elim h
   | cont=>exact False.elim h
   | ret u =>
    obtain ⟨v,H',os,bare,un,hok',r',q⟩:=h
    have q' : v = .bl true:=q
    subst q'
    obtain rfl : u = Value.bool true:=r'
    refine ⟨rfl,OldK.of_keep fun b o e=>?_,os,bare⟩
    cases q : H b with
    | none=>exact un.keep b o e q (by intro z; exact absurd (show b ∈ ([] : List Addr) from z) (by simp)) (by simp)
    | some u =>
     rcases hO b with z | ⟨ob,xs,z⟩
     ·rw [q] at z; cases z
     ·have z2:=un.frzs b ob _ z
      obtain ⟨e1,_⟩:=hok b _ z
      obtain ⟨e2,_⟩:=hok' b _ z2
      rw [e] at e1; cases e1
      exact e2
 cases hk : K.lookup a with
 | some o =>
  have e:=KX a o hk
  rw [ha] at e
  cases e
  refine core (fun _=>none) (fun _=>.inl rfl) (.inr ⟨_,vs.toArray,_,hk,rfl,rfl,rfl,by rw [List.size_toArray,lenV]; exact hl,by simpa using rv⟩) (fun b u z=>by have z' : (none : Option HO) = some u:=z; cases z') (fun b z=>absurd rfl z) fun z=>absurd rfl z
 | none =>
  refine core (fun b=>if b = a then some (.frz { cls:=.type "list",data:=.seq vs.toArray } (.lst (ns.map V.int))) else none) (fun b=>?_) (.inl (.inr ⟨{ cls:=.type "list",data:=.seq vs.toArray },if_pos rfl⟩)) (fun b u z=>?_) (fun b z=>?_) fun _=>hk
  ·by_cases hb : b = a
   ·exact .inr ⟨_,_,if_pos hb⟩
   ·exact .inl (if_neg hb)
  ·by_cases hb : b = a
   ·have z':=(if_pos hb).symm.trans z
    cases z'
    subst hb
    exact ⟨ha,by rw [List.length_map]; exact hl,vs,_,rv,ha⟩
   ·have z':=(if_neg hb).symm.trans z
    cases z'
  ·by_cases hb : b = a
   ·exact hb
   ·exact absurd (if_neg hb) z
end L2
namespace L2
open PySem PySem.Spec PyProof.Rows
theorem walk_of {l : PySem.W.OpenLaw} {n k : Nat} {q : Program} {loose : List Str} {XP : (Str → Option Value) → Heap → Prop} {YP : World → Heap → Prop} {d : DefRec} {K : Params → PySem.W.Frag} {CX : World → CXT} {sp : World → Sp} {x : Str}
  (hn : l.most = some n) (hn2 : n ≤ sizeLine) (hdf : d.params.defaults = []) (hr : Room k callerA)
  (hY : ∀ (w : World) (h : Heap),YP w h → (K w.params).In h)
  (F : ∀ (w : World) (mg : Str → Option Value) (fa : Addr) (h : Heap),(K w.params).In h → h.Ns mainGlobals mg → mg d.name = some (.ref fa) →
   ∃ fd : FuncData,(∀ (s : Shared) (u : Value),BindsTo s fd ⟨[u],[]⟩ [(x,u)]) ∧
    ∀ base : Heap,(K w.params).In base → base.Ns mainGlobals mg → FnOk l.prog w (K w.params) mg base (CX w) k fa fd [x] (sp w))
  (hsp : ∀ (w : World) (H : Hp) (a : Addr) (ns : List Int),ns.length ≤ n → Only H → SqL (K w.params) H a (ns.map V.int) → sp w [.ref a] H (fun v _=>v = .bl true) fun _ _ _=>False)
  (hCX : ∀ (w : World) (H : Hp) (s : Shared) (e : Value) (s' : Shared),CX w [] H s (fun _ _ _=>False) e s' → False) :
  PySem.W.WalkO q loose XP YP l.row.toRowW d [] (fun f vs=>PySem.call f vs):=by
 refine Att.attach_call hn hdf fun w s₀ s₁ mg mb fa o pm cd doc a vs ns G Y ho hd hcd hmg hobj hints hlen hg=>?_
 have KX:=hY w _ Y
 obtain ⟨fd,hb,hF⟩:=F w mg fa _ KX G.T.g hmg
 exact J9v KX G.T.g G.T.b G.T.builtins G.T.nolimit hg hobj hints (Nat.le_trans hlen hn2) hr hF hb (fun H hO hS=>hsp w H a ns hlen hO hS) fun H e s'=>hCX w H s₁ e s'
end L2
namespace L2
open PySem PySem.Spec PyProof.Rows
noncomputable def J03 (s : Stmt) (j : Nat) : Stmt:=match s with
 | .ClassDef _ _ _ body _ _ _ _ _ _ _=>body.getD j (.Pass ⟨0,0,0,0⟩)
 | _=>.Pass ⟨0,0,0,0⟩
noncomputable def Ji (s : Stmt) : Arguments:=match s with
 | .FunctionDef _ a _ _ _ _ _ _ _ _=>a
 | _=>{ posonlyargs:=[],args:=[],vararg:=none,kwonlyargs:=[],kw_defaults:=[],kwarg:=none,defaults:=[] }
noncomputable def Jg (s : Stmt) : List Stmt:=match s with
 | .FunctionDef _ _ b _ _ _ _ _ _ _=>b
 | _=>[]
noncomputable def J3 (s : Stmt) : Scope:=match s with
 | .FunctionDef _ _ _ _ _ _ sc _ _ _=>sc
 | _=>{ kind:=.function,names:=[],isGenerator:=false,isCoroutine:=false }
noncomputable abbrev CX0 : CXT:=fun _ _ _ _ _ _=>False
noncomputable abbrev E0 : XK:=fun _ _ _=>False
theorem J7O {X : Cx} : J2V CX0 X E0:=fun _ _ _ _ _ _ _ h=>h.elim
structure Fun (K : PySem.W.Frag) (x qual : Str) (st : Stmt) (f : Addr) (fd : FuncData) : Prop where
 ex : ∃ (oc : Value) (od : Option Addr) (kV doc pm : Value) (an : Option Addr) (cdv ct : Value) (osl : Array (Option Value)),
  fd = PySem.W.fnOf x qual (Ji st) (Jg st) (J3 st) .none kV doc pm an cdv ct ∧ K.lookup f = some ⟨oc,od,.func fd,osl⟩ ∧ PySem.W.codeIn K cdv qual = true
 kp : PySem.W.keepIn K (.ref f) = true
section
variable {P : Program} {w : World} {K : PySem.W.Frag} {mg : Str → Option Value} {base : Heap}
theorem Fun.ok {x qual : Str} {st : Stmt} {f : Addr} {fd : FuncData} {N ps : List Str} {k : Nat} {sp : Sp} (F : Fun K x qual st f fd) (S : Jl N ps (J3 st)) (len : ∀ vs H Q E,sp vs H Q E → vs.length = ps.length)
  (hbody : ∀ (cdv : Value) (A : Around) (outer : List Env) (s : Shared) (H : Hp) (vs : List V) (Q : VK) (E : XK),Room k (A.deeper (envOfC qual (J3 st) s.heap.objs.size f cdv)) → sp vs H Q E →
   ∃ t,PSs (cxOf CX0 P w K mg base N qual (J3 st) f cdv A outer s H E).nox (Jg st) t ∧ t { nx:=fun _ H'=>Q .non H',rt:=Q } (start N vs) H) : FnOk P w K mg base CX0 (k + 1) f fd ps sp:=by
 obtain ⟨oc,od,kV,doc,pm,an,cdv,ct,osl,rfl,lk,hcd⟩:=F.ex
 refine JaI lk hcd S len fun A outer s H vs Q E hr hsp=>?_
 obtain ⟨t,h,q⟩:=hbody cdv A outer s H vs Q E hr hsp
 exact ⟨t,h.nox,q⟩
theorem Fun.binds {x qual : Str} {st : Stmt} {f : Addr} {fd : FuncData} {ps : List Str} (F : Fun K x qual st f fd)
  (h : ∀ (kV doc pm : Value) (an : Option Addr) (cdv ct : Value) (us : List Value),us.length = ps.length → bindArgs (PySem.W.fnOf x qual (Ji st) (Jg st) (J3 st) .none kV doc pm an cdv ct) ⟨us,[]⟩ = pure (ps.zip us)) : J2g K fd ps []:=by
 obtain ⟨oc,od,kV,doc,pm,an,cdv,ct,osl,rfl,lk,hcd⟩:=F.ex
 exact .all (h kV doc pm an cdv ct)
theorem Jt {x qual : Str} {st : Stmt} {f : Addr} {oc : Value} {od an : Option Addr} {osl : Array (Option Value)} {kV doc pm cdv ct : Value} (l : K.lookup f = some ⟨oc,od,.func (PySem.W.fnOf x qual (Ji st) (Jg st) (J3 st) .none kV doc pm an cdv ct),osl⟩)
  (c : PySem.W.codeIn K cdv qual = true) (k : PySem.W.keepIn K (.ref f) = true) : Fun K x qual st f (PySem.W.fnOf x qual (Ji st) (Jg st) (J3 st) .none kV doc pm an cdv ct):=⟨⟨oc,od,kV,doc,pm,an,cdv,ct,osl,rfl,l,c⟩,k⟩
end
theorem JaK {A : Around} {k : Nat} (hr : Room k A) : A.units + 1 < cLine:=Nat.lt_of_le_of_lt (Nat.add_le_add_left (by decide : 1 ≤ 64) _) hr.units
section
variable {X : Cx}
theorem pv (i : Nat) {x : Str} {pos : Pos} (hN : X.N[i]? = some x:=by rfl) (hv : Vis X.env.scope x:=by first | exact Or.inl rfl | exact Or.inr (Or.inl rfl) | exact Or.inr (Or.inr rfl)) (hd : (x == ("__debug__" : Str)) = false:=by decide)
  (hcd : (x == ("__classdict__" : Str)) = false:=by decide) : PE X (.Name x pos) (tVar i):=Jbh hN hv hd hcd
end
theorem iteF {A B : Prop} (h : B) : if false = true then A else B:=by
 rw [if_neg Bool.false_ne_true]
 exact h
theorem iteT {A B : Prop} (h : A) : if true = true then A else B:=by
 rw [if_pos rfl]
 exact h
theorem ite2 {c A B : Prop} [Decidable c] (h1 : c → A) (h2 : ¬ c → B) : if c then A else B:=by
 by_cases h : c
 ·rw [if_pos h]
  exact h1 h
 ·rw [if_neg h]
  exact h2 h
noncomputable def Same (H H' : Hp) : Prop:=∀ b o,H b = some o → H' b = some o
theorem Same.refl (H : Hp) : Same H H:=fun _ _ h=>h
theorem Same.trans {H H1 H2 : Hp} (a : Same H H1) (b : Same H1 H2) : Same H H2:=fun c o h=>b c o (a c o h)
theorem Same.free {H H' : Hp} (e : Same H H') {l : Addr} (h : H' l = Option.none) : H l = Option.none:=by
 cases q : H l with
 | none=>rfl
 | some o =>
  rw [e l o q] at h
  cases h
theorem Same.seq {K : PySem.W.Frag} {H H' : Hp} {a : Addr} {xs : List V} (e : Same H H') (h : SqL K H a xs) : SqL K H' a xs:=by
 rcases h with (h | ⟨o,h⟩) | h
 ·exact .inl (.inl (e _ _ h))
 ·exact .inl (.inr ⟨o,e _ _ h⟩)
 ·exact .inr h
end L2
set_option linter.all false
set_option maxRecDepth 100000
set_option maxHeartbeats 4000000
namespace L2
open PySem PySem.Spec PyProof.Rows
theorem J2f {scope : Scope} {env : Env} (h : ∀ y ∈ scope.names,y.2 = .free → ∃ c,env.cells.lookup y.1 = some c) :
  ∃ cl,closureFor scope env = pure cl ∧ (∀ y ∈ scope.names,y.2 = NameKind.free → cl.lookup y.1 = env.cells.lookup y.1) ∧ (∀ x c,cl.lookup x = some c → env.cells.lookup x = some c):=by
 have key : ∀ (names : List (Str × NameKind)) (acc : List (Str × Addr)) (f : Str × NameKind → List (Str × Addr) → Sem (ForInStep (List (Str × Addr)))),
   (∀ x cs,f x cs = if (x.2 == NameKind.free) = true then (cellOf env x.1 >>= fun a=>pure (ForInStep.yield ((x.1,a) :: cs))) else pure (ForInStep.yield cs)) →
   (∀ y ∈ names,y.2 = .free → ∃ c,env.cells.lookup y.1 = some c) → (∀ x c,acc.lookup x = some c → env.cells.lookup x = some c) →
   ∃ cl,forIn names acc f = pure cl ∧ (∀ x c,acc.lookup x = some c → cl.lookup x = env.cells.lookup x) ∧ (∀ y ∈ names,y.2 = NameKind.free → cl.lookup y.1 = env.cells.lookup y.1) ∧ (∀ x c,cl.lookup x = some c → env.cells.lookup x = some c):=by
  intro names
  induction names with
  | nil =>
   intro acc f _ _ ha
   exact ⟨acc,rfl,fun x c e=>by rw [e,ha x c e],fun _ h=>(nomatch h),ha⟩
  | cons y r ih =>
   intro acc f hf hn ha
   obtain ⟨n,k⟩:=y
   rw [List.forIn_cons,hf]
   by_cases hk : k = .free
   ·subst hk
    obtain ⟨c,hc⟩:=hn (n,.free) List.mem_cons_self rfl
    have hc' : cellOf env n = pure c:=by unfold cellOf; rw [hc]
    have ha' : ∀ x d,((n,c) :: acc).lookup x = some d → env.cells.lookup x = some d:=fun x d e=>by
     rw [List.lookup_cons] at e
     cases hx : x == n with
     | true =>
      rw [hx] at e
      have e' : c = d:=Option.some.inj e
      have hx' : x = n:=by simpa using hx
      rw [hx',hc,e']
     | false =>
      rw [hx] at e
      exact ha x d e
    obtain ⟨cl,e,h1,h2,h3⟩:=ih ((n,c) :: acc) f hf (fun y hy=>hn y (List.mem_cons_of_mem _ hy)) ha'
    refine ⟨cl,?_,fun x d ex=>?_,fun y hy hyf=>?_,h3⟩
    ·rw [if_pos (by rfl)]
     show ((cellOf env n >>= fun a=>pure (ForInStep.yield ((n,a) :: acc))) >>= _) = pure cl
     rw [hc',pure_bind,pure_bind]
     exact e
    ·by_cases hxn : x = n
     ·subst hxn
      exact h1 x c (by rw [List.lookup_cons,beq_self_eq_true])
     ·refine h1 x d ?_
      rw [List.lookup_cons,beq_eq_false_iff_ne.mpr hxn]
      exact ex
    ·rcases List.mem_cons.mp hy with rfl | hy
     ·exact h1 _ c (by rw [List.lookup_cons,beq_self_eq_true])
     ·exact h2 y hy hyf
   ·have hb : (k == NameKind.free) = false:=by simpa using hk
    obtain ⟨cl,e,h1,h2,h3⟩:=ih acc f hf (fun y hy=>hn y (List.mem_cons_of_mem _ hy)) ha
    refine ⟨cl,?_,h1,fun y hy hyf=>?_,h3⟩
    ·show ((if (k == NameKind.free) = true then _ else pure (ForInStep.yield acc)) >>= _) = pure cl
     rw [if_neg (by rw [hb]; exact Bool.false_ne_true),pure_bind]
     exact e
    ·rcases List.mem_cons.mp hy with rfl | hy
     ·exact absurd hyf hk
     ·exact h2 y hy hyf
 have z:=key scope.names [] (fun x cs=>if (x.2 == NameKind.free) = true then (cellOf env x.1 >>= fun a=>pure (ForInStep.yield ((x.1,a) :: cs))) else pure (ForInStep.yield cs)) (fun _ _=>rfl) h (fun _ _ e=>(nomatch e))
 obtain ⟨cl,e,_,h2,h3⟩:=z
 refine ⟨cl,?_,h2,h3⟩
 show (forIn scope.names [] _ >>= pure) = pure cl
 exact (congrArg (· >>= pure) e).trans (pure_bind _ _)
noncomputable abbrev J0b (X : Cx) (scope : Scope) (N : List Str) (s₀ : Shared) (H₀ : Hp) (cl : List (Str × Addr)) (C : Addr) (ex : List Addr) : Cx :=
 {prog:=X.prog,w:=X.w,K:=X.K,mg:=X.mg,base:=X.base,A:=X.A,N:=N,s₀:=s₀,H₀:=H₀,env:=compEnvC scope cl C X.env,
  outer:=X.stack,stack:=X.stack,ex:=ex,fn:=fun _=>false,calm:=X.calm,pn:=[],xe:=fun _ _=>False }
theorem J2E {prog : Program} {w : World} {A : Around} {R : Result → Shared → Prop} {s : Shared} {elt target iter : Expr} {ifs : List Expr} {scope : Scope} {pos : Pos} {it acc : Value} {env : Env} (I : Nat → Shared → Prop)
  (turn : ∀ n s,I n s → wpAny (model prog w) A (pyNext it) (fun r s₁=>match r with
   | none=>R (.ok .next) s₁
   | some v=>wpAny (model prog w) A (letOwnedTupleGo target it v) (fun _ s₁'=>wpAny (model prog w) A (assign target env v) (fun _ s₂ =>
     wpAny (model prog w) A (forIn ifs true fun c r=>if r = true then do let ok ← isTrue c env (eval c env); pure (ForInStep.yield ok) else pure (ForInStep.yield r)) (fun ok s₃ =>
      if ok = true then wpAny (model prog w) A (eval elt env) (fun x s₄ =>
       wpAny (model prog w) A (call (.builtin "list.append") [acc,x]) (fun _ s₅=>∃ m,m < n ∧ I m s₅) (fun _ _=>False) s₄) (fun _ _=>False) s₃
      else ∃ m,m < n ∧ I m s₃) (fun _ _=>False) s₂) (fun _ _=>False) s₁') (fun _ _=>False) s₁) (fun _ _=>False) s)
  (n : Nat) (h : I n s) :
  codeAny (model prog w) A (.compLoop (.ListComp elt [⟨target,iter,ifs,0⟩] scope pos) 0 it acc env) R s:=by
 refine codeAny_loop rfl I (fun n s hI=>?_) n h
 show wpAny _ A ((compTurn (.ListComp elt [⟨target,iter,ifs,0⟩] scope pos) 0 it acc env).onRaise (fun x=>do noteFrame x env; theTreesLotGoes x)) _ _ s
 refine wpAny_noted ?_
 rw [compTurn_list]
 refine wpAny_bind (wpAny_standAt (wpAny_bind (wpAny_mono (turn n s hI) (fun r s₁ h₁=>?_) fun _ _ z=>z.elim)))
 cases r with
 | none=>exact wpAny_pure h₁
 | some v =>
  refine wpAny_bind (wpAny_mono h₁ (fun _ s₁' h₁'=>?_) fun _ _ z=>z.elim)
  refine wpAny_bind (wpAny_mono h₁' (fun _ s₂ h₂=>wpAny_bind (wpAny_mono h₂ (fun ok s₃ h₃=>?_) fun _ _ z=>z.elim)) fun _ _ z=>z.elim)
  cases ok with
  | false=>exact wpAny_pure ⟨rfl,h₃⟩
  | true =>
   exact wpAny_bind (wpAny_bind (wpAny_mono h₃ (fun x s₄ h₄=>wpAny_bind (wpAny_mono h₄ (fun _ s₅ h₅=>wpAny_pure (wpAny_pure ⟨rfl,h₅⟩)) fun _ _ z=>z.elim)) fun _ _ z=>z.elim))
noncomputable def PIfs (X : Cx) (ifs : List Expr) (t : TT) : Prop :=
 ∀ (pins : List (Addr × Obj)) (s : Shared) (σ : St) (H : Hp) (Q : Bool → Hp → Prop),Inv X pins σ H s → t σ H Q →
  wpAny (model X.prog X.w) X.A (forIn ifs true fun c r=>if r = true then do let ok ← isTrue c X.env (eval c X.env); pure (ForInStep.yield ok) else pure (ForInStep.yield r)) (TP X pins σ Q) X.xe s
noncomputable def tYes : TT:=fun _ H Q=>Q true H
theorem J3V {X : Cx} : PIfs X [] tYes:=fun _ _ _ H _ I h=>wpAny_tests_nil ⟨H,I,h⟩
theorem J5Y {X : Cx} {c : Expr} {t : TT} (hc : PT X c t) : PIfs X [c] t:=fun pins s σ H Q I h=>wpAny_tests_one (hc pins s σ H Q I h)
noncomputable def J7Q (J : It) (H1 : Hp) (σ0 : St) (g : TG) (tc : TT) (te : TE) (Q : VK) : Prop:=∀ D,H1 D = none →
  ∃ W : Nat → Nat → St → List V → Hp → Prop,(∃ m,W 0 m σ0 [] (upd H1 D (.lst []))) ∧ ∀ i m σ1 ys H,W i m σ1 ys H →
    (J.stop i H ∧ Q (.ref D) H) ∨ (J.go i H ∧ ∀ x H',J.yld i H x H' → g x σ1 H' fun σ2 H2=>tc σ2 H2 fun b H3 =>
       if b = true then te σ2 H3 fun y H4=>H4 D = some (.lst ys) ∧ ys.length < sizeLine ∧ ∃ m',m' < m ∧ W (i + 1) m' σ2 (ys ++ [y]) (upd H4 D (.lst (ys ++ [y])))
       else ∃ m',m' < m ∧ W (i + 1) m' σ2 ys H3)
noncomputable def J9M (wi : TI) (sub : St → St) (g : TG) (tc : TT) (te : TE) : TE:=fun σ H Q=>wi σ H fun J H1=>J7Q J H1 (sub σ) g tc te Q
noncomputable def subσ (js : List (Option Nat)) (σ : St) : St:=js.map fun o=>o.bind fun j=>(σ[j]?).join
theorem J0r {env : Env} : ∀ {names : List (Str × NameKind)} {x : Str},names.lookup x = some .free →
  (names.map fun (n,k)=>if (k == NameKind.free && env.scope.kind == .function && env.kindOf n == some .cell) then (n,NameKind.cell) else (n,k)).lookup x = some .cell ∨
  (names.map fun (n,k)=>if (k == NameKind.free && env.scope.kind == .function && env.kindOf n == some .cell) then (n,NameKind.cell) else (n,k)).lookup x = some .free
 | [],_,h=>by simp at h
 | (n,k) :: r,x,h=>by
  have ih:=@J0r env r x
  show List.lookup x ((if (k == NameKind.free && env.scope.kind == .function && env.kindOf n == some .cell) = true then (n,NameKind.cell) else (n,k)) :: _) = _ ∨ List.lookup x ((if (k == NameKind.free && env.scope.kind == .function && env.kindOf n == some .cell) = true then (n,NameKind.cell) else (n,k)) :: _) = _
  cases hx : x == n with
  | true =>
   simp only [List.lookup_cons,hx] at h
   cases h
   by_cases hc : (NameKind.free == NameKind.free && env.scope.kind == .function && env.kindOf n == some .cell) = true
   ·rw [if_pos hc]; left; simp only [List.lookup_cons,hx]
   ·rw [if_neg hc]; right; simp only [List.lookup_cons,hx]
  | false =>
   simp only [List.lookup_cons,hx] at h
   by_cases hc : (k == NameKind.free && env.scope.kind == .function && env.kindOf n == some .cell) = true
   ·rw [if_pos hc]; simp only [List.lookup_cons,hx]; exact ih h
   ·rw [if_neg hc]; simp only [List.lookup_cons,hx]; exact ih h
theorem J1E {env : Env} : ∀ {names : List (Str × NameKind)} {x : Str},(∀ y ∈ names,y.2 ≠ NameKind.cell) →
  ((names.map fun (n,k)=>if (k == NameKind.free && env.scope.kind == .function && env.kindOf n == some .cell) then (n,NameKind.cell) else (n,k)).lookup x = some .cell ∨
  (names.map fun (n,k)=>if (k == NameKind.free && env.scope.kind == .function && env.kindOf n == some .cell) then (n,NameKind.cell) else (n,k)).lookup x = some .free) → (x,NameKind.free) ∈ names
 | [],_,_,h=>by simp at h
 | (n,k) :: r,x,hn,h=>by
  have ih:=@J1E env r x fun y hy=>hn y (List.mem_cons_of_mem _ hy)
  have hk : k ≠ .cell:=hn (n,k) List.mem_cons_self
  change List.lookup x ((if (k == NameKind.free && env.scope.kind == .function && env.kindOf n == some .cell) = true then (n,NameKind.cell) else (n,k)) :: _) = _ ∨ List.lookup x ((if (k == NameKind.free && env.scope.kind == .function && env.kindOf n == some .cell) = true then (n,NameKind.cell) else (n,k)) :: _) = _ at h
  cases hx : x == n with
  | true =>
   have hx' : x = n:=by simpa using hx
   subst hx'
   by_cases hc : (k == NameKind.free && env.scope.kind == .function && env.kindOf x == some .cell) = true
   ·have : k = .free:=by
     have:=(Bool.and_eq_true _ _).mp ((Bool.and_eq_true _ _).mp hc).1
     simpa using this.1
    subst this
    exact List.mem_cons_self
   ·rw [if_neg hc] at h
    simp only [List.lookup_cons,beq_self_eq_true] at h
    rcases h with h | h
    ·exact absurd (Option.some.inj h) hk
    ·have:=Option.some.inj h
     subst this
     exact List.mem_cons_self
  | false =>
   by_cases hc : (k == NameKind.free && env.scope.kind == .function && env.kindOf n == some .cell) = true
   ·rw [if_pos hc] at h; simp only [List.lookup_cons,hx] at h; exact List.mem_cons_of_mem _ (ih h)
   ·rw [if_neg hc] at h; simp only [List.lookup_cons,hx] at h; exact List.mem_cons_of_mem _ (ih h)
section
variable {X : Cx} {elt tg iter : Expr} {ifs : List Expr} {scope : Scope} {pos : Pos} {N : List Str} {js : List (Option Nat)} {wi : TI} {g : TG} {tc : TT} {te : TE}
structure J1Z (osc : Scope) (ON : List Str) (scope : Scope) (N : List Str) (js : List (Option Nat)) : Prop where
 kind : scope.kind = .function
 cell : ∀ y ∈ scope.names,y.2 ≠ .cell
 names : ∀ y ∈ scope.names,y.2 = .local → scope.names.lookup y.1 = some .local
 free : ∀ y ∈ scope.names,y.2 = .free → osc.names.lookup y.1 = some .cell ∨ osc.names.lookup y.1 = some .free
 len : js.length = N.length
 slots : (js.zip N).all (fun p=>match p.1 with | none=>true | some j=>decide (ON[j]? = some p.2) && decide (scope.names.lookup p.2 = some .free)) = true
theorem J1Z.sub {osc : Scope} {ON : List Str} {scope : Scope} {N : List Str} {js : List (Option Nat)} (cs : J1Z osc ON scope N js) : ∀ (i j : Nat),js[i]? = some (some j) → ∃ x,N[i]? = some x ∧ ON[j]? = some x ∧ scope.names.lookup x = some .free:=by
 intro i j h
 have hi : i < js.length:=(List.getElem?_eq_some_iff.mp h).1
 have hN : N[i]? = some (N[i]'(by rw [← cs.len]; exact hi)):=List.getElem?_eq_getElem _
 have hz : (js.zip N)[i]? = some (some j,N[i]'(by rw [← cs.len]; exact hi)):=by
  rw [List.getElem?_zip_eq_some]
  exact ⟨h,hN⟩
 have hm:=List.all_eq_true.mp cs.slots _ (List.mem_of_getElem? hz)
 have hm2:=(Bool.and_eq_true _ _).mp hm
 exact ⟨_,hN,of_decide_eq_true hm2.1,of_decide_eq_true hm2.2⟩
theorem mem_of_lookup {α : Type} : ∀ {l : List (Str × α)} {x : Str} {k : α},l.lookup x = some k → (x,k) ∈ l
 | [],_,_,h=>by simp at h
 | (n,v) :: r,x,k,h=>by
  rw [List.lookup_cons] at h
  cases hx : x == n with
  | true =>
   rw [hx] at h
   have hx' : x = n:=by simpa using hx
   have : v = k:=Option.some.inj h
   subst hx' this
   exact List.mem_cons_self
  | false =>
   rw [hx] at h
   exact List.mem_cons_of_mem _ (mem_of_lookup h)
theorem J3d {osc : Scope} {ON : List Str} (cs : J1Z osc ON scope N js) (ho : X.env.scope = osc) (hON : X.N = ON) (hc : X.calm = true) (hi : PI X tg iter wi)
    (hg : ∀ s₀ H₀ cl C ex,PG (J0b X scope N s₀ H₀ cl C ex) tg g) (hif : ∀ s₀ H₀ cl C ex,PIfs (J0b X scope N s₀ H₀ cl C ex) ifs tc) (he : ∀ s₀ H₀ cl C ex,PE (J0b X scope N s₀ H₀ cl C ex) elt te)
    (hs : ∀ x,foldedSetIterable iter X.env x = pure x:=by intro _; rfl) : PE X (.ListComp elt [⟨tg,iter,ifs,0⟩] scope pos) (J9M wi (subσ js) g tc te):=by
  intro pins s σ H Q I h
  subst ho hON
  obtain ⟨cl,hcl,cl1,cl2⟩:=J2f (scope:=scope) (env:=X.env) fun y hy hf=>I.ok.has y.1 (cs.free y hy hf)
  rw [eval_ListComp]
  refine wpAny_comprehension_free (use:=none) rfl hs hcl cs.kind cs.names ?_
  refine thn (hi pins s σ H _ I h) fun v s1 h1=>thn h1 fun itv s2 h2=>?_
  obtain ⟨it,fp,tn,J,H2,e,I2,T,st2,f2,hW⟩:=h2
  subst e
  have hD0 : H2 s2.heap.objs.size = none:=I2.hok.fresh (Nat.le_refl _)
  obtain ⟨W,⟨m0,w0⟩,turn⟩:=hW s2.heap.objs.size hD0
  have I3:=I2.lnew (t':=s2.toks) (ys:=[]) (its:=[]) .nil (Nat.zero_le _)
  refine wpAny_newObj_type (wpAny_newFunctionEnv cs.cell (by intro y hy; simp at hy) (fun h₁ hns₁ hsb₁=>?_) cs.kind)
  dsimp only at hns₁ hsb₁ ⊢
  obtain ⟨s3,hs3⟩ : ∃ s3 : Shared,s3 = { s2 with heap:=s2.heap.push { cls:=.type "list",data:=.seq ([] : List Value).toArray },toks:=s2.toks }:=⟨_,rfl⟩
  rw [← hs3] at I3
  have e3 : s3.heap = s2.heap.push { cls:=.type "list",dict:=none,data:=.seq ([] : List Value).toArray }:=by rw [hs3]
  have e3o : s3.os = s2.os:=by rw [hs3]
  have e3g : s3.gens = s2.gens:=by rw [hs3]
  rw [← e3] at hns₁ hsb₁ ⊢
  obtain ⟨H3,hH3⟩ : ∃ H3 : Hp,H3 = upd H2 s2.heap.objs.size (.lst []):=⟨_,rfl⟩
  rw [← hH3] at I3 w0
  have up1 : ∀ b o,s2.heap.get? b = some o → s3.heap.get? b = some o:=fun b o q=>by rw [e3]; exact Heap.get?_push_of_some _ q
  have up2 : ∀ b o,s3.heap.get? b = some o → h₁.get? b = some o:=fun b o q=>hsb₁.extBut b o (Nat.ne_of_lt (Heap.lt_size q)) (Heap.get?_push_of_some _ q)
  have fpo : ∀ b ∈ fp,∃ o,s3.heap.get? b = some o:=fun b hb=>by
    obtain ⟨o,ho,_⟩:=T.obj 0 _ st2 b hb
    exact ⟨o,up1 b o ho⟩
  have fr3 : ∀ b ∈ fp,H3 b = none:=fun b hb=>by
    obtain ⟨o,ho,_⟩:=T.obj 0 _ st2 b hb
    rw [hH3,Jq (Nat.ne_of_lt (Heap.lt_size ho))]
    exact (f2 b hb).1
  have fpC : ∀ b ∈ fp,b ≠ s3.heap.objs.size:=fun b hb=>by
    obtain ⟨o,ho⟩:=fpo b hb
    exact Nat.ne_of_lt (Heap.lt_size ho)
  have fpS : ∀ b ∈ fp,b ∉ frs X.stack:=fun b hb hs'=>by
    rcases List.mem_cons.mp (I2.stkSub b hs') with z | z
    · exact (f2 b hb).2.1 z
    · exact (f2 b hb).2.2.1 z
  have ok' : (J0b X scope N s3 H3 cl s3.heap.objs.size fp).Ok:=by
    refine ⟨I.ok.mod,cs.kind,I.ok.glob,I.ok.blt,Nat.le_refl _,fun x y c e1 e2=>I.ok.inj x y c (cl2 x c e1) (cl2 y c e2),fun x hx=>?_,fun x c hf=>(nomatch hf),I.ok.hd,I.ok.frames,.inl rfl,fun b hb=>⟨fpC b hb,fun x c e=>(f2 b hb).2.2.2.2.1 x c (cl2 x c e)⟩,
      I3.bs,Nat.le_trans I.ok.bsz I3.sz,fun b o e hb=>?_,fun b hb=>fpS b hb,I3.stack,I3.stkFree⟩
    · have hm : (x,NameKind.free) ∈ scope.names:=J1E cs.cell hx
      obtain ⟨c,hc⟩:=I.ok.has x (cs.free _ hm rfl)
      exact ⟨c,(cl1 _ hm rfl).trans hc⟩
    · rcases (f2 b hb).2.2.2.1 with z | z
      · exact I.ok.noex b o e z
      · exact absurd (Nat.lt_of_lt_of_le (Heap.lt_size e) (Nat.le_trans I.ok.bsz z)) (Nat.lt_irrefl _)
  have cellK : ∀ c v,s3.heap.IsCell c v → h₁.IsCell c v:=fun c v ⟨o,ho,hd⟩=>⟨o,up2 c o ho,hd⟩
  have I4 : ∀ t : Nat,Inv (J0b X scope N s3 H3 cl s3.heap.objs.size fp) [] (subσ js σ) H3 { s2 with heap:=h₁,toks:=t }:=fun t=>by
    refine ⟨ok',e3o.symm,I2.bare,Un.kept up2,⟨_,hns₁,fun i x v hi hv hx=>?_⟩,fun x c e=>?_,I3.hok.fresh (Nat.le_refl _),fun x c e=>I3.freeC x c (cl2 x c e),fun p hp=>(nomatch hp),I3.hok.kept up2,?_⟩
    ·
      have hv' : ∃ j,js[i]? = some (some j) ∧ σ[j]? = some (some v):=by
        unfold subσ at hv
        rw [List.getElem?_map] at hv
        cases hj : js[i]? with
        | none=>rw [hj] at hv; cases hv
        | some o =>
          rw [hj] at hv
          cases o with
          | none=>cases hv
          | some j =>
            refine ⟨j,rfl,?_⟩
            have hv2 : (σ[j]?).join = some v:=Option.some.inj hv
            cases hs2 : σ[j]? with
            | none=>rw [hs2] at hv2; cases hv2
            | some u=>rw [hs2] at hv2; exact congrArg some hv2
      obtain ⟨j,hj,hσ⟩:=hv'
      obtain ⟨x',h1',h2',h3'⟩:=cs.sub i j hj
      have hxx : x = x':=Option.some.inj (hi.symm.trans h1')
      subst hxx
      have hm : (x,NameKind.free) ∈ scope.names:=mem_of_lookup h3'
      have hk:=cs.free _ hm rfl
      obtain ⟨m,hn,hl⟩:=id I3.loc
      obtain ⟨u,ru,lk⟩:=hl j x v h2' hσ (by rcases hk with z | z; exact .inr (.inl z); exact .inr (.inr z))
      refine ⟨u,ru,?_⟩
      rcases lk with ⟨k1,_⟩ | ⟨k1,c,e1,z⟩
      · rcases hk with z | z <;> (rw [show X.env.kindOf x = _ from z] at k1; cases k1)
      · exact .inr ⟨J0r h3',c,(cl1 _ hm rfl).trans e1,cellK c _ z⟩
    · obtain ⟨v,z⟩:=I3.cell x c (cl2 x c e)
      exact ⟨v,cellK c v z⟩
    · unfold subσ
      rw [List.length_map]
      exact cs.len
  have hst₁ : tn 0 h₁:=T.keep 0 _ _ st2 fun b hb o q=>up2 b o (up1 b o q)
  have stat : ∀ {H' : Hp},(∀ b ∈ fp,H' b = none) → ∀ b ∈ fp,FpOk (J0b X scope N s3 H3 cl s3.heap.objs.size fp) [] H' b:=fun hn b hb =>
    ⟨hn b hb,fpC b hb,fpS b hb,.inl hb,fun x c e=>(f2 b hb).2.2.2.2.1 x c (cl2 x c e),fun p hp=>(nomatch hp)⟩
  have loop : ∀ s4 : Shared,(∃ t,s4 = { s2 with heap:=h₁,toks:=t }) →
      codeAny (model X.prog X.w) X.A (.compLoop (.ListComp elt [⟨tg,iter,ifs,0⟩] scope pos) 0 (.ref it) (.ref s2.heap.objs.size) (compEnvC scope cl s3.heap.objs.size X.env))
        (compPost (model X.prog X.w) X.A X.xe none (EP X pins σ Q) (.ref s2.heap.objs.size) s3.heap.objs.size) s4:=by
    rintro s4 ⟨t,rfl⟩
    refine J2E (fun n s'=>∃ i σ' ys H',Inv (J0b X scope N s3 H3 cl s3.heap.objs.size fp) [] σ' H' s' ∧ tn i s'.heap ∧ (∀ b ∈ fp,H' b = none) ∧ W i n σ' ys H') ?_ m0 ⟨0,_,[],H3,I4 t,hst₁,fr3,w0⟩
    rintro n s5 ⟨i,σ5,ys,H5,I5,st5,fr5,w5⟩
    rcases turn i n σ5 ys H5 w5 with ⟨stop,qn⟩ | ⟨go,step⟩
    · refine thn (T.done (J0b X scope N s3 H3 cl s3.heap.objs.size fp) rfl rfl rfl hc i [] s5 σ5 H5 _ I5 (stat fr5) st5 stop) fun r s6 ⟨hr,I6⟩=>?_
      subst hr
      obtain ⟨m,hn,_⟩:=id I6.loc
      refine ⟨m,hn,fun h' hs'=>⟨.ref s2.heap.objs.size,H5,?_,rfl,qn⟩⟩
      have neC : ∀ b o,s3.heap.get? b = some o → b ≠ s3.heap.objs.size:=fun b o q=>Nat.ne_of_lt (Heap.lt_size q)
      have un : Un (frs X.stack) fp H3 H5 s3.heap h' :=
        ⟨fun b o q n1 hb hx=>(hs'.2 b (neC b o q)).trans (I6.base.keep b o q n1 hb hx),
         fun b o q n1 hb hx=>by
           obtain ⟨sl,e⟩:=I6.base.slot b o q n1 hb hx
           exact ⟨sl,(hs'.2 b (neC b o q)).trans e⟩,
         fun b o q n1 hx=>I6.base.free b o q n1 hx,
         fun b o q hx=>by
           obtain ⟨o',e⟩:=I6.base.there b o q hx
           exact ⟨o',(hs'.2 b (neC b o q)).trans e⟩,
         I6.base.tups,I6.base.frzs,I6.base.tbls⟩
      refine I3.call' (ch:=fp) (s':={ s6 with heap:=h' }) I6.os un (fun b ob e=>?_) I6.bare (fun b hb=>⟨(f2 b hb).2.2.2.1,(f2 b hb).2.1,(f2 b hb).2.2.2.2.1,(f2 b hb).2.2.2.2.2⟩)
      refine (I6.hok b ob e).stay (fun c w' hc' q=>(hs'.2 c ?_).trans q) (fun _ q=>q) fun _ _ q=>q
      rintro rfl
      have fC : H5 s3.heap.objs.size = none:=I6.free
      rcases hc' with z | z
      · rw [← z,fC] at e; cases e
      · rw [fC] at z; cases z
    · refine thn (T.item (J0b X scope N s3 H3 cl s3.heap.objs.size fp) rfl rfl rfl hc i [] s5 σ5 H5 _ I5 (stat fr5) st5 go) fun r s6 ⟨u,hr,h6⟩=>?_
      subst hr
      refine thn h6 fun _ s7 ⟨x,H7,I7,r7,y7,st7,fr7⟩=>?_
      have I7':=I7.pinned (stat fr7) (T.obj _ _ st7)
      refine thn (hg _ _ _ _ _ _ s7 σ5 H7 x u _ I7' r7 (step x H7 y7)) fun _ s8 ⟨σ8,H8,I8,q8⟩=>?_
      refine thn (hif _ _ _ _ _ _ s8 σ8 H8 _ I8 q8) fun ok s9 ⟨H9,I9,q9⟩=>?_
      have again : ∀ {σ' : St} {H' : Hp} {s' : Shared},Inv (J0b X scope N s3 H3 cl s3.heap.objs.size fp) ([] ++ J2S fp s7.heap) σ' H' s' →
          Inv (J0b X scope N s3 H3 cl s3.heap.objs.size fp) [] σ' H' s' ∧ tn (i + 1) s'.heap ∧ ∀ b ∈ fp,H' b = none:=fun {σ' H' s'} I'=>by
        refine ⟨I'.unpinned,T.keep _ _ _ st7 fun b hb o e=>(I'.pin (b,o) (List.mem_append_right _ (List.mem_append_right _ (J0y hb e)))).1,fun b hb=>?_⟩
        obtain ⟨o,e,d⟩:=T.obj _ _ st7 b hb
        exact (I'.pin (b,o) (List.mem_append_right _ (List.mem_append_right _ (J0y hb e)))).2.1
      cases ok with
      | false =>
        rw [if_neg Bool.false_ne_true] at q9 ⊢
        obtain ⟨m',hm,w9⟩:=q9
        obtain ⟨a1,a2,a3⟩:=again I9
        exact ⟨m',hm,i + 1,σ8,ys,H9,a1,a2,a3,w9⟩
      | true =>
        rw [if_pos rfl] at q9 ⊢
        refine thn (he _ _ _ _ _ _ s9 σ8 H9 _ I9 q9) fun yv s10 ⟨y,H10,I10,r10,q10⟩=>?_
        obtain ⟨hD,hz,m',hm,w10⟩:=q10
        refine thn (J1d (X:=J0b X scope N s3 H3 cl s3.heap.objs.size fp) _ s10 σ8 H10 (.ref s2.heap.objs.size) [y] (.ref s2.heap.objs.size) [yv] (fun v H'=>H' = upd H10 s2.heap.objs.size (.lst (ys ++ [y]))) I10 rfl (.cons r10 .nil)
          ⟨s2.heap.objs.size,ys,y,rfl,rfl,hD,hz,rfl⟩) fun _ s11 ⟨v11,H11,I11,_,e11⟩=>?_
        have e11' : H11 = upd H10 s2.heap.objs.size (.lst (ys ++ [y])):=e11
        subst e11'
        obtain ⟨a1,a2,a3⟩:=again I11
        exact ⟨m',hm,i + 1,σ8,ys ++ [y],_,a1,a2,a3,w10⟩
  exact codeAny_compStart_list (loop _ ⟨_,rfl⟩) (T.self X.A 0 _ _ _ hst₁ (loop _ ⟨_,rfl⟩))
end
structure J9K (J : It) (H0 : Hp) (xs : List V) : Prop where
 go : ∀ i H,Same H0 H → i < xs.length → J.go i H
 yld : ∀ i H x H',Same H0 H → i < xs.length → J.yld i H x H' → H' = H ∧ xs[i]? = some x
 stop : ∀ H,Same H0 H → J.stop xs.length H
theorem Jz {H : Hp} {p : Addr} (h : H p = none) (o : HO) : Same H (upd H p o):=fun b u q=>by rw [Jq (Jo q h)]; exact q
theorem Same.upd {H H' : Hp} {p : Addr} {o : HO} (s : Same H H') (h : H p = none) : Same H (upd H' p o):=fun b u q=>by rw [Jq (Jo q h)]; exact s b u q
theorem J5n {J : It} {H : Hp} {xs : List V} {σ0 : St} {k : Nat} {tc : TT} {te : TE} {Q : VK} (p : V → Bool) (f : V → V) (hJ : J9K J H xs) (hx : xs.length ≤ 1000000)
  (hc : ∀ x ∈ xs,∀ H',Same H H' → ∀ R : Bool → Hp → Prop,(∀ H'',Same H' H'' → R (p x) H'') → tc (σ0.set k (some x)) H' R)
  (he : ∀ x ∈ xs,p x = true → ∀ H',Same H H' → ∀ R : VK,(∀ H'',Same H' H'' → R (f x) H'') → te (σ0.set k (some x)) H' R)
  (hQ : ∀ D H',H D = none → Same H H' → H' D = some (.lst ((xs.filter p).map f)) → Q (.ref D) H') :
  J7Q J H σ0 (J2d k) tc te Q:=by
 intro D hD
 refine ⟨fun i m σ1 ys H'=>m = xs.length - i ∧ i ≤ xs.length ∧ (σ1 = σ0 ∨ ∃ v,σ1 = σ0.set k v) ∧ ys = ((xs.take i).filter p).map f ∧ H' D = some (.lst ys) ∧ Same H H',⟨xs.length,by simp,Nat.zero_le _,.inl rfl,rfl,Jd,Jz hD _⟩,?_⟩
 rintro i m σ1 ys H' ⟨rfl,hi,hσ,rfl,hDD,hs⟩
 by_cases hlt : i < xs.length
 ·refine .inr ⟨hJ.go i H' hs hlt,fun x H'' hy=>?_⟩
  obtain ⟨e1,hx1⟩:=hJ.yld i H' x H'' hs hlt hy
  subst e1
  have hm : x ∈ xs:=List.mem_of_getElem? hx1
  have hset : σ1.set k (some x) = σ0.set k (some x):=by
   rcases hσ with rfl | ⟨v,rfl⟩
   ·rfl
   ·rw [List.set_set]
  show tc (σ1.set k (some x)) H'' _
  rw [hset]
  have tk : ((xs.take (i + 1)).filter p).map f = ((xs.take i).filter p).map f ++ (if p x = true then [f x] else []):=by
   rw [List.take_add_one,hx1,List.filter_append,List.map_append]
   cases hp : p x <;> simp [hp]
  refine hc x hm H'' hs _ fun H3 s3=>?_
  have s03 : Same H H3:=hs.trans s3
  have lenk : (((xs.take i).filter p).map f).length < sizeLine:=by
   have h1:=List.length_filter_le p (xs.take i)
   rw [List.length_take] at h1
   rw [List.length_map]
   have : (1000001 : Nat) ≤ sizeLine:=by decide
   omega
  refine ite2 (fun hp=>?_) (fun hp=>?_)
  ·refine he x hm hp H3 s03 _ fun H4 s4=>⟨s4 _ _ (s3 _ _ hDD),lenk,xs.length - (i + 1),by omega,rfl,hlt,.inr ⟨_,rfl⟩,?_,?_,?_⟩
   ·rw [tk,if_pos hp]
   ·exact Jd
   ·exact (s03.trans s4).upd hD
  ·refine ⟨xs.length - (i + 1),by omega,rfl,hlt,.inr ⟨_,rfl⟩,?_,s3 _ _ hDD,s03⟩
   rw [tk,if_neg hp,List.append_nil]
 ·have e : i = xs.length:=by omega
  subst e
  refine .inl ⟨hJ.stop H' hs,hQ D H' hD hs ?_⟩
  rw [hDD,List.take_length]
theorem J69 {J : It} {H : Hp} {xs : List V} {σ0 : St} {k : Nat} {te : TE} {Q : VK} (f : V → V) (hJ : J9K J H xs) (hx : xs.length ≤ 1000000)
  (he : ∀ x ∈ xs,∀ H',Same H H' → ∀ R : VK,(∀ H'',Same H' H'' → R (f x) H'') → te (σ0.set k (some x)) H' R)
  (hQ : ∀ D H',H D = none → Same H H' → H' D = some (.lst (xs.map f)) → Q (.ref D) H') :
  J7Q J H σ0 (J2d k) tYes te Q :=
 J5n (fun _=>true) f hJ hx (fun x _ H' _ R hR=>hR H' (Same.refl _)) (fun x hm _=>he x hm) (fun D H' h1 h2 h3=>hQ D H' h1 h2 (by rw [h3,List.filter_eq_self.mpr fun _ _=>rfl]))
end L2
set_option linter.all false
set_option maxRecDepth 100000
set_option maxHeartbeats 4000000
namespace L2
open PySem PySem.Spec PyProof.Rows
noncomputable abbrev T (l : List Nat) : V:=.str ⟨l.toArray⟩
theorem J3C (l : List Nat) : (⟨l.toArray⟩ : Str).length = l.length:=by simp [Str.length]
theorem Jbw (a b : List Nat) : (⟨a.toArray⟩ : Str) ++ ⟨b.toArray⟩ = ⟨(a ++ b).toArray⟩:=by
 show (⟨a.toArray ++ b.toArray⟩ : Str) = _
 simp
section
variable {X : Cx}
theorem JM {x : Str} {l : List Nat} {j pos} (h : x = ⟨l.toArray⟩) : PE X (.Constant (.str x) j pos) (tC (T l)):=by subst h; exact JaU
noncomputable def JbS : R2:=fun x y H Q=>∃ a b,x = T a ∧ y = T b ∧ a.length + b.length ≤ sizeLine ∧ Q (T (a ++ b)) H
theorem J20 : OpR X (binaryOp .Add) JbS:=by
 intro pins s σ H x y v u Q I rx ry h
 obtain ⟨a,b,rfl,rfl,hz,q⟩:=h
 exact J76 pins s σ H _ _ v u Q I rx ry ⟨_,_,rfl,rfl,by rw [J3C,J3C]; exact hz,by rw [Jbw]; exact q⟩
noncomputable def Jbt : R2:=fun x y H Q=>∃ l i c,x = T l ∧ y = .int i ∧ l.length ≤ sizeLine ∧ atI l i = some c ∧ Q (T [c]) H
theorem J5u : IxR X Jbt:=by
 intro value slice pins s σ H x y v u Q I rx ry h hs
 obtain ⟨l,i,c,rfl,rfl,hz,he,q⟩:=h
 exact Jb8 value slice pins s σ H _ _ v u Q I rx ry ⟨_,i,c,rfl,rfl,by rw [J3C]; exact hz,by simpa using he,q⟩ hs
theorem JaV : OpR X (compareOp .In) (fun x y H Q=>∃ c m,x = T [c] ∧ y = T m ∧ Q (.bl (decide (c ∈ m))) H):=by
 intro pins s σ H x y v u Q I rx ry h
 obtain ⟨c,m,rfl,rfl,q⟩:=h
 refine J8F pins s σ H _ _ v u Q I rx ry ⟨_,_,rfl,rfl,?_⟩
 have e:=StrLaws.found_one ⟨m.toArray⟩ c
 rw [show (!(Builtin.Str.occurrences ⟨m.toArray⟩ ⟨[c].toArray⟩ 0 (⟨m.toArray⟩ : Str).length 1).isEmpty) = decide (c ∈ m) from by simpa using e]
 exact q
theorem J8y : OpR X (compareOp .NotIn) (fun x y H Q=>∃ c m,x = T [c] ∧ y = T m ∧ Q (.bl (!decide (c ∈ m))) H):=by
 intro pins s σ H x y v u Q I rx ry h
 obtain ⟨c,m,rfl,rfl,q⟩:=h
 refine J5w pins s σ H _ _ v u Q I rx ry ⟨_,_,rfl,rfl,?_⟩
 have e:=StrLaws.found_one ⟨m.toArray⟩ c
 rw [show (!(Builtin.Str.occurrences ⟨m.toArray⟩ ⟨[c].toArray⟩ 0 (⟨m.toArray⟩ : Str).length 1).isEmpty) = decide (c ∈ m) from by simpa using e]
 exact q
theorem JN : J1h X (.builtin "len") (fun xs H Q=>∃ l,xs = [T l] ∧ l.length ≤ sizeLine ∧ Q (.int l.length) H):=by
 intro pins s σ H xs us Q I r h
 obtain ⟨l,rfl,hz,q⟩:=h
 exact J5t pins s σ H _ us Q I r ⟨_,rfl,by rw [J3C]; exact hz,by rw [J3C]; exact q⟩
end
noncomputable def cutN {α : Type} (xs : List α) (lo hi : Option Int) : List α:=(xs.drop (HT.sIx xs.length 0 lo)).take (HT.sIx xs.length xs.length hi - HT.sIx xs.length 0 lo)
noncomputable def J9L (n : Nat) (d : Int) : Option Int → Int
 | none=>d
 | some i=>max 0 (min (if i < 0 then i + (n : Int) else i) (n : Int))
theorem J6h (n d : Nat) (o : Option Int) : J9L n (d : Int) o = ((HT.sIx n d o : Nat) : Int):=by
 cases o with
 | none=>rfl
 | some i =>
  show max 0 (min (if i < 0 then i + (n : Int) else i) (n : Int)) = (((if i < 0 then (i + (n : Int)).toNat else min i.toNat n) : Nat) : Int)
  by_cases hi : i < 0
  ·rw [if_pos hi,if_pos hi]; omega
  ·rw [if_neg hi,if_neg hi]; omega
theorem Jbo (a b : Nat) : sliceRange (a : Int) (b : Int) 1 = (List.range (b - a)).map fun k=>a + k:=by
 unfold sliceRange
 simp only [show (1 : Int) > 0 by decide,if_true]
 have e1 : (if (a : Int) < (b : Int) then ((b : Int) - (a : Int) + 1 - 1) / 1 else 0).toNat = b - a:=by
  split <;> simp <;> omega
 rw [e1]
 refine List.map_congr_left fun k _=>?_
 omega
theorem J5r (lo hi : Option Int) (n : Nat) : Builtin.Str.strSliceIndices lo hi 1 n = (List.range (HT.sIx n n hi - HT.sIx n 0 lo)).map fun k=>HT.sIx n 0 lo + k:=by
 have e : Builtin.Str.strSliceIndices lo hi 1 n = sliceRange (J9L n ((0 : Nat) : Int) lo) (J9L n ((n : Nat) : Int) hi) 1:=by
  cases lo <;> cases hi <;> rfl
 rw [e,J6h,J6h,Jbo]
theorem Jbv (l : List Nat) (i k : Nat) : ((List.range k).map fun m=>i + m).filterMap (fun j=>l.toArray[j]?) = (l.drop i).take k:=by
 induction k generalizing i with
 | zero=>simp
 | succ k ih =>
  rw [List.range_succ_eq_map,List.map_cons,List.filterMap_cons,List.map_map]
  have e : ((fun m=>i + m) ∘ Nat.succ) = fun m=>(i + 1) + m:=by funext m; simp; omega
  rw [e,ih (i + 1)]
  by_cases h : i < l.length
  ·have : l.toArray[i + 0]? = some l[i]:=by simp [h]
   rw [this,List.drop_eq_getElem_cons h,List.take_succ_cons]
  ·have : l.toArray[i + 0]? = none:=by simp; omega
   rw [this,List.drop_eq_nil_of_le (by omega),List.drop_eq_nil_of_le (by omega)]
   simp
theorem J8z {α : Type} {l : List α} {lo hi : Option Int} (h : (cutN l lo hi).length = l.length) : cutN l lo hi = l:=by
 unfold cutN at h ⊢
 rw [List.length_take,List.length_drop] at h
 have h2:=HT.sIx_le l.length l.length (Nat.le_refl _) hi
 by_cases h0 : l.length = 0
 ·have : l = []:=List.length_eq_zero_iff.mp h0
  subst this; simp
 ·have e0 : HT.sIx l.length 0 lo = 0:=by omega
  rw [e0,List.drop_zero]
  exact List.take_of_length_le (by omega)
theorem J8i (l : List Nat) (lo hi : Option Int) : Txt.slice ⟨l.toArray⟩ lo hi = ⟨(cutN l lo hi).toArray⟩:=by
 unfold Txt.slice
 rw [J3C,J5r]
 have e:=Jbv l (HT.sIx l.length 0 lo) (HT.sIx l.length l.length hi - HT.sIx l.length 0 lo)
 have e2 : ((List.range (HT.sIx l.length l.length hi - HT.sIx l.length 0 lo)).map fun k=>HT.sIx l.length 0 lo + k).filterMap (fun x=>(⟨l.toArray⟩ : Str).cps[x]?) = cutN l lo hi:=e
 by_cases h : ((1 : Int) == 1 && ((List.range (HT.sIx l.length l.length hi - HT.sIx l.length 0 lo)).map fun k=>HT.sIx l.length 0 lo + k).length == l.length) = true
 ·rw [if_pos h]
  have h' : HT.sIx l.length l.length hi - HT.sIx l.length 0 lo = l.length:=by
   have:=((Bool.and_eq_true _ _).mp h).2
   simpa using this
  have : (cutN l lo hi).length = l.length:=by
   unfold cutN
   rw [List.length_take,List.length_drop]
   have:=HT.sIx_le l.length l.length (Nat.le_refl _) hi
   omega
  rw [J8z this]
 ·rw [if_neg h,e2]
section
variable {X : Cx}
noncomputable def rSlS : V → Option Int → Option Int → Hp → VK → Prop:=fun x lo hi H Q=>∃ l,x = T l ∧ l.length ≤ sizeLine ∧ Q (T (cutN l lo hi)) H
theorem J2q : SlR X rSlS:=by
 intro pins s σ H x v vl vu lo hi sl Q I rx hs pl pu h
 obtain ⟨l,rfl,hz,q⟩:=h
 obtain ⟨t,rfl⟩:=rx
 refine ⟨"str",_,F.slot_str_getitem.lookup,typeIs_str _ _ _,?_⟩
 have fin : ∀ t' k,EP X pins σ Q (.str (Txt.slice ⟨l.toArray⟩ lo hi) t') { s with toks:=k }:=fun t' k=>⟨T (cutN l lo hi),H,I.tok _,⟨t',by rw [J8i]⟩,q⟩
 have hlen : (Txt.slice ⟨l.toArray⟩ lo hi).length ≤ sizeLine:=Nat.le_trans (Txt.slice_le _ _ _) (by rw [J3C]; exact hz)
 cases pl with
 | none =>
  cases pu with
  | none=>exact wpAny_getItem_str_slice (l:=none) (u:=none) (st:=none) hs rfl (post_val_or_str ⟨hlen,fin⟩)
  | int j uj=>exact wpAny_getItem_str_slice (l:=none) (u:=some (j,uj)) (st:=none) hs rfl (post_val_or_str ⟨hlen,fin⟩)
 | int i ui =>
  cases pu with
  | none=>exact wpAny_getItem_str_slice (l:=some (i,ui)) (u:=none) (st:=none) hs rfl (post_val_or_str ⟨hlen,fin⟩)
  | int j uj=>exact wpAny_getItem_str_slice (l:=some (i,ui)) (u:=some (j,uj)) (st:=none) hs rfl (post_val_or_str ⟨hlen,fin⟩)
end
noncomputable def Its (l : List Nat) : It:=⟨fun i _=>i < l.length,fun i H x H'=>H' = H ∧ ∃ c,l[i]? = some c ∧ x = T [c],fun i _=>l.length ≤ i⟩
theorem J9b {P : Program} {w : World} {K : PySem.W.Frag} {tg : Expr} {it : Addr} {l : List Nat} {t : Tok} {nm : String} (hn : nm = "str_ascii_iterator" ∨ nm = "str_iterator") :
  Turn P w K tg (Its l) [it] it (fun i h=>h.IsStrIter it nm ⟨l.toArray⟩ t i) where
 mem:=by simp
 obj:=fun i h st b hb=>by
  have e : b = it:=by simpa using hb
  subst e
  obtain ⟨o,e,c,d⟩:=st
  exact ⟨o,e,fun v z=>by rw [d] at z; cases z⟩
 keep:=fun i h h' st k=>by
  obtain ⟨o,e,r⟩:=st
  exact ⟨o,k it (by simp) o e,r⟩
 item:=by
  intro X hP hw hK hc i pins s σ H E I hf st hg
  subst hP hw hK
  obtain ⟨f0,f1,f2,f3,f4,f5⟩:=hf it (by simp)
  have hi : i < l.length:=hg
  have hx : (⟨l.toArray⟩ : Str).cps[i]? = some l[i]:=by simp [hi]
  have fin : ∀ h',h'.IsStrIter it nm ⟨l.toArray⟩ t (i + 1) → Heap.SameBut it s.heap h' → ∃ u,(some (Value.str ⟨#[l[i]]⟩ s.toks) : Option Value) = some u ∧
    wpAny (model X.prog X.w) X.A (letOwnedTupleGo tg (.ref it) u) (fun _ s2=>∃ x H',Inv X pins σ H' s2 ∧ RelV x u ∧ (Its l).yld i H x H' ∧ s2.heap.IsStrIter it nm ⟨l.toArray⟩ t (i + 1) ∧ ∀ b ∈ [it],H' b = none) E { s with heap:=h',toks:=s.toks + 1 }:=fun h' st' sb=>by
   have I1 : Inv X pins σ H { s with heap:=h',toks:=s.toks + 1 }:=I.turned (t':=s.toks + 1) (fun b o hb e=>(sb.2 b hb).trans e) f0 f1 f3 f4 f5
   obtain ⟨o,e,c,d⟩:=id st'
   refine ⟨_,rfl,J9F (s:={ s with heap:=h',toks:=s.toks + 1 }) e c d (by rcases hn with rfl | rfl <;> decide) ⟨T [l[i]],H,I1,⟨_,rfl⟩,⟨rfl,l[i],by simp [hi],rfl⟩,st',fun b hb=>(hf b hb).1⟩⟩
  rcases hn with rfl | rfl
  ·exact wpAny_pyNext_ascii_item st hx fin
  ·exact wpAny_pyNext_wide_item st hx fin
 done:=by
  intro X hP hw hK hc i pins s σ H E I hf st hg
  subst hP hw hK
  obtain ⟨f0,f1,f2,f3,f4,f5⟩:=hf it (by simp)
  have hi : l.length ≤ i:=hg
  have hx : (⟨l.toArray⟩ : Str).cps[i]? = none:=by simp; exact hi
  have fin : ∀ h',Heap.ExtBut it s.heap h' → (none : Option Value) = none ∧ Inv X pins σ H { s with heap:=h' }:=fun h' eb=>⟨rfl,I.turned (t':=s.toks) (fun b o hb e=>eb b o hb e) f0 f1 f3 f4 f5⟩
  rcases hn with rfl | rfl
  ·exact wpAny_pyNext_ascii_end (I.ok.hd hc) st hx fin
  ·exact wpAny_pyNext_wide_end (I.ok.hd hc) st hx fin
 self:=fun _ _ _ _ _ st h=>by
  rcases hn with rfl | rfl
  ·exact wpAny_pyIter_striter_ascii st h
  ·exact wpAny_pyIter_striter_wide st h
section
variable {X : Cx} {tg : Expr}
noncomputable def iTxt (tl : TE) : TI:=fun σ H R=>tl σ H fun x H1=>∃ l,x = T l ∧ R (Its l) H1
theorem J5s {e : Expr} {tl : TE} (hl : PE X e tl) : PI X tg e (iTxt tl):=by
 intro pins s σ H R I h
 refine thn (hl pins s σ H _ I h) fun v s1 ⟨x,H1,I1,r1,q1⟩=>?_
 obtain ⟨l,e,q⟩:=q1
 subst e
 obtain ⟨t,rfl⟩:=r1
 have fin : ∀ nm : String,(nm = "str_ascii_iterator" ∨ nm = "str_iterator") → PIE X pins σ tg R (.ref s1.heap.objs.size) { s1 with heap:=s1.heap.push { cls:=.type nm,data:=.fields #[.str ⟨l.toArray⟩ t,.int 0 0] } }:=fun nm hn=>by
  refine ⟨s1.heap.objs.size,[s1.heap.objs.size],_,_,H1,rfl,I1.kept (t':=s1.toks) fun b o e=>Heap.get?_push_of_some _ e,J9b (t:=t) hn,⟨_,Heap.get?_push_size _ rfl,rfl,rfl⟩,fun b hb=>?_,q⟩
  have e : b = s1.heap.objs.size:=by simpa using hb
  subst e
  exact I1.fpOk (Nat.le_refl _) (I1.hok.fresh (Nat.le_refl _))
 cases ha : (⟨l.toArray⟩ : Str).cps.all (· < 128) with
 | true=>exact wpAny_pyIter_ascii ha (fin _ (.inl rfl))
 | false=>exact wpAny_pyIter_wide ha (fin _ (.inr rfl))
end
theorem J24 {H : Hp} (l : List Nat) : J9K (Its l) H (l.map fun c=>T [c]) where
 go:=fun i H' s hi=>by rw [List.length_map] at hi; exact hi
 yld:=fun i H' x H'' s hi y=>by
  obtain ⟨e,c,hc,rfl⟩:=y
  exact ⟨e,by rw [List.getElem?_map,hc]; rfl⟩
 stop:=fun H' s=>by rw [List.length_map]; exact Nat.le_refl _
section
variable {X : Cx}
end
theorem J6z {bs : List Bool} {us : List Value} (h : Vals (bs.map V.bl) us) : us = bs.map Value.bool:=by
 induction bs generalizing us with
 | nil=>cases h; rfl
 | cons b r ih =>
  cases h with
  | cons r1 r2 =>
   cases r1
   rw [ih r2]; rfl
theorem J8o (bs : List Bool) : (List.range bs.length).all (fun i=>bs.getD i false) = bs.all id:=by
 rw [Bool.eq_iff_iff,List.all_eq_true,List.all_eq_true]
 constructor
 ·intro h b hb
  obtain ⟨i,hi,rfl⟩:=List.mem_iff_getElem.mp hb
  have:=h i (List.mem_range.mpr hi)
  simpa [List.getD_eq_getElem?_getD,hi] using this
 ·intro h i hi
  have hi:=List.mem_range.mp hi
  have:=h bs[i] (List.getElem_mem hi)
  simpa [List.getD_eq_getElem?_getD,hi] using this
theorem J8m (bs : List Bool) : (List.range bs.length).any (fun i=>bs.getD i false) = bs.any id:=by
 rw [Bool.eq_iff_iff,List.any_eq_true,List.any_eq_true]
 constructor
 ·rintro ⟨i,hi,h⟩
  have hi:=List.mem_range.mp hi
  refine ⟨bs[i],List.getElem_mem hi,?_⟩
  simpa [List.getD_eq_getElem?_getD,hi] using h
 ·rintro ⟨b,hb,h⟩
  obtain ⟨i,hi,rfl⟩:=List.mem_iff_getElem.mp hb
  refine ⟨i,List.mem_range.mpr hi,?_⟩
  simpa [List.getD_eq_getElem?_getD,hi] using h
section
variable {X : Cx}
theorem J4p (bs : List Bool) {A : Around} : TruthOf X.prog X.w A (fun i v=>(bs.map Value.bool).toArray[i]? = some v) (fun i=>bs.getD i false):=fun i v s Q E hP hQ=>by
 have : ∃ b,bs[i]? = some b ∧ v = .bool b:=by
  have hP' : (bs.map Value.bool).toArray[i]? = some v:=hP
  rw [List.getElem?_toArray,List.getElem?_map] at hP'
  cases hb : bs[i]? with
  | none=>rw [hb] at hP'; cases hP'
  | some b=>rw [hb] at hP'; exact ⟨b,rfl,(Option.some.inj hP').symm⟩
 obtain ⟨b,hb,rfl⟩:=this
 refine wpAny_truthy_bool ?_
 simpa [List.getD_eq_getElem?_getD,hb] using hQ
theorem J8D (hc : X.calm = true) : J1h X (.builtin "all") (fun xs H Q=>∃ (D : Addr) (bs : List Bool),xs = [.ref D] ∧ SqL X.K H D (bs.map V.bl) ∧ Q (.bl (bs.all id)) H):=by
 intro pins s σ H xs us Q I r h
 obtain ⟨D,bs,rfl,hq,q⟩:=h
 obtain ⟨u,rfl,ru⟩:=r.one
 cases ru
 obtain ⟨its,rv,pl,_⟩:=I.list hq
 obtain rfl:=J6z rv
 have hD : D < s.heap.objs.size:=by obtain ⟨o,n,e,_⟩:=pl; exact Heap.lt_size e
 refine call_all_walk (wpAny_pyIter_list pl.isList ⟨s.heap.objs.size,_,_,_,_,_,fun i=>bs.getD i false,rfl,Walks.list (A:=X.A.in1) (I.ok.hd hc) _ D (Nat.ne_of_lt hD) (bs.map Value.bool).toArray,
  ⟨⟨_,Heap.get?_push_size _ rfl,rfl,rfl⟩,pl.isList.push _⟩,J4p bs,fun h' tk hk=>?_⟩)
 rw [List.size_toArray,List.length_map,J8o]
 exact ⟨.bl (bs.all id),H,I.kept fun b o e=>hk b o (by simpa using Nat.ne_of_lt (Heap.lt_size e)) (Heap.get?_push_of_some _ e),rfl,q⟩
theorem J8G (hc : X.calm = true) : J1h X (.builtin "any") (fun xs H Q=>∃ (D : Addr) (bs : List Bool),xs = [.ref D] ∧ SqL X.K H D (bs.map V.bl) ∧ Q (.bl (bs.any id)) H):=by
 intro pins s σ H xs us Q I r h
 obtain ⟨D,bs,rfl,hq,q⟩:=h
 obtain ⟨u,rfl,ru⟩:=r.one
 cases ru
 obtain ⟨its,rv,pl,_⟩:=I.list hq
 obtain rfl:=J6z rv
 have hD : D < s.heap.objs.size:=by obtain ⟨o,n,e,_⟩:=pl; exact Heap.lt_size e
 refine call_any_walk (wpAny_pyIter_list pl.isList ⟨s.heap.objs.size,_,_,_,_,_,fun i=>bs.getD i false,rfl,Walks.list (A:=X.A.in1) (I.ok.hd hc) _ D (Nat.ne_of_lt hD) (bs.map Value.bool).toArray,
  ⟨⟨_,Heap.get?_push_size _ rfl,rfl,rfl⟩,pl.isList.push _⟩,J4p bs,fun h' tk hk=>?_⟩)
 rw [List.size_toArray,List.length_map,J8m]
 exact ⟨.bl (bs.any id),H,I.kept fun b o e=>hk b o (by simpa using Nat.ne_of_lt (Heap.lt_size e)) (Heap.get?_push_of_some _ e),rfl,q⟩
end
end L2
set_option linter.all false
set_option maxRecDepth 100000
set_option maxHeartbeats 4000000
namespace L2
open PySem PySem.Spec PyProof.Rows
open Builtin Builtin.Str
section
variable {prog : Program} {w : World} {A : Around} {E : Value → Shared → Prop} {s : Shared}
structure J3D (z TI TO i1 i2 : Addr) : Prop where
 TIz : TI ≠ z
 TOz : TO ≠ z
 i1z : i1 ≠ z
 i2z : i2 ≠ z
 TITO : TI ≠ TO
 TIi1 : TI ≠ i1
 TIi2 : TI ≠ i2
 TOi1 : TO ≠ i1
 TOi2 : TO ≠ i2
 i12 : i1 ≠ i2
theorem J7h (n : Nat) : J3D (n + 4) (n + 2) (n + 3) n (n + 1) :=
 ⟨Nat.ne_of_lt (by omega),Nat.ne_of_lt (by omega),Nat.ne_of_lt (by omega),Nat.ne_of_lt (by omega),Nat.ne_of_lt (by omega),Nat.ne_of_gt (by omega),Nat.ne_of_gt (by omega),Nat.ne_of_gt (by omega),Nat.ne_of_gt (by omega),Nat.ne_of_lt (by omega)⟩
theorem J8q {z TI TO i1 i2 : Addr} {k n1 n2 : Nat} {P1 P2 : Nat → Value → Prop} {St1 St2 : Nat → Heap → Prop} {a b : Value} {Q : Value → Shared → Prop} (F : J3D z TI TO i1 i2)
  (D1 : Draws prog w A i1 [i1] n1 P1 St1) (D2 : Draws prog w A i2 [i2] n2 P2 St2)
  (hz : IsZip s.heap z TI TO .none) (hTI : IsPair s.heap TI (.ref i1) (.ref i2)) (hTO : IsPair s.heap TO a b)
  (h1 : St1 k s.heap) (h2 : St2 k s.heap) (hk1 : k < n1) (hk2 : k < n2)
  (hQ : ∀ x y h' tk,P1 k x → P2 k y → IsZip h' z TI TO (rawInt s.heap.objs.size) → IsPair h' TO x y → St1 (k + 1) h' → St2 (k + 1) h' → IsPair h' s.heap.objs.size x y → h'.objs.size = s.heap.objs.size + 1 →
   (∀ c o,c ≠ z → c ≠ TO → c ≠ i1 → c ≠ i2 → s.heap.get? c = some o → h'.get? c = some o) → Q (.ref s.heap.objs.size) { s with heap:=h',toks:=tk }) :
  wpAny (model prog w) A (Builtin.«zip.__next__» ⟨[.ref z],[]⟩) (fun fin s'=>∃ v,fin = .done (.ret v) ∧ Q v s') E s:=by
 have fr1 : ∀ i h h',St1 i h → (∀ o,h.get? i1 = some o → h'.get? i1 = some o) → St1 i h':=fun i h h' st hk=>D1.frame i h h' st fun b hb o e=>by
  have : b = i1:=by simpa using hb
  subst this; exact hk o e
 have fr2 : ∀ i h h',St2 i h → (∀ o,h.get? i2 = some o → h'.get? i2 = some o) → St2 i h':=fun i h h' st hk=>D2.frame i h h' st fun b hb o e=>by
  have : b = i2:=by simpa using hb
  subst this; exact hk o e
 show wpAny _ _ (field (.ref z) 2 >>= _) _ _ _
 refine wpAny_bind (wpAny_field hz rfl (x:=.bool false) rfl ?_)
 show wpAny _ _ (field (.ref z) 3 >>= _) _ _ _
 refine wpAny_bind (wpAny_field hz rfl (x:=.ref TI) rfl ?_)
 refine wpAny_bind (wpAny_seqItems hTI rfl ?_)
 show wpAny _ _ (Builtin.SmallTypes.ownedTupleIsFree (.ref z) >>= _) _ _ _
 refine wpAny_bind ?_
 unfold Builtin.SmallTypes.ownedTupleIsFree
 refine wpAny_bind (wpAny_field hz rfl (x:=.none) rfl (wpAny_pure ?_))
 simp only [if_true]
 refine wpAny_bind (wpAny_rule ?_)
 refine wpAny_bind (wpAny_field hz rfl (x:=.ref TO) rfl ?_)
 refine wpAny_bind (wpAny_setField_rec hz (by simp) fun h₁ hz₁ hs₁=>?_)
 replace hz₁ : IsZip h₁ z TI TO .ellipsis:=hz₁
 refine wpAny_bind ?_
 simp only [List.zipIdx_cons,List.zipIdx_nil,List.forIn_cons,List.forIn_nil]
 refine wpAny_bind (wpAny_bind (wpAny_onRaise ?_))
 show wpAny _ _ (Builtin.SmallTypes.nextOf (.ref i1) >>= _) _ _ _
 refine wpAny_bind (D1.item k _ _ _ hk1 (fr1 _ _ _ h1 fun o e=>hs₁.extBut _ _ F.i1z e) fun x h₂ tk₂ hx h1₂ hs₂=>wpAny_pure ?_)
 replace hs₂ : Heap.SameBut i1 h₁ h₂:=hs₂
 have hTO₂ : IsPair h₂ TO a b:=hs₂.extBut _ _ F.TOi1 (hs₁.extBut _ _ F.TOz hTO)
 refine wpAny_bind (wpAny_seqItems hTO₂ rfl ?_)
 refine wpAny_bind (wpAny_updateSeq_pair hTO₂ fun h₃ hTO₃ hs₃=>?_)
 replace hTO₃ : IsPair h₃ TO x b:=hTO₃
 replace hs₃ : Heap.SameBut TO h₂ h₃:=hs₃
 refine wpAny_bind (wpAny_letGo (wpAny_pure ?_))
 refine wpAny_bind (wpAny_bind (wpAny_onRaise ?_))
 show wpAny _ _ (Builtin.SmallTypes.nextOf (.ref i2) >>= _) _ _ _
 refine wpAny_bind (D2.item k _ _ _ hk2 (fr2 _ _ _ h2 fun o e=>hs₃.extBut _ _ F.TOi2.symm (hs₂.extBut _ _ F.i12.symm (hs₁.extBut _ _ F.i2z e))) fun y h₄ tk₄ hy h2₄ hs₄=>wpAny_pure ?_)
 replace hs₄ : Heap.SameBut i2 h₃ h₄:=hs₄
 have hTO₄ : IsPair h₄ TO x b:=hs₄.extBut _ _ F.TOi2 hTO₃
 refine wpAny_bind (wpAny_seqItems hTO₄ rfl ?_)
 refine wpAny_bind (wpAny_updateSeq_pair hTO₄ fun h₅ hTO₅ hs₅=>?_)
 replace hTO₅ : IsPair h₅ TO x y:=hTO₅
 replace hs₅ : Heap.SameBut TO h₄ h₅:=hs₅
 refine wpAny_bind (wpAny_letGo (wpAny_pure (wpAny_pure ?_)))
 refine wpAny_bind (wpAny_seqItems hTO₅ rfl ?_)
 refine wpAny_bind (wpAny_newTuple ?_)
 have hsz : h₅.objs.size = s.heap.objs.size:=by rw [hs₅.1,hs₄.1,hs₃.1,hs₂.1,hs₁.1]
 have hz₅ : IsZip h₅ z TI TO .ellipsis:=hs₅.extBut _ _ F.TOz.symm (hs₄.extBut _ _ F.i2z.symm (hs₃.extBut _ _ F.TOz.symm (hs₂.extBut _ _ F.i1z.symm hz₁)))
 have hk₅ : ∀ c o,c ≠ z → c ≠ TO → c ≠ i1 → c ≠ i2 → s.heap.get? c = some o → h₅.get? c = some o:=fun c o c1 c2 c3 c4 e =>
  hs₅.extBut _ _ c2 (hs₄.extBut _ _ c4 (hs₃.extBut _ _ c2 (hs₂.extBut _ _ c3 (hs₁.extBut _ _ c1 e))))
 have h1₅ : St1 (k + 1) h₅:=fr1 _ _ _ h1₂ fun o e=>hs₅.extBut _ _ F.TOi1.symm (hs₄.extBut _ _ F.i12 (hs₃.extBut _ _ F.TOi1.symm e))
 have h2₅ : St2 (k + 1) h₅:=fr2 _ _ _ h2₄ fun o e=>hs₅.extBut _ _ F.TOi2.symm e
 have hzlt : z < h₅.objs.size:=Heap.lt_size hz₅
 show wpAny _ _ (Builtin.SmallTypes.ownedTupleHandOut (.ref z) (.ref h₅.objs.size) >>= _) _ _ _
 refine wpAny_bind ?_
 unfold Builtin.SmallTypes.ownedTupleHandOut
 have hz₆ : IsZip (h₅.push { cls:=.type "tuple",data:=.seq #[x,y] }) z TI TO .ellipsis:=Heap.get?_push_of_some _ hz₅
 refine wpAny_bind (wpAny_setField_rec hz₆ (by simp) fun h₇ hz₇ hs₇=>?_)
 replace hz₇ : IsZip h₇ z TI TO (rawInt h₅.objs.size):=hz₇
 replace hs₇ : Heap.SameBut z (h₅.push { cls:=.type "tuple",data:=.seq #[x,y] }) h₇:=hs₇
 refine wpAny_setField_rec hz₇ (by simp) fun h₈ hz₈ hs₈=>?_
 replace hz₈ : IsZip h₈ z TI TO (rawInt h₅.objs.size):=hz₈
 replace hs₈ : Heap.SameBut z h₇ h₈:=hs₈
 have up : ∀ c o,c ≠ z → h₅.get? c = some o → h₈.get? c = some o:=fun c o c1 e=>hs₈.extBut _ _ c1 (hs₇.extBut _ _ c1 (Heap.get?_push_of_some _ e))
 have hT₈ : IsPair h₈ h₅.objs.size x y:=hs₈.extBut _ _ (Nat.ne_of_gt hzlt) (hs₇.extBut _ _ (Nat.ne_of_gt hzlt) (Heap.get?_push_size _ rfl))
 have hz8 : h₈.objs.size = h₅.objs.size + 1:=by rw [hs₈.1,hs₇.1,Heap.size_push]
 rw [hsz] at hz₈ hT₈ hz8
 refine wpAny_pure ⟨_,rfl,?_⟩
 show Q (.ref h₅.objs.size) _
 rw [hsz]
 exact hQ x y h₈ tk₄ hx hy hz₈ (up _ _ F.TOz hTO₅) (fr1 _ _ _ h1₅ fun o e=>up _ o F.i1z e) (fr2 _ _ _ h2₅ fun o e=>up _ o F.i2z e) hT₈ hz8 fun c o c1 c2 c3 c4 e=>up c o c1 (hk₅ c o c1 c2 c3 c4 e)
theorem J90 {z TI TO i1 i2 : Addr} {k n1 n2 : Nat} {P1 P2 : Nat → Value → Prop} {St1 St2 : Nat → Heap → Prop} {a b : Value} {Q : Fin → Shared → Prop} (F : J3D z TI TO i1 i2)
  (D1 : Draws prog w A i1 [i1] n1 P1 St1) (D2 : Draws prog w A i2 [i2] n2 P2 St2)
  (hz : IsZip s.heap z TI TO .none) (hTI : IsPair s.heap TI (.ref i1) (.ref i2)) (hTO : IsPair s.heap TO a b)
  (h1 : St1 k s.heap) (h2 : St2 k s.heap) (hend : k = n1 ∨ (k < n1 ∧ k = n2))
  (hE : ∀ h' tk e,(∀ c o,c ≠ z → c ≠ TO → c ≠ i1 → c ≠ i2 → s.heap.get? c = some o → h'.get? c = some o) → (∃ o,h'.get? e = some o ∧ o.cls = .type "StopIteration") → E (.ref e) { s with heap:=h',toks:=tk }) :
  wpAny (model prog w) A (Builtin.«zip.__next__» ⟨[.ref z],[]⟩) Q E s:=by
 have fr1 : ∀ i h h',St1 i h → (∀ o,h.get? i1 = some o → h'.get? i1 = some o) → St1 i h':=fun i h h' st hk=>D1.frame i h h' st fun b hb o e=>by
  have : b = i1:=by simpa using hb
  subst this; exact hk o e
 have fr2 : ∀ i h h',St2 i h → (∀ o,h.get? i2 = some o → h'.get? i2 = some o) → St2 i h':=fun i h h' st hk=>D2.frame i h h' st fun b hb o e=>by
  have : b = i2:=by simpa using hb
  subst this; exact hk o e
 show wpAny _ _ (field (.ref z) 2 >>= _) _ _ _
 refine wpAny_bind (wpAny_field hz rfl (x:=.bool false) rfl ?_)
 show wpAny _ _ (field (.ref z) 3 >>= _) _ _ _
 refine wpAny_bind (wpAny_field hz rfl (x:=.ref TI) rfl ?_)
 refine wpAny_bind (wpAny_seqItems hTI rfl ?_)
 show wpAny _ _ (Builtin.SmallTypes.ownedTupleIsFree (.ref z) >>= _) _ _ _
 refine wpAny_bind ?_
 unfold Builtin.SmallTypes.ownedTupleIsFree
 refine wpAny_bind (wpAny_field hz rfl (x:=.none) rfl (wpAny_pure ?_))
 simp only [if_true]
 refine wpAny_bind (wpAny_rule ?_)
 refine wpAny_bind (wpAny_field hz rfl (x:=.ref TO) rfl ?_)
 refine wpAny_bind (wpAny_setField_rec hz (by simp) fun h₁ hz₁ hs₁=>?_)
 replace hz₁ : IsZip h₁ z TI TO .ellipsis:=hz₁
 refine wpAny_bind ?_
 simp only [List.zipIdx_cons,List.zipIdx_nil,List.forIn_cons,List.forIn_nil]
 refine wpAny_bind (wpAny_bind (wpAny_onRaise ?_))
 show wpAny _ _ (Builtin.SmallTypes.nextOf (.ref i1) >>= _) _ _ _
 rcases hend with hk | ⟨hk1,hk⟩
 ·subst hk
  refine wpAny_bind (D1.done _ _ _ (fr1 _ _ _ h1 fun o e=>hs₁.extBut _ _ F.i1z e) fun h₂ e hs₂ he=>?_)
  obtain ⟨oe,hoe,hce⟩:=he
  replace hs₂ : Heap.ExtBut i1 h₁ h₂:=hs₂
  have hz₂ : IsZip h₂ z TI TO .ellipsis:=hs₂ _ _ F.i1z.symm hz₁
  have hez : e ≠ z:=fun x=>by subst x; rw [hz₂] at hoe; cases hoe; simp at hce
  exact wpAny_setField_rec hz₂ (by simp) fun h₃ _ hs₃=>hE h₃ _ e (fun c o c1 _ c3 _ x=>hs₃.extBut _ _ c1 (hs₂ _ _ c3 (hs₁.extBut _ _ c1 x))) ⟨oe,hs₃.extBut _ _ hez hoe,hce⟩
 ·subst hk
  refine wpAny_bind (D1.item k _ _ _ hk1 (fr1 _ _ _ h1 fun o e=>hs₁.extBut _ _ F.i1z e) fun x h₂ tk₂ hx h1₂ hs₂=>wpAny_pure ?_)
  replace hs₂ : Heap.SameBut i1 h₁ h₂:=hs₂
  have hTO₂ : IsPair h₂ TO a b:=hs₂.extBut _ _ F.TOi1 (hs₁.extBut _ _ F.TOz hTO)
  refine wpAny_bind (wpAny_seqItems hTO₂ rfl ?_)
  refine wpAny_bind (wpAny_updateSeq_pair hTO₂ fun h₃ hTO₃ hs₃=>?_)
  replace hs₃ : Heap.SameBut TO h₂ h₃:=hs₃
  refine wpAny_bind (wpAny_letGo (wpAny_pure ?_))
  refine wpAny_bind (wpAny_bind (wpAny_onRaise ?_))
  show wpAny _ _ (Builtin.SmallTypes.nextOf (.ref i2) >>= _) _ _ _
  refine wpAny_bind (D2.done _ _ _ (fr2 _ _ _ h2 fun o e=>hs₃.extBut _ _ F.TOi2.symm (hs₂.extBut _ _ F.i12.symm (hs₁.extBut _ _ F.i2z e))) fun h₄ e hs₄ he=>?_)
  obtain ⟨oe,hoe,hce⟩:=he
  replace hs₄ : Heap.ExtBut i2 h₃ h₄:=hs₄
  have hz₄ : IsZip h₄ z TI TO .ellipsis:=hs₄ _ _ F.i2z.symm (hs₃.extBut _ _ F.TOz.symm (hs₂.extBut _ _ F.i1z.symm hz₁))
  have hez : e ≠ z:=fun x=>by subst x; rw [hz₄] at hoe; cases hoe; simp at hce
  exact wpAny_setField_rec hz₄ (by simp) fun h₅ _ hs₅=>hE h₅ _ e (fun c o c1 c2 c3 c4 x=>hs₅.extBut _ _ c1 (hs₄ _ _ c4 (hs₃.extBut _ _ c2 (hs₂.extBut _ _ c3 (hs₁.extBut _ _ c1 x))))) ⟨oe,hs₅.extBut _ _ hez hoe,hce⟩
theorem J2I {it : Addr} {l : List Nat} {t : Tok} {nm : String} (hh : A.handled = none) (hn : nm = "str_ascii_iterator" ∨ nm = "str_iterator") :
  Draws prog w A it [it] l.length (fun i v=>∃ c u,l[i]? = some c ∧ v = .str ⟨#[c]⟩ u) (fun i h=>h.IsStrIter it nm ⟨l.toArray⟩ t i):=by
 rcases hn with rfl | rfl
 ·have D:=Draws.strAscii (prog:=prog) (w:=w) hh it ⟨l.toArray⟩ t
  simpa using D
 ·have D:=Draws.strWide (prog:=prog) (w:=w) hh it ⟨l.toArray⟩ t
  simpa using D
end
theorem Inv.turnedN {X : Cx} {pins : List (Addr × Obj)} {σ : St} {H : Hp} {s : Shared} {h' : Heap} {t' : Nat} {ch : List Addr} (I : Inv X pins σ H s) (k : ∀ b o,b ∉ ch → s.heap.get? b = some o → h'.get? b = some o) (hf : ∀ b ∈ ch,FpOk X pins H b) :
  Inv X pins σ H { s with heap:=h',toks:=t' }:=by
 have nch : ∀ b u,H b = some u → b ∉ ch:=fun b u e z=>by rw [(hf b z).1] at e; cases e
 refine I.step (g':=s.gens) (d':=s.drawn) (ch:=ch) (fun b hb=>?_) (fun b o _ _ hc e _=>k b o hc e) (fun b o _ _ hc e _=>⟨o.slots,k b o hc e⟩) (fun _ _ _ _ n=>n)
  (fun b o hc e=>⟨o,k b o hc e⟩) (fun _ _ e=>e) (fun _ _ _ e=>e) (fun b ps e=>⟨#[],by rw [e]; simp⟩) (fun m hm=>?_) (fun b u e=>?_) I.bare
 ·obtain ⟨f0,f1,f2,f3,f4,f5⟩:=hf b hb
  exact ⟨f3,f1,f4,f5⟩
 ·obtain ⟨o,es,ep,ho,r⟩:=hm
  exact ⟨o,es,ep,k _ o (fun z=>(hf _ z).2.1 rfl) ho,r⟩
 ·refine (I.hok b u e).stay (fun c v hc q=>k c v ?_ q) (fun _ q=>q) fun _ _ q=>q
  rcases hc with z | z
  ·rw [z]; exact nch b u e
  ·exact nch c _ z
noncomputable def Itz (l1 l2 : List Nat) : It :=
 ⟨fun i _=>i < l1.length ∧ i < l2.length,fun i H x H'=>∃ p c d,H p = none ∧ l1[i]? = some c ∧ l2[i]? = some d ∧ x = .ref p ∧ H' = upd H p (.tup [T [c],T [d]]),fun i _=>i = l1.length ∨ (i < l1.length ∧ i = l2.length)⟩
theorem J8v {P : Program} {w : World} {K : PySem.W.Frag} {es : List Expr} {k : Nat} {pos : Pos} {z TI TO i1 i2 : Addr} {l1 l2 : List Nat} {t1 t2 : Tok} {n1 n2 : String} (F : J3D z TI TO i1 i2)
  (hn1 : n1 = "str_ascii_iterator" ∨ n1 = "str_iterator") (hn2 : n2 = "str_ascii_iterator" ∨ n2 = "str_iterator") :
  Turn P w K (.Tuple es k pos) (Itz l1 l2) [z,TI,TO,i1,i2] z (fun i h=>IsZip h z TI TO .none ∧ IsPair h TI (.ref i1) (.ref i2) ∧ (∃ a b,IsPair h TO a b) ∧ h.IsStrIter i1 n1 ⟨l1.toArray⟩ t1 i ∧ h.IsStrIter i2 n2 ⟨l2.toArray⟩ t2 i) where
 mem:=by simp
 obj:=fun i h st b hb=>by
  obtain ⟨hz,hTI,⟨a,b',hTO⟩,⟨o1,e1,c1,d1⟩,o2,e2,c2,d2⟩:=st
  simp only [List.mem_cons,List.not_mem_nil,or_false] at hb
  rcases hb with rfl | rfl | rfl | rfl | rfl
  ·exact ⟨_,hz,fun v q=>by cases q⟩
  ·exact ⟨_,hTI,fun v q=>by cases q⟩
  ·exact ⟨_,hTO,fun v q=>by cases q⟩
  ·exact ⟨o1,e1,fun v q=>by rw [d1] at q; cases q⟩
  ·exact ⟨o2,e2,fun v q=>by rw [d2] at q; cases q⟩
 keep:=fun i h h' st kk=>by
  obtain ⟨hz,hTI,⟨a,b',hTO⟩,⟨o1,e1,r1⟩,o2,e2,r2⟩:=st
  exact ⟨kk z (by simp) _ hz,kk TI (by simp) _ hTI,⟨a,b',kk TO (by simp) _ hTO⟩,⟨o1,kk i1 (by simp) _ e1,r1⟩,o2,kk i2 (by simp) _ e2,r2⟩
 item:=by
  intro X hP hw hK hc i pins s σ H E I hf st hg
  subst hP hw hK
  obtain ⟨hz,hTI,⟨a,b,hTO⟩,h1,h2⟩:=st
  have hh : X.A.in1.handled = none:=I.ok.hd hc
  have hT : s.TypeIs (.ref z) "zip":=⟨_,hz,rfl⟩
  have D1:=J2I (prog:=X.prog) (w:=X.w) (it:=i1) (l:=l1) (t:=t1) hh hn1
  have D2:=J2I (prog:=X.prog) (w:=X.w) (it:=i2) (l:=l2) (t:=t2) hh hn2
  unfold pyNext
  refine wpAny_bind (wpAny_attempt (wpAny_callSpecial?_slot (name:=Str.ofString "__next__") hT PySem.F.slot_zip_next (wpAny_call_entry PySem.F.slot_zip_next hT PySem.F.entry_zip_next
   (J8q F D1 D2 hz hTI hTO h1 h2 hg.1 hg.2 fun x y h' tk hx hy a1 a2 a3 a4 a5 a6 kp=>wpAny_pure ?_) (PySem.F.args_zip_next_1 _))))
  obtain ⟨c,u,hc1,rfl⟩:=hx
  obtain ⟨d,v,hd1,rfl⟩:=hy
  refine ⟨_,rfl,?_⟩
  refine wpAny_letOwnedTupleGo_zip (s:={ s with heap:=h',toks:=tk }) a1 fun h2' hz' hs'=>?_
  replace hs' : Heap.SameBut z h' h2':=hs'
  have zlt : z < s.heap.objs.size:=Heap.lt_size hz
  have far : ∀ q ∈ [z,TI,TO,i1,i2],q < s.heap.objs.size:=by
   intro q hq
   obtain ⟨o1,e1,_⟩:=h1
   obtain ⟨o2,e2,_⟩:=h2
   simp only [List.mem_cons,List.not_mem_nil,or_false] at hq
   rcases hq with rfl | rfl | rfl | rfl | rfl
   ·exact zlt
   ·exact Heap.lt_size hTI
   ·exact Heap.lt_size hTO
   ·exact Heap.lt_size e1
   ·exact Heap.lt_size e2
  have fz:=hf z (by simp)
  have fTO:=hf TO (by simp)
  have f1:=hf i1 (by simp)
  have f2:=hf i2 (by simp)
  have I1 : Inv X pins σ H { s with heap:=s.heap.push { cls:=.type "tuple",data:=.seq #[.str ⟨#[c]⟩ u,.str ⟨#[d]⟩ v] },toks:=tk }:=I.kept fun b o e=>Heap.get?_push_of_some _ e
  have keepAll : ∀ b o,b ≠ z → b ≠ TO → b ≠ i1 → b ≠ i2 → s.heap.get? b = some o → h2'.get? b = some o:=fun b o b1 b2 b3 b4 e=>hs'.extBut _ _ b1 (kp b o b1 b2 b3 b4 e)
  have hnew : H s.heap.objs.size = none:=I.hok.fresh (Nat.le_refl _)
  have Tz : s.heap.objs.size ≠ z:=Nat.ne_of_gt zlt
  have ht2 : h2'.get? s.heap.objs.size = some { cls:=.type "tuple",data:=.seq #[.str ⟨#[c]⟩ u,.str ⟨#[d]⟩ v] }:=hs'.extBut _ _ Tz a5
  have I2 : Inv X pins σ (upd H s.heap.objs.size (.tup [T [c],T [d]])) { s with heap:=h2',toks:=tk }:=by
   have there : ∀ q ∈ [z,TO,i1,i2],∃ o',h2'.get? q = some o':=by
    intro q hq
    obtain ⟨o1,e1,_⟩:=a3
    obtain ⟨o2,e2,_⟩:=a4
    simp only [List.mem_cons,List.not_mem_nil,or_false] at hq
    rcases hq with rfl | rfl | rfl | rfl
    ·exact ⟨_,hz'⟩
    ·exact ⟨_,hs'.extBut _ _ F.TOz a2⟩
    ·exact ⟨_,hs'.extBut _ _ F.i1z e1⟩
    ·exact ⟨_,hs'.extBut _ _ F.i2z e2⟩
   have nch : ∀ b,b ∉ [z,TO,i1,i2] → b ≠ z ∧ b ≠ TO ∧ b ≠ i1 ∧ b ≠ i2:=fun b hb=>by
    simp only [List.mem_cons,List.not_mem_nil,or_false,not_or] at hb
    exact hb
   have trk : ∀ b u',H b = some u' → b ≠ z ∧ b ≠ TO ∧ b ≠ i1 ∧ b ≠ i2:=fun b u' e =>
    ⟨fun q=>(by rw [q,fz.1] at e; cases e),fun q=>(by rw [q,fTO.1] at e; cases e),fun q=>(by rw [q,f1.1] at e; cases e),fun q=>(by rw [q,f2.1] at e; cases e)⟩
   have okH : HOk X.prog X.w (upd H s.heap.objs.size (.tup [T [c],T [d]])) h2':=fun b u' e=>by
    by_cases hb : b = s.heap.objs.size
    ·subst hb
     rw [Jd] at e
     cases e
     exact ⟨(show 2 ≤ sizeLine by decide),[.str ⟨#[c]⟩ u,.str ⟨#[d]⟩ v],.cons ⟨u,rfl⟩ (.cons ⟨v,rfl⟩ .nil),⟨_,ht2,rfl,_,rfl⟩⟩
    ·rw [Jq hb] at e
     have hx:=I.hok b u' e
     refine hx.stay (fun q o hq e2=>?_) (fun q e2=>?_) (fun q xs e2=>?_)
     ·rcases hq with rfl | hq
      ·obtain ⟨b1,b2,b3,b4⟩:=trk q _ e
       exact keepAll q o b1 b2 b3 b4 e2
      ·obtain ⟨b1,b2,b3,b4⟩:=trk q _ hq
       exact keepAll q o b1 b2 b3 b4 e2
     ·rw [Jq (Jo e2 hnew)]; exact e2
     ·rw [Jq (Jo e2 hnew)]; exact e2
   refine I.step (g':=s.gens) (d':=s.drawn) (ch:=[z,TO,i1,i2]) (fun b hb=>?_) (fun b o _ _ hcb e n=>?_) (fun b o _ _ hcb e n=>?_) (fun b o hcb e n=>?_) (fun b o hcb e=>?_) (fun b xs e=>?_) (fun b o u' e=>?_) (fun b ps e=>?_) (fun m hm=>?_) okH I.bare
   ·simp only [List.mem_cons,List.not_mem_nil,or_false] at hb
    rcases hb with rfl | rfl | rfl | rfl
    ·exact ⟨fz.2.2.2.1,fz.2.1,fz.2.2.2.2.1,fz.2.2.2.2.2⟩
    ·exact ⟨fTO.2.2.2.1,fTO.2.1,fTO.2.2.2.2.1,fTO.2.2.2.2.2⟩
    ·exact ⟨f1.2.2.2.1,f1.2.1,f1.2.2.2.2.1,f1.2.2.2.2.2⟩
    ·exact ⟨f2.2.2.2.1,f2.2.1,f2.2.2.2.2.1,f2.2.2.2.2.2⟩
   ·obtain ⟨b1,b2,b3,b4⟩:=nch b hcb
    exact keepAll b o b1 b2 b3 b4 e
   ·obtain ⟨b1,b2,b3,b4⟩:=nch b hcb
    exact ⟨o.slots,keepAll b o b1 b2 b3 b4 e⟩
   ·rw [Jq (Nat.ne_of_lt (Heap.lt_size e))]; exact n
   ·obtain ⟨b1,b2,b3,b4⟩:=nch b hcb
    exact ⟨o,keepAll b o b1 b2 b3 b4 e⟩
   ·rw [Jq (Jo e hnew)]; exact e
   ·rw [Jq (Jo e hnew)]; exact e
   ·exact ⟨#[],by rw [Jq (Jo e hnew),e]; simp⟩
   ·obtain ⟨o,es',ep,ho,r⟩:=hm
    exact ⟨o,es',ep,keepAll _ o fz.2.1.symm fTO.2.1.symm f1.2.1.symm f2.2.1.symm ho,r⟩
  refine ⟨.ref s.heap.objs.size,_,I2,rfl,⟨_,c,d,hnew,hc1,hd1,rfl,rfl⟩,⟨hz',hs'.extBut _ _ F.TIz (kp _ _ F.TIz F.TITO F.TIi1 F.TIi2 hTI),⟨_,_,hs'.extBut _ _ F.TOz a2⟩,?_,?_⟩,fun b hb=>?_⟩
  ·obtain ⟨o,e,r⟩:=a3; exact ⟨o,hs'.extBut _ _ F.i1z e,r⟩
  ·obtain ⟨o,e,r⟩:=a4; exact ⟨o,hs'.extBut _ _ F.i2z e,r⟩
  ·rw [Jq (Nat.ne_of_lt (far b hb))]; exact (hf b hb).1
 done:=by
  intro X hP hw hK hc i pins s σ H E I hf st hg
  subst hP hw hK
  obtain ⟨hz,hTI,⟨a,b,hTO⟩,h1,h2⟩:=st
  have hh : X.A.in1.handled = none:=I.ok.hd hc
  have hT : s.TypeIs (.ref z) "zip":=⟨_,hz,rfl⟩
  have D1:=J2I (prog:=X.prog) (w:=X.w) (it:=i1) (l:=l1) (t:=t1) hh hn1
  have D2:=J2I (prog:=X.prog) (w:=X.w) (it:=i2) (l:=l2) (t:=t2) hh hn2
  unfold pyNext
  refine wpAny_bind (wpAny_attempt (wpAny_callSpecial?_slot (name:=Str.ofString "__next__") hT PySem.F.slot_zip_next (wpAny_call_entry PySem.F.slot_zip_next hT PySem.F.entry_zip_next
   (J90 F D1 D2 hz hTI hTO h1 h2 hg fun h' tk e kp he=>?_) (PySem.F.args_zip_next_1 _))))
  obtain ⟨o,ho,hc'⟩:=he
  refine wpAny_bind (wpAny_isInstance (T:="StopIteration") (b:=true) ⟨o,ho,hc'⟩ isSubtype_stop ?_)
  refine wpAny_pure ⟨rfl,?_⟩
  refine I.turnedN (ch:=[z,TO,i1,i2]) (fun b o hb q=>?_) fun b hb=>hf b ?_
  ·simp only [List.mem_cons,List.not_mem_nil,or_false,not_or] at hb
   exact kp b o hb.1 hb.2.1 hb.2.2.1 hb.2.2.2 q
  ·simp only [List.mem_cons,List.not_mem_nil,or_false] at hb ⊢
   rcases hb with q | q | q | q
   ·exact .inl q
   ·exact .inr (.inr (.inl q))
   ·exact .inr (.inr (.inr (.inl q)))
   ·exact .inr (.inr (.inr (.inr q)))
 self:=fun _ _ _ _ _ st h=>wpAny_pyIter_zip st.1 h
noncomputable def J17 (l : List Nat) : String:=if (⟨l.toArray⟩ : Str).cps.all (· < 128) = true then "str_ascii_iterator" else "str_iterator"
theorem J4z (l : List Nat) : J17 l = "str_ascii_iterator" ∨ J17 l = "str_iterator":=by
 unfold J17; split
 ·exact .inl rfl
 ·exact .inr rfl
theorem J6p {prog : Program} {w : World} {A : Around} {E : Value → Shared → Prop} {hp : Heap} {g : Array GenState} {d : Drawn} {tk : Nat} {os : OsState} {l : List Nat} {t : Tok} {Q : Value → Shared → Prop}
  (h : Q (.ref hp.objs.size) ⟨hp.push { cls:=.type (J17 l),data:=.fields #[.str ⟨l.toArray⟩ t,.int 0 0] },g,d,tk,os⟩) : wpAny (model prog w) A (pyIter (.str ⟨l.toArray⟩ t)) Q E ⟨hp,g,d,tk,os⟩:=by
 cases ha : (⟨l.toArray⟩ : Str).cps.all (· < 128) with
 | true =>
  have e : J17 l = "str_ascii_iterator":=by unfold J17; rw [if_pos ha]
  rw [e] at h
  exact wpAny_pyIter_ascii (s:=⟨hp,g,d,tk,os⟩) ha h
 | false =>
  have e : J17 l = "str_iterator":=by unfold J17; rw [if_neg (by rw [ha]; exact Bool.false_ne_true)]
  rw [e] at h
  exact wpAny_pyIter_wide (s:=⟨hp,g,d,tk,os⟩) ha h
noncomputable abbrev J7I (h : Heap) (l1 : List Nat) (t1 : Tok) : Heap:=h.push { cls:=.type (J17 l1),data:=.fields #[.str ⟨l1.toArray⟩ t1,.int 0 0] }
noncomputable abbrev J80 (h : Heap) (l1 l2 : List Nat) (t1 t2 : Tok) : Heap:=(J7I h l1 t1).push { cls:=.type (J17 l2),data:=.fields #[.str ⟨l2.toArray⟩ t2,.int 0 0] }
noncomputable abbrev J7J (h : Heap) (l1 l2 : List Nat) (t1 t2 : Tok) : Heap:=(J80 h l1 l2 t1 t2).push { cls:=.type "tuple",data:=.seq #[.ref h.objs.size,.ref (J7I h l1 t1).objs.size] }
noncomputable abbrev J7F (h : Heap) (l1 l2 : List Nat) (t1 t2 : Tok) : Heap:=(J7J h l1 l2 t1 t2).push { cls:=.type "tuple",data:=.seq #[.none,.none] }
noncomputable abbrev J4y (h : Heap) (l1 l2 : List Nat) (t1 t2 : Tok) : Heap:=(J7F h l1 l2 t1 t2).push { cls:=.type "zip",data:=.fields #[.none,.bool false,.bool false,.ref (J80 h l1 l2 t1 t2).objs.size,.ref (J7J h l1 l2 t1 t2).objs.size] }
theorem J7n (l1 l2 : List Nat) (t1 t2 : Tok) :
  Meets (Builtin.«zip.__new__» ⟨[.type "zip",.str ⟨l1.toArray⟩ t1,.str ⟨l2.toArray⟩ t2],[]⟩) (fun _ R s=>R (.ok (.ret (.ref (J7F s.heap l1 l2 t1 t2).objs.size))) { s with heap:=J4y s.heap l1 l2 t1 t2 }) :=
 .of_wp fun prog w A R s h=>by
  obtain ⟨hp,g,d,tk,os⟩:=s
  have hsub:=sub_zip
  wp_walk using J6p (l:=l1) (t:=t1),J6p (l:=l2) (t:=t2)
  exact ⟨_,rfl,h⟩
theorem J8u {prog : Program} {w : World} {A : Around} {E : Value → Shared → Prop} {s : Shared} {l1 l2 : List Nat} {t1 t2 : Tok} {Q : Value → Shared → Prop}
  (h : ∀ h',IsZip h' (s.heap.objs.size + 4) (s.heap.objs.size + 2) (s.heap.objs.size + 3) .none → IsPair h' (s.heap.objs.size + 2) (.ref s.heap.objs.size) (.ref (s.heap.objs.size + 1)) →
   IsPair h' (s.heap.objs.size + 3) .none .none → h'.IsStrIter s.heap.objs.size (J17 l1) ⟨l1.toArray⟩ t1 0 → h'.IsStrIter (s.heap.objs.size + 1) (J17 l2) ⟨l2.toArray⟩ t2 0 →
   (∀ c o,s.heap.get? c = some o → h'.get? c = some o) → Q (.ref (s.heap.objs.size + 4)) { s with heap:=h' }) :
  wpAny (model prog w) A (call (.type "zip") [.str ⟨l1.toArray⟩ t1,.str ⟨l2.toArray⟩ t2]) Q E s:=by
 refine callType_new F.called_zip (by decide) (F.typeCall_zip_2 _ _) (F.newCall_zip_2 _ _) (fun obj=>F.args_object_init_3 obj _ _) F.entry_zip_new (J7n l1 l2 t1 t2) ?_
 have z1 : (J7I s.heap l1 t1).objs.size = s.heap.objs.size + 1:=Heap.size_push ..
 have z2 : (J80 s.heap l1 l2 t1 t2).objs.size = s.heap.objs.size + 2:=by rw [Heap.size_push,z1]
 have z3 : (J7J s.heap l1 l2 t1 t2).objs.size = s.heap.objs.size + 3:=by rw [Heap.size_push,z2]
 have z4 : (J7F s.heap l1 l2 t1 t2).objs.size = s.heap.objs.size + 4:=by rw [Heap.size_push,z3]
 have g5 : (J4y s.heap l1 l2 t1 t2).get? (J7F s.heap l1 l2 t1 t2).objs.size = some _:=Heap.get?_push_size _ rfl
 have g4 : (J4y s.heap l1 l2 t1 t2).get? (J7J s.heap l1 l2 t1 t2).objs.size = some _:=Heap.get?_push_of_some _ (Heap.get?_push_size _ rfl)
 have g3 : (J4y s.heap l1 l2 t1 t2).get? (J80 s.heap l1 l2 t1 t2).objs.size = some _:=Heap.get?_push_of_some _ (Heap.get?_push_of_some _ (Heap.get?_push_size _ rfl))
 have g2 : (J4y s.heap l1 l2 t1 t2).get? (J7I s.heap l1 t1).objs.size = some _:=Heap.get?_push_of_some _ (Heap.get?_push_of_some _ (Heap.get?_push_of_some _ (Heap.get?_push_size _ rfl)))
 have g1 : (J4y s.heap l1 l2 t1 t2).get? s.heap.objs.size = some _:=Heap.get?_push_of_some _ (Heap.get?_push_of_some _ (Heap.get?_push_of_some _ (Heap.get?_push_of_some _ (Heap.get?_push_size _ rfl))))
 show _ ∧ _
 rw [z2,z3,z4] at g5
 rw [z1,z2] at g3
 rw [z3] at g4
 rw [z1] at g2
 rw [z4]
 exact ⟨⟨_,g5,rfl⟩,h _ g5 g3 g4 ⟨_,g1,rfl,rfl⟩ ⟨_,g2,rfl,rfl⟩ fun c o x =>
  Heap.get?_push_of_some _ (Heap.get?_push_of_some _ (Heap.get?_push_of_some _ (Heap.get?_push_of_some _ (Heap.get?_push_of_some _ x))))⟩
section
variable {X : Cx} {es : List Expr} {k : Nat} {tpos : Pos}
noncomputable def JbC (ta : TA) : TI:=fun σ H R=>ta σ H fun vs H1=>∃ l1 l2,vs = [T l1,T l2] ∧ R (Itz l1 l2) H1
theorem Jak {a b : Expr} {ta : TA} {p pos : Pos} (hg : Gl X "zip") (hm : X.mg "zip" = none) (ha : PA X [a,b] ta) (hv : bootBuiltins "zip" = some (.type "zip"):=by decide +kernel) (hs : starEach [a,b] X.env = [(false,eval a X.env),(false,eval b X.env)]:=by rfl) (hs2 : starEach [b] X.env = [(false,eval b X.env)]:=by rfl) :
  PI X (.Tuple es k tpos) (.Call (.Name "zip" p) [a,b] [] pos) (JbC ta):=by
 intro pins s σ H R I h
 refine Call_ (J42 I hg hm hv (PyProof.Rows.callWith_type1 (thn (ha pos pins s σ H _ I h) fun us s1 ⟨vs,H1,I1,r1,q1⟩=>?_) (by rw [hs,hs2]) (by rw [hs2]; rfl)))
 obtain ⟨l1,l2,e,q⟩:=q1
 subst e
 obtain ⟨u,v,rfl,ru,rv⟩:=r1.two
 obtain ⟨t1,rfl⟩:=ru
 obtain ⟨t2,rfl⟩:=rv
 refine J8u fun h' a1 a2 a3 a4 a5 kp=>?_
 have far : J3D (s1.heap.objs.size + 4) (s1.heap.objs.size + 2) (s1.heap.objs.size + 3) s1.heap.objs.size (s1.heap.objs.size + 1):=J7h _
 have I2 : Inv X pins σ H1 { s1 with heap:=h' }:=I1.kept (t':=s1.toks) kp
 refine wpAny_pyIter_zip a1 ⟨s1.heap.objs.size + 4,[s1.heap.objs.size + 4,s1.heap.objs.size + 2,s1.heap.objs.size + 3,s1.heap.objs.size,s1.heap.objs.size + 1],_,_,H1,rfl,I2,J8v (t1:=t1) (t2:=t2) far (J4z l1) (J4z l2),⟨a1,a2,⟨_,_,a3⟩,a4,a5⟩,fun b hb=>?_,q⟩
 have hb' : s1.heap.objs.size ≤ b:=by
  simp only [List.mem_cons,List.not_mem_nil,or_false] at hb
  rcases hb with rfl | rfl | rfl | rfl | rfl
  ·exact Nat.le_add_right _ _
  ·exact Nat.le_add_right _ _
  ·exact Nat.le_add_right _ _
  ·exact Nat.le_refl _
  ·exact Nat.le_add_right _ _
 exact I1.fpOk hb' (I1.hok.fresh hb')
end
end L2
set_option linter.all false
set_option maxRecDepth 100000
set_option maxHeartbeats 4000000
namespace L2
open PySem PySem.Spec PyProof.Rows
theorem J8x {K : PySem.W.Frag} {H : Hp} {l1 l2 : List Nat} {rest : St} {te : TE} {Q : VK} (f : Nat → Nat → V) (hx : l1.length ≤ 1000000)
  (he : ∀ c d H',Same H H' → ∀ R : VK,(∀ H'',Same H' H'' → R (f c d) H'') → te (some (T [c]) :: some (T [d]) :: rest) H' R)
  (hQ : ∀ D H',H D = none → Same H H' → H' D = some (.lst ((l1.zip l2).map fun p=>f p.1 p.2)) → Q (.ref D) H') :
  J7Q (Itz l1 l2) H (none :: none :: rest) (gTup K 2 (J6r (J2d 0) (J6r (J2d 1) gNil))) tYes te Q:=by
 intro D hD
 refine ⟨fun i m σ1 ys H'=>m = l1.length - i ∧ i ≤ l1.length ∧ i ≤ l2.length ∧ (∃ a b,σ1 = a :: b :: rest) ∧ ys = ((l1.zip l2).take i).map (fun p=>f p.1 p.2) ∧ H' D = some (.lst ys) ∧ Same H H',⟨l1.length,by simp,Nat.zero_le _,Nat.zero_le _,⟨_,_,rfl⟩,rfl,Jd,Jz hD _⟩,?_⟩
 rintro i m σ1 ys H' ⟨rfl,hi1,hi2,⟨a,b,rfl⟩,rfl,hDD,hs⟩
 by_cases hlt : i < l1.length ∧ i < l2.length
 ·refine .inr ⟨hlt,fun x H'' hy=>?_⟩
  obtain ⟨p,c,d,hp,hc,hd,rfl,rfl⟩:=hy
  refine ⟨p,[T [c],T [d]],rfl,SqT.of Jd,rfl,T [c],[T [d]],rfl,T [d],[],rfl,rfl,?_⟩
  unfold tYes
  dsimp only
  refine iteT ?_
  have pD : D ≠ p:=fun z=>by subst z; rw [hp] at hDD; cases hDD
  have s1 : Same H (upd H' p (.tup [T [c],T [d]])):=hs.trans (Jz hp _)
  have hz : (l1.zip l2)[i]? = some (c,d):=by rw [List.getElem?_zip_eq_some]; exact ⟨hc,hd⟩
  refine he c d _ s1 _ fun H4 s4=>⟨s4 _ _ (by rw [Jq pD]; exact hDD),?_,l1.length - (i + 1),by omega,rfl,hlt.1,hlt.2,⟨_,_,rfl⟩,?_,Jd,(s1.trans s4).upd hD⟩
  ·rw [List.length_map,List.length_take]
   have : (1000001 : Nat) ≤ sizeLine:=by decide
   omega
  ·rw [List.take_add_one,hz,List.map_append]
   rfl
 ·have e : i = l1.length ∨ (i < l1.length ∧ i = l2.length):=by omega
  refine .inl ⟨e,hQ D H' hD hs ?_⟩
  rw [hDD,List.take_of_length_le]
  rw [List.length_zip]
  omega
end L2
set_option linter.all false
set_option maxRecDepth 100000
set_option maxHeartbeats 4000000
namespace L2
open PySem PySem.Spec PyProof.Rows
noncomputable def GF (K : PySem.W.Frag) (mg : Str → Option Value) (x : Str) (st : Stmt) : Prop:=∃ f fd,Fun K x x st f fd ∧ mg x = some (.ref f)
noncomputable def FnG (P : Program) (w : World) (K : PySem.W.Frag) (mg : Str → Option Value) (base : Heap) (x : Str) (k : Nat) (ps : List Str) (sp : Sp) : Prop :=
 ∃ f fd,FnOk P w K mg base CX0 k f fd ps sp ∧ mg x = some (.ref f) ∧ PySem.W.keepIn K (.ref f) = true ∧ J2g K fd ps []
noncomputable def MF (K : PySem.W.Frag) (C : Addr) (m qual : Str) (st : Stmt) : Prop:=∃ f fd,Fun K m qual st f fd ∧ Meth K C m f
noncomputable def MtG (P : Program) (w : World) (K : PySem.W.Frag) (mg : Str → Option Value) (base : Heap) (C : Addr) (m : Str) (k : Nat) (ps : List Str) (sp : Sp) : Prop :=
 ∃ f fd,FnOk P w K mg base CX0 k f fd ps sp ∧ Cls K C ∧ Meth K C m f ∧ J2g K fd ps []
structure CF (K : PySem.W.Frag) (mg : Str → Option Value) (x : Str) (C : Addr) : Prop where
 cl : Cls K C
 mg : mg x = some (.ref C)
 makes : PySem.W.makesIn K C = true
 kp : PySem.W.keepIn K (.ref C) = true
noncomputable def MkG (P : Program) (w : World) (K : PySem.W.Frag) (mg : Str → Option Value) (base : Heap) (C : Addr) (x : Str) (k : Nat) (ps : List Str) (sp : Sp) : Prop :=
 ∃ f fd,FnOk P w K mg base CX0 k f fd ps sp ∧ Mk K C f ∧ mg x = some (.ref C) ∧ J2g K fd ps []
section
variable {P : Program} {w : World} {K : PySem.W.Frag} {mg : Str → Option Value} {base : Heap}
theorem MtG.mono {C : Addr} {m : Str} {j k : Nat} {ps : List Str} {sp : Sp} (G : MtG P w K mg base C m j ps sp) (h : j ≤ k) : MtG P w K mg base C m k ps sp:=by
 obtain ⟨f,fd,a,b⟩:=G
 exact ⟨f,fd,a.mono h,b⟩
theorem MtG.imp {C : Addr} {m : Str} {k : Nat} {ps : List Str} {sp sp' : Sp} (G : MtG P w K mg base C m k ps sp) (h : ∀ vs H Q E,sp' vs H Q E → sp vs H Q E) : MtG P w K mg base C m k ps sp':=by
 obtain ⟨f,fd,a,b⟩:=G
 exact ⟨f,fd,a.imp h,b⟩
theorem GF.g {x : Str} {st : Stmt} {N ps : List Str} {k : Nat} {sp : Sp} (F : GF K mg x st) (S : Jl N ps (J3 st))
  (bnd : ∀ (kV doc pm : Value) (an : Option Addr) (cdv ct : Value) (us : List Value),us.length = ps.length → bindArgs (PySem.W.fnOf x x (Ji st) (Jg st) (J3 st) .none kV doc pm an cdv ct) ⟨us,[]⟩ = pure (ps.zip us))
  (len : ∀ vs H Q E,sp vs H Q E → vs.length = ps.length)
  (hbody : ∀ (f : Addr) (cdv : Value) (A : Around) (outer : List Env) (s : Shared) (H : Hp) (vs : List V) (Q : VK) (E : XK),Room k (A.deeper (envOfC x (J3 st) s.heap.objs.size f cdv)) → sp vs H Q E →
   ∃ t,PSs (cxOf CX0 P w K mg base N x (J3 st) f cdv A outer s H E).nox (Jg st) t ∧ t { nx:=fun _ H'=>Q .non H',rt:=Q } (start N vs) H) : FnG P w K mg base x (k + 1) ps sp:=by
 obtain ⟨f,fd,F,m⟩:=F
 exact ⟨f,fd,F.ok S len fun cdv A outer s H vs Q E hr h=>hbody f cdv A outer s H vs Q E hr h,m,F.kp,F.binds bnd⟩
theorem MF.g {C : Addr} {m qual : Str} {st : Stmt} {N ps : List Str} {k : Nat} {sp : Sp} (F : MF K C m qual st) (cl : Cls K C) (S : Jl N ps (J3 st))
  (bnd : ∀ (kV doc pm : Value) (an : Option Addr) (cdv ct : Value) (us : List Value),us.length = ps.length → bindArgs (PySem.W.fnOf m qual (Ji st) (Jg st) (J3 st) .none kV doc pm an cdv ct) ⟨us,[]⟩ = pure (ps.zip us))
  (len : ∀ vs H Q E,sp vs H Q E → vs.length = ps.length)
  (hbody : ∀ (f : Addr) (cdv : Value) (A : Around) (outer : List Env) (s : Shared) (H : Hp) (vs : List V) (Q : VK) (E : XK),Room k (A.deeper (envOfC qual (J3 st) s.heap.objs.size f cdv)) → sp vs H Q E →
   ∃ t,PSs (cxOf CX0 P w K mg base N qual (J3 st) f cdv A outer s H E).nox (Jg st) t ∧ t { nx:=fun _ H'=>Q .non H',rt:=Q } (start N vs) H) : MtG P w K mg base C m (k + 1) ps sp:=by
 obtain ⟨f,fd,F,m⟩:=F
 exact ⟨f,fd,F.ok S len fun cdv A outer s H vs Q E hr h=>hbody f cdv A outer s H vs Q E hr h,cl,m,F.binds bnd⟩
theorem CF.g {C : Addr} {x : Str} {k : Nat} {ps : List Str} {sp : Sp} (c : CF K mg x C) (G : MtG P w K mg base C "__init__" k ps sp) : MkG P w K mg base C x k ps sp:=by
 obtain ⟨f,fd,a,_,m,b⟩:=G
 exact ⟨f,fd,a,⟨c.makes,m.at_,m.fn,c.kp⟩,c.mg,b⟩
end
section
variable {X : Cx} {x m : Str} {k : Nat} {ps : List Str} {sp : Sp} {C : Addr} {p pos apos : Pos} {e o : Expr} {es : List Expr} {t : TA} {to : TE}
theorem JD (G : FnG X.prog X.w X.K X.mg X.base x k ps sp) (hr : Room k X.A) (ha : PA X (e :: es) t) (hg : Gl X x:=by rfl) (hdb : (x == ("__debug__" : Str)) = false:=by decide)
  (he : starEach (e :: es) X.env = (false,eval e X.env) :: starEach es X.env:=by rfl) (hpl : (backTo pos (starEach es X.env)).any (·.1) = false:=by rfl) : PE X (.Call (.Name x p) (e :: es) [] pos) (J7X sp [] E0 t):=by
 obtain ⟨f,fd,a,b,c,d⟩:=G
 exact J7N a hr hg b c d .nil J7O ha hdb he hpl
noncomputable def J9h (P : Program) (w : World) (K : PySem.W.Frag) (mg : Str → Option Value) (base : Heap) (n : Nat) (m : Str) (ta : TE) (t : TA) : TE:=fun σ H Q=>ta σ H fun x H1=>∃ a C dx fs k ps sp,x = .ref a ∧ H1 a = some (.ins C dx fs) ∧ fs.lookup m = none ∧
 MtG P w K mg base C m k ps sp ∧ k ≤ n ∧ t σ H1 fun vs H2=>sp (x :: vs) H2 Q E0
theorem J3O {P : Program} {w : World} {K : PySem.W.Frag} {mg : Str → Option Value} {base : Heap} {n : Nat} {pl : Sem Bool} (hr : Room n X.A) (ho : PE X o to) (ha : PA X (e :: es) t) (hP : X.prog = P) (hw : X.w = w) (hK : X.K = K) (hmg : X.mg = mg) (hbs : X.base = base)
  (hst : starEach (e :: es) X.env = (false,eval e X.env) :: starEach es X.env:=by rfl) (hpl : (backTo pos (starEach es X.env)).any (·.1) = false:=by rfl)
  (ht : eval (.Call (.Attribute o m apos) (e :: es) [] pos) X.env = (do
   let ov ← eval o X.env
   standAt apos.atName
   let (f,first) ← holding [ov] (getMethod ov m pl)
   callWith pos f first (backTo pos (starEach (e :: es) X.env)) (backToKw pos (keywordEach [] X.env))):=by rfl) :
  PE X (.Call (.Attribute o m apos) (e :: es) [] pos) (J9h P w K mg base n m to t):=by
 subst hP hw hK hmg hbs
 intro pins s σ H Q I h
 refine PySem.W.methodCall_KW (pl:=pl) (thn (ho pins s σ H _ I h) fun u s1 ⟨x,H1,I1,rx,a,C,dx,fs,k,ps,sp,ex,ea,l,G,hk,q⟩=>?_) ht
 have hr:=hr.mono hk
 obtain ⟨f,fd,F,c,hm,hb⟩:=G
 subst ex
 obtain rfl : u = Value.ref a:=rx
 refine J3X I1 ea c hm l ?_
 refine PySem.W.callWith_K (first:=[.ref a]) (h₀:=X.base) I.ok.mod.kin hm.kp (thn (ha pos pins s1 σ H1 _ I1 q) fun us s2 ⟨vs,H2,I2,r,q2⟩=>⟨I2.kIn,?_⟩) hst hpl
 exact J77 (us:=.ref a :: us) (vs:=.ref a :: vs) (E:=E0) F hr hb .nil J7O I2 (.cons rfl r) (by rw [List.append_nil]; exact q2)
theorem J2L {P : Program} {w : World} {K : PySem.W.Frag} {mg : Str → Option Value} {base : Heap} {n : Nat} {pl : Sem Bool} (hr : Room n X.A) (ho : PE X o to) (hP : X.prog = P) (hw : X.w = w) (hK : X.K = K) (hmg : X.mg = mg) (hbs : X.base = base)
  (ht : eval (.Call (.Attribute o m apos) [] [] pos) X.env = (do
   let ov ← eval o X.env
   standAt apos.atName
   let (f,first) ← holding [ov] (getMethod ov m pl)
   callWith pos f first (backTo pos (starEach [] X.env)) (backToKw pos (keywordEach [] X.env))):=by rfl) :
  PE X (.Call (.Attribute o m apos) [] [] pos) (J9h P w K mg base n m to tNil):=by
 subst hP hw hK hmg hbs
 intro pins s σ H Q I h
 refine PySem.W.methodCall_KW (pl:=pl) (thn (ho pins s σ H _ I h) fun u s1 ⟨x,H1,I1,rx,a,C,dx,fs,k,ps,sp,ex,ea,l,G,hk,q⟩=>?_) ht
 have hr:=hr.mono hk
 obtain ⟨f,fd,F,c,hm,hb⟩:=G
 subst ex
 obtain rfl : u = Value.ref a:=rx
 refine J3X I1 ea c hm l ?_
 exact PySem.W.callWith_K0 (first:=[.ref a]) I1.kIn hm.kp (J77 (us:=[.ref a]) (vs:=[.ref a]) (E:=E0) F hr hb .nil J7O I1 (.cons rfl .nil) (by rw [List.append_nil]; exact q))
theorem JaA {n : Str} {T : String} (hm : X.mg n = none) (hv : bootBuiltins n = some (.type T)) (hg : Gl X n:=by rfl) (hn : n ≠ "__name__":=by decide) (hd : (n == ("__debug__" : Str)) = false:=by decide) : PE X (.Name n pos) (tC (.ty T)) :=
 Ja6 hg hm hv rfl hn hd
end
section
variable {X : Cx} {K : PySem.W.Frag}
theorem J1l (h : X.K = K) : IxR X (rIxL K):=h ▸ Ja1
theorem J1Y (h : X.K = K) : IxR X (rIxT K):=h ▸ Jb6
theorem J0v (h : X.K = K) : J1h X (.builtin "len") (fun xs H Q=>∃ p ys,xs = [.ref p] ∧ (SqL K H p ys ∨ SqT K H p ys) ∧ Q (.int ys.length) H):=h ▸ J5x
theorem J7s (hc : X.calm = true) (h : X.K = K) : J1h X (.builtin "all") (fun xs H Q=>∃ (D : Addr) (bs : List Bool),xs = [.ref D] ∧ SqL K H D (bs.map V.bl) ∧ Q (.bl (bs.all id)) H):=h ▸ J8D hc
theorem J7b (hc : X.calm = true) (h : X.K = K) : J1h X (.builtin "any") (fun xs H Q=>∃ (D : Addr) (bs : List Bool),xs = [.ref D] ∧ SqL K H D (bs.map V.bl) ∧ Q (.bl (bs.any id)) H):=h ▸ J8G hc
theorem JI {e : Expr} {f : Str} {ta : TE} {pos : Pos} (h : X.K = K) (he : PE X e ta) (hb : attributeBase e f X.env (eval e X.env) = eval e X.env) : PE X (.Attribute e f pos) (tFld K ta f):=h ▸ Jb9 he hb
theorem J3S {tg l : Expr} {tl : TE} (h : X.K = K) (hl : PE X l tl) : PI X tg l (JaC K tl):=h ▸ Jar hl
theorem Jbg {i j : Nat} {x y : Str} {px py pos : Pos} {k : Nat} (h : X.K = K) (hc : X.calm = true) (hN : X.N.Nodup) (hi : X.N[i]? = some x) (hj : X.N[j]? = some y) (hx : Loc X.env.scope x) (hy : Loc X.env.scope y)
  (hfx : X.fn x = true ∨ X.env.scope.names.lookup x = some .local:=by first | exact .inl rfl | exact .inr rfl | assumption) (hfy : X.fn y = true ∨ X.env.scope.names.lookup y = some .local:=by first | exact .inl rfl | exact .inr rfl | assumption) :
  PG X (.Tuple [.Name x px,.Name y py] k pos) (gTup K 2 (J6r (J2d i) (J6r (J2d j) gNil))):=h ▸ J9e hc (J1x (JH hN hi hx hfx) (J1x (JH hN hj hy hfy) J7A))
end
theorem J7l : bootBuiltins "list" = some (.type "list"):=by decide +kernel
theorem J2r : bootBuiltins "max" = some (.builtin "max"):=by decide +kernel
theorem JaY : bootBuiltins "min" = some (.builtin "min"):=by decide +kernel
theorem JaS : bootBuiltins "all" = some (.builtin "all"):=by decide +kernel
theorem Jbf : bootBuiltins "any" = some (.builtin "any"):=by decide +kernel
theorem J0Z : bootBuiltins "isinstance" = some (.builtin "isinstance"):=by decide +kernel
end L2
set_option linter.all false
set_option maxRecDepth 100000
set_option maxHeartbeats 4000000
namespace L2
open PySem PySem.Spec PyProof.Rows
theorem Vals.rel {xs : List V} {us : List Value} (r : Vals xs us) : ∀ (j : Nat) (h1 : j < xs.length) (h2 : j < us.length),RelV xs[j] us[j]:=by
 induction r with
 | nil=>intro j h1; simp at h1
 | cons a t ih =>
  intro j h1 h2
  cases j with
  | zero=>exact a
  | succ j=>exact ih j (by simpa using h1) (by simpa using h2)
noncomputable def eqVs : List V → List V → Bool
 | [],[]=>true
 | x :: xs,y :: ys=>eqV x y && eqVs xs ys
 | _,_=>false
theorem J6w : ∀ {xs ys : List V},xs.length ≠ ys.length → eqVs xs ys = false
 | [],[],h=>absurd rfl h
 | [],_ :: _,_=>rfl
 | _ :: _,[],_=>rfl
 | x :: xs,y :: ys,h=>by
  have : xs.length ≠ ys.length:=fun e=>h (by simp [e])
  rw [eqVs,J6w this,Bool.and_false]
theorem J3I : ∀ {xs ys : List V},xs.length = ys.length → (List.range xs.length).all (fun j=>eqV (xs.getD j .non) (ys.getD j .non)) = eqVs xs ys
 | [],[],_=>rfl
 | [],_ :: _,h=>by simp at h
 | _ :: _,[],h=>by simp at h
 | x :: xs,y :: ys,h=>by
  have h' : xs.length = ys.length:=by simpa using h
  rw [List.length_cons,List.range_succ_eq_map,List.all_cons,List.all_map,eqVs,← J3I h']
  rfl
section
variable {X : Cx} {K : PySem.W.Frag}
theorem J9C {A : Around} {s : Shared} {xs ys : List V} {ia ib : List Value} (ra : Vals xs ia) (rb : Vals ys ib) (fx : xs.all J2H = true) (fy : ys.all J2H = true) :
  ∀ j (h1 : j < ia.toArray.size) (h2 : j < ib.toArray.size),SeqAt.EqAt A s ia.toArray[j] ib.toArray[j] (eqV (xs.getD j .non) (ys.getD j .non)):=by
 intro j h1 h2
 have la:=ra.length
 have lb:=rb.length
 have g1 : j < ia.length:=by simpa using h1
 have g2 : j < ib.length:=by simpa using h2
 have e1 : xs.getD j .non = xs[j]'(by omega):=by rw [List.getD_eq_getElem?_getD,List.getElem?_eq_getElem (by omega)]; rfl
 have e2 : ys.getD j .non = ys[j]'(by omega):=by rw [List.getD_eq_getElem?_getD,List.getElem?_eq_getElem (by omega)]; rfl
 rw [e1,e2]
 have k1:=ra.rel j (by omega) g1
 have k2:=rb.rel j (by omega) g2
 have q:=Jbd (A:=A) (s:=s) k1 k2 (List.all_eq_true.mp fx _ (List.getElem_mem _)) (List.all_eq_true.mp fy _ (List.getElem_mem _))
 simpa using q
end
end L2
set_option linter.all false
set_option maxRecDepth 100000
set_option maxHeartbeats 4000000
namespace L2
open PySem PySem.Spec PyProof.Rows
section
variable {X : Cx} {K : PySem.W.Frag}
end
section
variable {prog : Program} {w : World} {A : Around} {E : Value → Shared → Prop} {s : Shared}
end
section
variable {X : Cx} {K : PySem.W.Frag} {pos : Pos}
end
end L2
set_option linter.all false
set_option maxRecDepth 100000
set_option maxHeartbeats 4000000
namespace L2
open PySem PySem.Spec PyProof.Rows
section
variable {X : Cx} {es : List Expr} {k : Nat} {tpos : Pos}
end
end L2
set_option linter.all false
set_option maxRecDepth 100000
set_option maxHeartbeats 4000000
namespace L2
open PySem PySem.Spec PyProof.Rows
section
variable {X : Cx} {elt tg iter : Expr} {ifs : List Expr} {scope : Scope} {pos : Pos} {N : List Str} {js : List (Option Nat)} {wi : TI} {g : TG} {tc : TT} {te : TE}
theorem Jam {osc : Scope} {ON : List Str} {k : Nat} {y : Str} {py spos : Pos} (hN : X.N.Nodup) (hk : X.N[k]? = some y) (hky : Loc X.env.scope y) (cs : J1Z osc ON scope N js) (ho : X.env.scope = osc) (hON : X.N = ON) (hc : X.calm = true) (hi : PI X tg iter wi)
    (hg : ∀ s₀ H₀ cl C ex,PG (J0b X scope N s₀ H₀ cl C ex) tg g) (hif : ∀ s₀ H₀ cl C ex,PIfs (J0b X scope N s₀ H₀ cl C ex) ifs tc) (he : ∀ s₀ H₀ cl C ex,PE (J0b X scope N s₀ H₀ cl C ex) elt te)
    (hsw : swapsWith (.ListComp elt [⟨tg,iter,ifs,0⟩] scope pos) (some (.Name y py)) spos.line X.env = pure true:=by rfl)
    (hs : ∀ x,foldedSetIterable iter X.env x = pure x:=by intro _; rfl) (hf : X.fn y = true ∨ X.env.scope.names.lookup y = some .local:=by first | exact .inl rfl | exact .inr rfl | assumption) :
    PS X (.Assign [.Name y py] (.ListComp elt [⟨tg,iter,ifs,0⟩] scope pos) spos) (tAsg (J9M wi (subσ js) g tc te) (J2d k)):=by
  intro pins s σ H Dn I h0
  have h : J9M wi (subσ js) g tc te σ H (fun v H'=>Dn.nx (σ.set k (some v)) H'):=h0
  subst ho hON
  obtain ⟨cl,hcl,cl1,cl2⟩:=J2f (scope:=scope) (env:=X.env) fun y hy hf=>I.ok.has y.1 (cs.free y hy hf)
  rw [exec_Assign_Name_used _ _ _ _ hsw]
  refine wpAny_bind (wpAny_standAt (wpAny_bind ?_))
  show wpAny _ X.A (do let _ ← comprehension (.ListComp elt [⟨tg,iter,ifs,0⟩] scope pos) scope X.env _ (newList []) false (eval iter X.env) (some (assign (.Name y py) X.env))) _ _ s
  refine wpAny_bind (wpAny_mono (wpAny_comprehension_free (use:=some (assign (.Name y py) X.env)) (Q:=fun _ s'=>SP X pins Dn .next s') rfl hs hcl cs.kind cs.names ?_) (fun _ s' hq=>wpAny_pure (wpAny_pure hq)) fun _ _ e=>e)
  refine thn (hi pins s σ H _ I h) fun v s1 h1=>thn h1 fun itv s2 h2=>?_
  obtain ⟨it,fp,tn,J,H2,e,I2,T,st2,f2,hW⟩:=h2
  subst e
  have hD0 : H2 s2.heap.objs.size = none:=I2.hok.fresh (Nat.le_refl _)
  obtain ⟨W,⟨m0,w0⟩,turn⟩:=hW s2.heap.objs.size hD0
  have I3:=I2.lnew (t':=s2.toks) (ys:=[]) (its:=[]) .nil (Nat.zero_le _)
  refine wpAny_newObj_type (wpAny_newFunctionEnv cs.cell (by intro y hy; simp at hy) (fun h₁ hns₁ hsb₁=>?_) cs.kind)
  dsimp only at hns₁ hsb₁ ⊢
  obtain ⟨s3,hs3⟩ : ∃ s3 : Shared,s3 = { s2 with heap:=s2.heap.push { cls:=.type "list",data:=.seq ([] : List Value).toArray },toks:=s2.toks }:=⟨_,rfl⟩
  rw [← hs3] at I3
  have e3 : s3.heap = s2.heap.push { cls:=.type "list",dict:=none,data:=.seq ([] : List Value).toArray }:=by rw [hs3]
  have e3o : s3.os = s2.os:=by rw [hs3]
  have e3g : s3.gens = s2.gens:=by rw [hs3]
  rw [← e3] at hns₁ hsb₁ ⊢
  obtain ⟨H3,hH3⟩ : ∃ H3 : Hp,H3 = upd H2 s2.heap.objs.size (.lst []):=⟨_,rfl⟩
  rw [← hH3] at I3 w0
  have up1 : ∀ b o,s2.heap.get? b = some o → s3.heap.get? b = some o:=fun b o q=>by rw [e3]; exact Heap.get?_push_of_some _ q
  have up2 : ∀ b o,s3.heap.get? b = some o → h₁.get? b = some o:=fun b o q=>hsb₁.extBut b o (Nat.ne_of_lt (Heap.lt_size q)) (Heap.get?_push_of_some _ q)
  have fpo : ∀ b ∈ fp,∃ o,s3.heap.get? b = some o:=fun b hb=>by
    obtain ⟨o,ho,_⟩:=T.obj 0 _ st2 b hb
    exact ⟨o,up1 b o ho⟩
  have fr3 : ∀ b ∈ fp,H3 b = none:=fun b hb=>by
    obtain ⟨o,ho,_⟩:=T.obj 0 _ st2 b hb
    rw [hH3,Jq (Nat.ne_of_lt (Heap.lt_size ho))]
    exact (f2 b hb).1
  have fpC : ∀ b ∈ fp,b ≠ s3.heap.objs.size:=fun b hb=>by
    obtain ⟨o,ho⟩:=fpo b hb
    exact Nat.ne_of_lt (Heap.lt_size ho)
  have fpS : ∀ b ∈ fp,b ∉ frs X.stack:=fun b hb hs'=>by
    rcases List.mem_cons.mp (I2.stkSub b hs') with z | z
    · exact (f2 b hb).2.1 z
    · exact (f2 b hb).2.2.1 z
  have ok' : (J0b X scope N s3 H3 cl s3.heap.objs.size fp).Ok:=by
    refine ⟨I.ok.mod,cs.kind,I.ok.glob,I.ok.blt,Nat.le_refl _,fun x y c e1 e2=>I.ok.inj x y c (cl2 x c e1) (cl2 y c e2),fun x hx=>?_,fun x c hf=>(nomatch hf),I.ok.hd,I.ok.frames,.inl rfl,fun b hb=>⟨fpC b hb,fun x c e=>(f2 b hb).2.2.2.2.1 x c (cl2 x c e)⟩,
      I3.bs,Nat.le_trans I.ok.bsz I3.sz,fun b o e hb=>?_,fun b hb=>fpS b hb,I3.stack,I3.stkFree⟩
    · have hm : (x,NameKind.free) ∈ scope.names:=J1E cs.cell hx
      obtain ⟨c,hc⟩:=I.ok.has x (cs.free _ hm rfl)
      exact ⟨c,(cl1 _ hm rfl).trans hc⟩
    · rcases (f2 b hb).2.2.2.1 with z | z
      · exact I.ok.noex b o e z
      · exact absurd (Nat.lt_of_lt_of_le (Heap.lt_size e) (Nat.le_trans I.ok.bsz z)) (Nat.lt_irrefl _)
  have cellK : ∀ c v,s3.heap.IsCell c v → h₁.IsCell c v:=fun c v ⟨o,ho,hd⟩=>⟨o,up2 c o ho,hd⟩
  have I4 : ∀ t : Nat,Inv (J0b X scope N s3 H3 cl s3.heap.objs.size fp) [] (subσ js σ) H3 { s2 with heap:=h₁,toks:=t }:=fun t=>by
    refine ⟨ok',e3o.symm,I2.bare,Un.kept up2,⟨_,hns₁,fun i x v hi hv hx=>?_⟩,fun x c e=>?_,I3.hok.fresh (Nat.le_refl _),fun x c e=>I3.freeC x c (cl2 x c e),fun p hp=>(nomatch hp),I3.hok.kept up2,?_⟩
    ·
      have hv' : ∃ j,js[i]? = some (some j) ∧ σ[j]? = some (some v):=by
        unfold subσ at hv
        rw [List.getElem?_map] at hv
        cases hj : js[i]? with
        | none=>rw [hj] at hv; cases hv
        | some o =>
          rw [hj] at hv
          cases o with
          | none=>cases hv
          | some j =>
            refine ⟨j,rfl,?_⟩
            have hv2 : (σ[j]?).join = some v:=Option.some.inj hv
            cases hs2 : σ[j]? with
            | none=>rw [hs2] at hv2; cases hv2
            | some u=>rw [hs2] at hv2; exact congrArg some hv2
      obtain ⟨j,hj,hσ⟩:=hv'
      obtain ⟨x',h1',h2',h3'⟩:=cs.sub i j hj
      have hxx : x = x':=Option.some.inj (hi.symm.trans h1')
      subst hxx
      have hm : (x,NameKind.free) ∈ scope.names:=mem_of_lookup h3'
      have hk:=cs.free _ hm rfl
      obtain ⟨m,hn,hl⟩:=id I3.loc
      obtain ⟨u,ru,lk⟩:=hl j x v h2' hσ (by rcases hk with z | z; exact .inr (.inl z); exact .inr (.inr z))
      refine ⟨u,ru,?_⟩
      rcases lk with ⟨k1,_⟩ | ⟨k1,c,e1,z⟩
      · rcases hk with z | z <;> (rw [show X.env.kindOf x = _ from z] at k1; cases k1)
      · exact .inr ⟨J0r h3',c,(cl1 _ hm rfl).trans e1,cellK c _ z⟩
    · obtain ⟨v,z⟩:=I3.cell x c (cl2 x c e)
      exact ⟨v,cellK c v z⟩
    · unfold subσ
      rw [List.length_map]
      exact cs.len
  have hst₁ : tn 0 h₁:=T.keep 0 _ _ st2 fun b hb o q=>up2 b o (up1 b o q)
  have stat : ∀ {H' : Hp},(∀ b ∈ fp,H' b = none) → ∀ b ∈ fp,FpOk (J0b X scope N s3 H3 cl s3.heap.objs.size fp) [] H' b:=fun hn b hb =>
    ⟨hn b hb,fpC b hb,fpS b hb,.inl hb,fun x c e=>(f2 b hb).2.2.2.2.1 x c (cl2 x c e),fun p hp=>(nomatch hp)⟩
  have loop : ∀ s4 : Shared,(∃ t,s4 = { s2 with heap:=h₁,toks:=t }) →
      codeAny (model X.prog X.w) X.A (.compLoop (.ListComp elt [⟨tg,iter,ifs,0⟩] scope pos) 0 (.ref it) (.ref s2.heap.objs.size) (compEnvC scope cl s3.heap.objs.size X.env))
        (compPost (model X.prog X.w) X.A X.xe (some (assign (.Name y py) X.env)) (fun _ s'=>SP X pins Dn .next s') (.ref s2.heap.objs.size) s3.heap.objs.size) s4:=by
    rintro s4 ⟨t,rfl⟩
    refine J2E (fun n s'=>∃ i σ' ys H',Inv (J0b X scope N s3 H3 cl s3.heap.objs.size fp) [] σ' H' s' ∧ tn i s'.heap ∧ (∀ b ∈ fp,H' b = none) ∧ W i n σ' ys H') ?_ m0 ⟨0,_,[],H3,I4 t,hst₁,fr3,w0⟩
    rintro n s5 ⟨i,σ5,ys,H5,I5,st5,fr5,w5⟩
    rcases turn i n σ5 ys H5 w5 with ⟨stop,qn⟩ | ⟨go,step⟩
    · refine thn (T.done (J0b X scope N s3 H3 cl s3.heap.objs.size fp) rfl rfl rfl hc i [] s5 σ5 H5 _ I5 (stat fr5) st5 stop) fun r s6 ⟨hr,I6⟩=>?_
      subst hr
      obtain ⟨m,hn,_⟩:=id I6.loc
      have IX : ∀ h',Heap.SameBut s3.heap.objs.size s6.heap h' → Inv X pins σ H5 { s6 with heap:=h' }:=fun h' hs'=>by
        have neC : ∀ b o,s3.heap.get? b = some o → b ≠ s3.heap.objs.size:=fun b o q=>Nat.ne_of_lt (Heap.lt_size q)
        have un : Un (frs X.stack) fp H3 H5 s3.heap h' :=
          ⟨fun b o q n1 hb hx=>(hs'.2 b (neC b o q)).trans (I6.base.keep b o q n1 hb hx),
           fun b o q n1 hb hx=>by
             obtain ⟨sl,e⟩:=I6.base.slot b o q n1 hb hx
             exact ⟨sl,(hs'.2 b (neC b o q)).trans e⟩,
           fun b o q n1 hx=>I6.base.free b o q n1 hx,
           fun b o q hx=>by
             obtain ⟨o',e⟩:=I6.base.there b o q hx
             exact ⟨o',(hs'.2 b (neC b o q)).trans e⟩,
           I6.base.tups,I6.base.frzs,I6.base.tbls⟩
        refine I3.call' (ch:=fp) (s':={ s6 with heap:=h' }) I6.os un (fun b ob e=>?_) I6.bare (fun b hb=>⟨(f2 b hb).2.2.2.1,(f2 b hb).2.1,(f2 b hb).2.2.2.2.1,(f2 b hb).2.2.2.2.2⟩)
        refine (I6.hok b ob e).stay (fun c w' hc' q=>(hs'.2 c ?_).trans q) (fun _ q=>q) fun _ _ q=>q
        rintro rfl
        have fC : H5 s3.heap.objs.size = none:=I6.free
        rcases hc' with z | z
        · rw [← z,fC] at e; cases e
        · rw [fC] at z; cases z
      have fC : H5 s3.heap.objs.size = none:=I6.free
      have IY : Inv X pins σ H5 s6:=IX s6.heap (Heap.SameBut.refl ..)
      have fo : FpOk X pins H5 s3.heap.objs.size:=I3.fpOk (Nat.le_refl _) fC
      obtain ⟨oC,es,ep,ho1,hd1,hrest⟩:=id hn
      have IZ:=IY.pinned (fp:=[s3.heap.objs.size]) (fun b hb=>by obtain rfl : b = _:=(by simpa using hb); exact fo) (fun b hb=>by obtain rfl : b = _:=(by simpa using hb); exact ⟨oC,ho1,fun v z=>by rw [hd1] at z; cases z⟩)
      show wpAny _ X.A (assign (.Name y py) X.env (.ref s2.heap.objs.size)) _ _ s6
      refine wpAny_assign_Name (J1P IZ hN hk hky (show RelV (.ref s2.heap.objs.size) (.ref s2.heap.objs.size) from rfl) (fun s7 I7=>?_) hf)
      have hC7 : s7.heap.get? s3.heap.objs.size = some oC:=(I7.pin (s3.heap.objs.size,oC) (List.mem_append_right _ (List.mem_append_right _ (J0y (by simp) ho1)))).1
      refine ⟨m,hn.at' fun o e=>?_,fun h' hs'=>⟨_,H5,?_,qn⟩⟩
      · rw [ho1] at e; cases e; exact hC7
      · have I8:=I7.unpinned
        exact I8.turned (t':=s7.toks) (fun b o hb e=>(hs'.2 b hb).trans e) fo.1 fo.2.1 fo.2.2.2.1 fo.2.2.2.2.1 fo.2.2.2.2.2
    · refine thn (T.item (J0b X scope N s3 H3 cl s3.heap.objs.size fp) rfl rfl rfl hc i [] s5 σ5 H5 _ I5 (stat fr5) st5 go) fun r s6 ⟨u,hr,h6⟩=>?_
      subst hr
      refine thn h6 fun _ s7 ⟨x,H7,I7,r7,y7,st7,fr7⟩=>?_
      have I7':=I7.pinned (stat fr7) (T.obj _ _ st7)
      refine thn (hg _ _ _ _ _ _ s7 σ5 H7 x u _ I7' r7 (step x H7 y7)) fun _ s8 ⟨σ8,H8,I8,q8⟩=>?_
      refine thn (hif _ _ _ _ _ _ s8 σ8 H8 _ I8 q8) fun ok s9 ⟨H9,I9,q9⟩=>?_
      have again : ∀ {σ' : St} {H' : Hp} {s' : Shared},Inv (J0b X scope N s3 H3 cl s3.heap.objs.size fp) ([] ++ J2S fp s7.heap) σ' H' s' →
          Inv (J0b X scope N s3 H3 cl s3.heap.objs.size fp) [] σ' H' s' ∧ tn (i + 1) s'.heap ∧ ∀ b ∈ fp,H' b = none:=fun {σ' H' s'} I'=>by
        refine ⟨I'.unpinned,T.keep _ _ _ st7 fun b hb o e=>(I'.pin (b,o) (List.mem_append_right _ (List.mem_append_right _ (J0y hb e)))).1,fun b hb=>?_⟩
        obtain ⟨o,e,d⟩:=T.obj _ _ st7 b hb
        exact (I'.pin (b,o) (List.mem_append_right _ (List.mem_append_right _ (J0y hb e)))).2.1
      cases ok with
      | false =>
        rw [if_neg Bool.false_ne_true] at q9 ⊢
        obtain ⟨m',hm,w9⟩:=q9
        obtain ⟨a1,a2,a3⟩:=again I9
        exact ⟨m',hm,i + 1,σ8,ys,H9,a1,a2,a3,w9⟩
      | true =>
        rw [if_pos rfl] at q9 ⊢
        refine thn (he _ _ _ _ _ _ s9 σ8 H9 _ I9 q9) fun yv s10 ⟨y,H10,I10,r10,q10⟩=>?_
        obtain ⟨hD,hz,m',hm,w10⟩:=q10
        refine thn (J1d (X:=J0b X scope N s3 H3 cl s3.heap.objs.size fp) _ s10 σ8 H10 (.ref s2.heap.objs.size) [y] (.ref s2.heap.objs.size) [yv] (fun v H'=>H' = upd H10 s2.heap.objs.size (.lst (ys ++ [y]))) I10 rfl (.cons r10 .nil)
          ⟨s2.heap.objs.size,ys,y,rfl,rfl,hD,hz,rfl⟩) fun _ s11 ⟨v11,H11,I11,_,e11⟩=>?_
        have e11' : H11 = upd H10 s2.heap.objs.size (.lst (ys ++ [y])):=e11
        subst e11'
        obtain ⟨a1,a2,a3⟩:=again I11
        exact ⟨m',hm,i + 1,σ8,ys ++ [y],_,a1,a2,a3,w10⟩
  exact codeAny_compStart_list (loop _ ⟨_,rfl⟩) (T.self X.A 0 _ _ _ hst₁ (loop _ ⟨_,rfl⟩))
end
end L2
set_option linter.all false
namespace L2
open PySem PySem.StrLaws Builtin Builtin.Str
end L2
set_option linter.all false
set_option maxRecDepth 100000
set_option maxHeartbeats 4000000
namespace L2
open PySem PySem.Spec PyProof.Rows
section
variable {X : Cx} {e : Expr} {es : List Expr} {te : TE} {tr : TF} {pos : Pos}
end
end L2
set_option linter.all false
set_option maxRecDepth 100000
set_option maxHeartbeats 4000000
namespace L2
open PySem PySem.Spec PyProof.Rows
section
variable {X : Cx} {x m : Str} {k : Nat} {ps : List Str} {sp : Sp} {C : Addr} {p pos apos : Pos} {e o : Expr} {es : List Expr} {t : TA} {to : TE}
theorem J1m {r : List V → Hp → VK → Prop} (G : MkG X.prog X.w X.K X.mg X.base C x k ps sp) (hr : Room (k + 1) X.A)
  (imp : ∀ vs H Q,r vs H Q → ∀ x dx,H x = none → H dx = none → dx ≠ x → sp (.ref x :: (vs ++ [])) (upd (upd H dx (.own x)) x (.ins C dx [])) (fun v H2=>v = .non ∧ Q (.ref x) H2) E0)
  (ha : PA X (e :: es) t) (hg : Gl X x:=by rfl) (hdb : (x == ("__debug__" : Str)) = false:=by decide)
  (he : starEach (e :: es) X.env = (false,eval e X.env) :: starEach es X.env:=by rfl) (hpl : (backTo pos (starEach es X.env)).any (·.1) = false:=by rfl) : PE X (.Call (.Name x p) (e :: es) [] pos) (tCB r t):=by
 obtain ⟨f,fd,a,M,hm,hb⟩:=G
 intro pins s σ H Q I h
 refine wpAny_Call_Name_kw (J21 I hg hm ?_ hdb)
 refine PySem.W.callWith_K (h₀:=X.base) I.ok.mod.kin M.kp (thn (ha pos pins s σ H _ I h) fun us s1 ⟨vs,H1,I1,rv,q⟩=>⟨I1.kIn,?_⟩) he hpl
 exact J9n M a hr hb .nil J7O I1 rv (imp vs H1 Q q)
end
end L2
set_option linter.all false
set_option maxRecDepth 100000
set_option maxHeartbeats 4000000
namespace L2
open PySem PySem.Spec PyProof.Rows
section
variable {α : Type} {P : α → V → Hp → Prop} {H H' : Hp}
end
section
variable {X : Cx} {K : PySem.W.Frag}
theorem Jag {es : List Expr} {k : Nat} {t : TGs} {n : Nat} {pos : Pos} (hK : X.K = K) (hc : X.calm = true) (h : PGs X es t)
  (hn : (assignEach es X.env).length = n:=by rfl) (hst : (assignEach es X.env).findIdx? (·.1) = none:=by rfl) : PG X (.Tuple es k pos) (gTup K n t):=hK ▸ J9e hc h hn hst
end
end L2
set_option linter.all false
set_option maxRecDepth 100000
set_option maxHeartbeats 4000000
namespace L2
open PySem PySem.Spec PyProof.Rows
section
variable {X : Cx} {es : List Expr} {k : Nat} {tpos : Pos}
end
end L2
set_option linter.all false
set_option maxRecDepth 100000
set_option maxHeartbeats 4000000
namespace L2
open PySem PySem.Spec PyProof.Rows
theorem J4u : ∀ {xs : List V},xs.all J2H = true → eqVs xs xs = true
 | [],_=>rfl
 | x :: xs,h=>by
  rw [List.all_cons,Bool.and_eq_true] at h
  rw [eqVs,J4u h.2,Bool.and_true]
  cases x <;> first | rfl | exact beq_self_eq_true _ | exact absurd h.1 Bool.false_ne_true
theorem J9N (xs ys : List V) : ((List.range (min xs.length ys.length)).all (fun j=>eqV (xs.getD j .non) (ys.getD j .non)) && xs.length == ys.length) = eqVs xs ys:=by
 by_cases h : xs.length = ys.length
 ·rw [beq_iff_eq.mpr h,Bool.and_true,h,Nat.min_self,← h,J3I h]
 ·rw [beq_eq_false_iff_ne.mpr h,Bool.and_false,J6w h]
section
variable {X : Cx} {K : PySem.W.Frag} {pins : List (Addr × Obj)} {s : Shared} {σ : St} {H : Hp} {A : Around}
theorem J9u {p r : Addr} {xs ys : List V} (I : Inv X pins σ H s) (hp : SqT X.K H p xs) (hr : SqT X.K H r ys) (fx : xs.all J2H = true) (fy : ys.all J2H = true) (hu : A.units < cLine) : SeqAt.RcAt A s (.ref p) (.ref r) (eqVs xs ys):=by
 obtain ⟨ia,ra,pa,za⟩:=I.tuple hp
 obtain ⟨ib,rb,pb,zb⟩:=I.tuple hr
 have h:=SeqAt.RcAt.tuples (A:=A) (e:=fun j=>eqV (xs.getD j .non) (ys.getD j .non)) (show s.heap.IsTuple p ia.toArray from pa) (show s.heap.IsTuple r ib.toArray from pb) hu (J9C ra rb fx fy)
 rw [List.size_toArray,List.size_toArray,← ra.length,← rb.length,J9N] at h
 exact h
noncomputable def rEqT (K : PySem.W.Frag) : R2:=fun x y H Q=>∃ p r xs ys,x = .ref p ∧ y = .ref r ∧ SqT K H p xs ∧ SqT K H r ys ∧ xs.all J2H = true ∧ ys.all J2H = true ∧ Q (.bl (eqVs xs ys)) H
theorem Jb3 (h : X.K = K) (hu : X.A.units < cLine) : OpR X (compareOp .Eq) (rEqT K):=by
 subst h
 intro pins s σ H x y v u Q I rx ry h
 obtain ⟨p,r,xs,ys,rfl,rfl,hp,hr,fx,fy,q⟩:=h
 cases rx; cases ry
 exact J9u I hp hr fx fy hu _ _ _ _ ⟨.bl _,H,I,rfl,q⟩
end
end L2
set_option linter.all false
set_option maxRecDepth 100000
set_option maxHeartbeats 4000000
namespace L2
open PySem PySem.Spec PyProof.Rows
@[irreducible] def tCut (t : TS) : TS:=fun D σ H=>∃ R : St → Hp → Prop,t { D with nx:=R } σ H ∧ ∀ σ' H',R σ' H' → D.nx σ' H'
theorem tCut.mk {t : TS} {D : Ends} {σ : St} {H : Hp} (R : St → Hp → Prop) (h : t { D with nx:=R } σ H) (h' : ∀ σ' H',R σ' H' → D.nx σ' H') : tCut t D σ H:=by unfold tCut; exact ⟨R,h,h'⟩
section
variable {X : Cx} {K : PySem.W.Frag}
theorem J40 {st : Stmt} {t : TS} (h : PS X st t) : PS X st (tCut t):=by
 intro pins s σ H D I q
 unfold tCut at q
 obtain ⟨R,h1,h2⟩:=q
 refine thn (h pins s σ H _ I h1) fun f s' z=>?_
 cases f with
 | next=>obtain ⟨σ',H',I',r⟩:=z; exact ⟨σ',H',I',h2 σ' H' r⟩
 | brk=>exact z
 | cont=>exact z
 | ret u=>exact z
theorem J5y {M : Model} {A : Around} {E : Value → Shared → Prop} {s : Shared} {a b : Value} {Q : Value → Shared → Prop} (ha : s.TypeIs a "list") (hb : s.TypeIs b "list") (hc : wpAny M A (call (.builtin "list.__iadd__") [a,b]) Q E s) : wpAny M A (inplaceOp .Add a b) Q E s:=by
 unfold inplaceOp
 refine wpAny_holding ?_
 have hl : typeLookup (.type "list") (dunderI "add") = pure (some (.builtin "list.__iadd__")):=F.slot_list_iadd.lookup
 have hfi : fillsInplaceSlot (.type "list") "add" (Operator.Add == .Add) = pure false:=by
  unfold fillsInplaceSlot
  show (typeLookup (.type "list") (dunderI "add") >>= fun fi=>pure (fi.isSome && !isSeqSlot fi)) = pure false
  rw [hl]; rfl
 have hsi : seqSlot? (.type "list") (dunderI "add") = pure (some (.builtin "list.__iadd__")):=by
  unfold seqSlot?
  rw [hl]; rfl
 refine wpAny_bind (wpAny_typeOf ha (wpAny_bind (wpAny_of_eq hfi ?_)))
 show wpAny M A (if false = true then _ else _) Q E s
 rw [if_neg Bool.false_ne_true]
 refine wpAny_bind (binaryOp1_none (nm:="add") ha hb noFill_list_add ?_)
 refine wpAny_bind (wpAny_of_eq hsi ?_)
 exact wpAny_bind (wpAny_rule hc)
noncomputable def ipL : TIp:=fun x y H Q=>∃ l b xs zs,x = .ref l ∧ y = .ref b ∧ H l = some (.lst xs) ∧ H b = some (.lst zs) ∧ xs.length + zs.length ≤ sizeLine ∧ Q (.ref l) (upd H l (.lst (xs ++ zs)))
theorem Jal : PIp X .Add ipL:=by
 intro pins s σ H x y v u Q I rx ry h
 obtain ⟨l,b,xs,zs,rfl,rfl,hH,hB,hz,q⟩:=h
 cases rx
 cases ry
 obtain ⟨z,its,n,r,hl,e⟩:=I.lstM hH
 obtain ⟨z2,its2,n2,r2,hl2,e2⟩:=I.lstM hB
 have hsz : its.toArray.size + its2.toArray.size ≤ sizeLine:=by rw [List.size_toArray,List.size_toArray]; omega
 have hlong : ¬ (!its.toArray.isEmpty && Builtin.List.listTooLong (its.toArray.size + its2.toArray.size)) = true:=by
  rw [J8Z hsz,Bool.and_false]
  exact Bool.false_ne_true
 refine J5y ⟨_,e,rfl⟩ ⟨_,e2,rfl⟩ ?_
 refine call_meets F.slot_list_iadd ⟨_,e,rfl⟩ F.entry_list_iadd (F.args_list_iadd_2 _ _)
  (AutoSeq1.list___iadd___list_list_0 l its.toArray n b its2.toArray n2 hlong (by rw [List.size_toArray]; omega) (by omega)) ⟨e,e2,?_⟩
 refine ⟨.ref l,_,I.lset (its':=its ++ its2) hH e (by simp) (r.append r2) ?_,rfl,q⟩
 rw [List.length_append]
 omega
end
end L2
namespace L2
open PySem PySem.Spec PyProof.Rows
section
variable {α β : Type} {H : Hp}
end
end L2
set_option linter.all false
set_option maxRecDepth 100000
set_option maxHeartbeats 4000000
namespace L2
open PySem PySem.Spec PyProof.Rows
noncomputable def CX1 (P : Program) (w : World) : CXT:=fun outer H s E ev s'=>∃ (a C : Addr) (a0 : Value) (H' : Hp) (B : Heap),ev = .ref a ∧ s'.os = s.os ∧ AllBare s'.gens ∧ Un (frs outer) [] H H' s.heap s'.heap ∧ HOk P w H' s'.heap ∧
 Heap.FlyingW B outer a (.ref C) a0 s'.heap ∧ (∀ b o,s.heap.get? b = some o → H b = none → b ∉ frs outer → B.get? b = some o) ∧ (∀ b o u,H' b = some u → s'.heap.get? b = some o → B.get? b = some o) ∧
 (∀ b o,s.heap.get? b = some o → b ∉ frs outer → ∃ o',B.get? b = some o') ∧ H' a = none ∧ E (.ref C) none H'
theorem J3J {P : Program} {w : World} {H : Hp} {h : Heap} {a : Addr} {o : HO} (x : J0g P w H h a o) : ∃ ob,h.get? a = some ob:=by
 cases o with
 | lst xs=>obtain ⟨_,_,_,_,e⟩:=x; exact ⟨_,e⟩
 | tup xs=>obtain ⟨_,_,_,o,e,_⟩:=x; exact ⟨_,e⟩
 | dK kvs=>obtain ⟨_,_,_,_,o,_,_,e,_⟩:=x; exact ⟨_,e⟩
 | dT kvs=>obtain ⟨_,_,_,_,o,_,_,e,_⟩:=x; exact ⟨_,e⟩
 | set S n=>obtain ⟨o,_,_,_,e,_⟩:=x; exact ⟨_,e⟩
 | ins C dx fs=>obtain ⟨_,_,_,e,_⟩:=x; exact ⟨_,e⟩
 | own y=>exact x
 | xd fs=>obtain ⟨_,⟨_,_,_,e,_⟩,_⟩:=x; exact ⟨_,e⟩
 | rng lo hi=>obtain ⟨_,_,_,e⟩:=x; exact ⟨_,e⟩
 | frz ob u=>obtain ⟨e,_⟩:=x; exact ⟨_,e⟩
 | tbl ps=>exact ⟨_,(show h.get? a = some _ from x)⟩
 | met f y=>exact ⟨_,(show h.get? a = some _ from x)⟩
 | ext φ=>obtain ⟨_,e,_⟩:=x; exact e
section
variable {X : Cx} {pins : List (Addr × Obj)} {σ : St} {H : Hp} {s : Shared} {E : XK} {Ex : Value → Shared → Prop}
theorem Inv.oldfr (I : Inv X pins σ H s) {b : Addr} {o : Obj} (q : X.s₀.heap.get? b = some o) (hb : b ∈ frs X.stack) : b ∈ X.fs:=by
 rcases List.mem_cons.mp (I.stkSub b hb) with e | e
 ·exact absurd (Nat.lt_of_lt_of_le (Heap.lt_size q) I.ok.above) (by rw [e]; exact Nat.lt_irrefl _)
 ·exact e
theorem J5k (I : Inv X pins σ H s) (hex : X.ex = []) (hst : X.stack = X.env :: X.outer) (hfr : X.env.frame = some X.env.locals) {h' : Heap} {e C : Addr} {vs : List Value} (hx : Heap.MadeExcOf s.heap h' e (.ref C) vs) (q : E (.ref C) none H) :
  wpAny (model X.prog X.w) X.A (leaving X.env (.ref e)) (fun _ s''=>CX1 X.prog X.w X.outer X.H₀ X.s₀ E (.ref e) s'') Ex { s with heap:=h' }:=by
 have hs:=I.stack
 rw [hst] at hs
 have nex : ∀ b : Addr,b ∉ X.ex:=fun b z=>by rw [hex] at z; simp at z
 refine wpAny_leaves_madeW (base:=PySem.W.hideAll s.heap (frs (X.env :: X.outer))) (h:=s.heap) (by rw [I.ok.frames,hst]) hfr (fun b o q=>PySem.W.of_hideAll _ q) (PySem.W.funFrames_hide hs fun env he b hb=>List.mem_filterMap.mpr ⟨env,he,hb⟩) hx fun h2 t x1 x2 x3 x4=>?_
 replace x4 : h'.UpToSlots h2:=x4
 have inB : ∀ b o,s.heap.get? b = some o → b ∉ frs X.stack → (PySem.W.hideAll s.heap (frs (X.env :: X.outer))).get? b = some o:=fun b o q nb=>PySem.W.hideAll_get _ q (by rw [← hst]; exact nb)
 have prot : ∀ b o,s.heap.get? b = some o → b ∉ frs X.stack → h2.get? b = some o:=fun b o q nb=>x1.1 b o (inB b o q nb)
 have slots : ∀ b o,s.heap.get? b = some o → b ∈ X.fs → ∃ sl,h2.get? b = some { o with slots:=sl }:=fun b o q hb=>by
  obtain ⟨_,o',ho',hd⟩:=I.funs.mem hb
  rw [q] at ho'
  cases ho'
  exact x4 b o (hx.keeps b o q) hd
 have trk : ∀ b u,H b = some u → b ∉ frs X.stack:=fun b u e hb=>by rw [I.stkFree b hb] at e; cases e
 refine ⟨e,C,.ref t,H,_,rfl,I.os,I.bare,⟨fun b o q n nb _=>?_,fun b o q n hb _=>?_,fun b o q n _=>I.base.free b o q n (nex b),fun b o q _=>?_,I.base.tups,I.base.frzs,I.base.tbls⟩,fun b u e=>?_,x1,fun b o q n nb=>?_,fun b o u e q=>?_,fun b o q nb=>?_,?_,q⟩
 ·exact prot b o (I.base.keep b o q n nb (nex b)) fun z=>nb (I.oldfr q z)
 ·obtain ⟨sl,e1⟩:=I.base.slot b o q n hb (nex b)
  obtain ⟨sl2,e2⟩:=slots b _ e1 hb
  exact ⟨sl2,e2⟩
 ·obtain ⟨o',e1⟩:=I.base.there b o q (nex b)
  by_cases hb : b ∈ frs X.stack
  ·obtain ⟨sl,e2⟩:=slots b o' e1 (I.oldfr q hb)
   exact ⟨_,e2⟩
  ·exact ⟨o',prot b o' e1 hb⟩
 ·refine (I.hok b u e).stay (fun c o hc q=>?_) (fun _ q=>q) fun _ _ q=>q
  rcases hc with rfl | hc
  ·exact prot c o q (trk c _ e)
  ·exact prot c o q (trk c _ hc)
 ·exact inB b o (I.base.keep b o q n nb (nex b)) fun z=>nb (I.oldfr q z)
 ·obtain ⟨o',e1⟩:=J3J (I.hok b u e)
  have e2:=prot b o' e1 (trk b u e)
  have q' : h2.get? b = some o:=q
  rw [e2] at q'
  cases q'
  exact inB b o e1 (trk b u e)
 ·obtain ⟨o',e1⟩:=I.base.there b o q (nex b)
  exact ⟨o',inB b o' e1 fun z=>nb (I.oldfr q z)⟩
 ·cases q' : H e with
  | none=>rfl
  | some u =>
   obtain ⟨o,e1⟩:=J3J (I.hok e u q')
   rw [hx.new] at e1
   cases e1
end
end L2
set_option linter.all false
set_option maxRecDepth 100000
set_option maxHeartbeats 4000000
namespace L2
open PySem PySem.Spec PyProof.Rows
abbrev J7v : List Value:=[.type "ValueError",.type "Exception",.type "BaseException",.type "object"]
noncomputable def XCls (K : PySem.W.Frag) (C : Addr) : Prop:=PySem.W.excIn K C J7v "ValueError.__new__" = true
theorem XCls.at {K : PySem.W.Frag} {C : Addr} {h : Heap} (q : XCls K C) (X : K.In h) :
  ∃ bm N nm q bs hdct sn sub ab col dd k0 k1 k2 k3 k5 mN,h.get? C = some (excClassObj nm q C N bs bm hdct sn sub ab col dd k0 k1 k2 k3 k5 "ValueError.__new__") ∧ h.Ns N mN ∧ mN "__init__" = none ∧ OwnTail h J7v bm:=by
 unfold XCls PySem.W.excIn at q
 split at q
 ·rename_i dd cd sl ho
  split at q
  ·rename_i C' bm k0 k1 k2 k3 n k5 hm hs
   simp only [Bool.and_eq_true,beq_iff_eq,Bool.not_eq_true'] at q
   obtain ⟨⟨⟨⟨⟨rfl,rfl⟩,hdel⟩,ht⟩,hok⟩,hni⟩:=q
   obtain ⟨nm,bs,mro,ns,qn,hd,sn,sub,ab,col,del⟩:=cd
   dsimp only at hm hdel hok hni
   subst hm hdel
   have hsl : sl = #[k0,k1,k2,k3,some (.builtin "ValueError.__new__"),k5]:=by
    obtain ⟨l⟩:=sl
    simp only at hs
    rw [hs]
   subst hsl
   exact ⟨bm,ns,nm,qn,bs,hd,sn,sub,ab,col,dd,k0,k1,k2,k3,k5,_,X _ _ ho,.of_isNs (PySem.W.isNs_of_in X hok),PySem.W.nsMap_none_of_in X hok hni,PySem.W.tail_of_in X ht⟩
  ·cases q
 ·cases q
structure Rs (X : Cx) (E : XK) : Prop where
 xe : X.xe = fun e s'=>wpAny (model X.prog X.w) X.A (leaving X.env e) (fun _ s''=>CX1 X.prog X.w X.outer X.H₀ X.s₀ E e s'') (fun e' s''=>CX1 X.prog X.w X.outer X.H₀ X.s₀ E e' s'') s'
 ex : X.ex = []
 st : X.stack = X.env :: X.outer
 fr : X.env.frame = some X.env.locals
 cm : X.calm = true
theorem J9j {P : Program} {w : World} {K : PySem.W.Frag} {mg : Str → Option Value} {base : Heap} {N : List Str} {qual : Str} {scope : Scope} {f : Addr} {cd : Value} {A : Around} {outer : List Env} {s : Shared} {H : Hp} {E : XK} :
  Rs (cxOf (CX1 P w) P w K mg base N qual scope f cd A outer s H E) E:=⟨rfl,rfl,rfl,rfl,rfl⟩
theorem Rs.own {X : Cx} {E : XK} (R : Rs X E) : PassesOwn (model X.prog X.w) X.A X.env X.xe:=by rw [R.xe]; exact PassesOwn.leaving
noncomputable def Jbm (C : Addr) (E : XK) (t : TA) : TS:=fun _ σ H=>t σ H fun vs H1=>vs.length ≤ sizeLine ∧ E (.ref C) none H1
theorem J9q {X : Cx} {E : XK} {x : Str} {C : Addr} {np cpos pos : Pos} {e : Expr} {es : List Expr} {t : TA} (R : Rs X E) (hx : XCls X.K C) (hm : X.mg x = some (.ref C)) (ha : PA X (e :: es) t) (hg : Gl X x:=by rfl) (hdb : (x == ("__debug__" : Str)) = false:=by decide)
  (he : starEach (e :: es) X.env = (false,eval e X.env) :: starEach es X.env:=by rfl) (hpl : (backTo cpos (starEach es X.env)).any (·.1) = false:=by rfl) :
  PS X (.Raise (some (.Call (.Name x np) (e :: es) [] cpos)) none pos) (Jbm C E t):=by
 intro pins s σ H D I h
 obtain ⟨bm,N,nm,q,bs,hdct,sn,sub,ab,col,dd,k0,k1,k2,k3,k5,mN,e1,e2,e3,e4⟩:=hx.at I.mod.kin
 refine wpAny_Raise_call_subT (C:=C) (nm:=nm) (q:=q) (N:=N) (bs:=bs) (bm:=bm) (hdct:=hdct) (sn:=sn) (sub:=sub) (ab:=ab) (col:=col) (dd:=dd) (k0:=k0) (k1:=k1) (k2:=k2) (k3:=k3) (k5:=k5) (newId:="ValueError.__new__") (mN:=mN) PySem.F.excBase_ValueError (e4.hasType (by decide)) (I.ok.hd R.cm)
  (by rw [he]; show (false || (backTo cpos (starEach es X.env)).any (·.1)) = false; rw [hpl]; rfl) e3 (J21 I hg hm ⟨rfl,?_⟩ hdb)
 have hh:=ha cpos pins s σ H _ I h
 rw [he] at hh ⊢
 refine Calls.evalArgs_plain (thn hh fun us s1 ⟨vs,H1,I1,r,hl,q⟩=>⟨rfl,by rw [← r.length]; exact hl,I1.bk _ _ e1,e2.keeps I1.bk,e4.keeps I1.bk,fun h' e hm=>?_⟩)
 rw [R.xe]
 exact J5k I1 R.ex R.st R.fr hm q
noncomputable def FnX (P : Program) (w : World) (K : PySem.W.Frag) (mg : Str → Option Value) (base : Heap) (x : Str) (k : Nat) (ps : List Str) (sp : Sp) : Prop :=
 ∃ f fd,FnOk P w K mg base (CX1 P w) k f fd ps sp ∧ mg x = some (.ref f) ∧ PySem.W.keepIn K (.ref f) = true ∧ J2g K fd ps []
section
variable {P : Program} {w : World} {K : PySem.W.Frag} {mg : Str → Option Value} {base : Heap}
theorem GF.x {x : Str} {st : Stmt} {N ps : List Str} {k : Nat} {sp : Sp} (F : GF K mg x st) (S : Jl N ps (J3 st))
  (bnd : ∀ (kV doc pm : Value) (an : Option Addr) (cdv ct : Value) (us : List Value),us.length = ps.length → bindArgs (PySem.W.fnOf x x (Ji st) (Jg st) (J3 st) .none kV doc pm an cdv ct) ⟨us,[]⟩ = pure (ps.zip us))
  (len : ∀ vs H Q E,sp vs H Q E → vs.length = ps.length)
  (hbody : ∀ (f : Addr) (cdv : Value) (A : Around) (outer : List Env) (s : Shared) (H : Hp) (vs : List V) (Q : VK) (E : XK),Room k (A.deeper (envOfC x (J3 st) s.heap.objs.size f cdv)) → sp vs H Q E →
   ∃ t,PSs (cxOf (CX1 P w) P w K mg base N x (J3 st) f cdv A outer s H E) (Jg st) t ∧ t { nx:=fun _ H'=>Q .non H',rt:=Q } (start N vs) H) : FnX P w K mg base x (k + 1) ps sp:=by
 obtain ⟨f,fd,F,m⟩:=F
 refine ⟨f,fd,?_,m,F.kp,F.binds bnd⟩
 obtain ⟨oc,od,kV,doc,pm,an,cdv,ct,osl,rfl,lk,hcd⟩:=F.ex
 exact JaI lk hcd S len fun A outer s H vs Q E hr hsp=>hbody f cdv A outer s H vs Q E hr hsp
end
section
variable {X : Cx} {x m : Str} {k : Nat} {ps : List Str} {sp : Sp} {C : Addr} {p pos apos : Pos} {e o : Expr} {es : List Expr} {t : TA} {to : TE} {E : XK}
theorem Jb4 (G : FnX X.prog X.w X.K X.mg X.base x k ps sp) (hr : Room k X.A) (hx : J2V (CX1 X.prog X.w) X E) (ha : PA X (e :: es) t) (hg : Gl X x:=by rfl) (hdb : (x == ("__debug__" : Str)) = false:=by decide)
  (he : starEach (e :: es) X.env = (false,eval e X.env) :: starEach es X.env:=by rfl) (hpl : (backTo pos (starEach es X.env)).any (·.1) = false:=by rfl) : PE X (.Call (.Name x p) (e :: es) [] pos) (J7X sp [] E t):=by
 obtain ⟨f,fd,a,b,c,d⟩:=G
 exact J7N a hr hg b c d .nil hx ha hdb he hpl
end
end L2
set_option linter.all false
set_option maxRecDepth 100000
set_option maxHeartbeats 4000000
namespace L2
open PySem PySem.Spec PyProof.Rows
section
variable {prog : Program} {w : World} {A : Around} {E : Value → Shared → Prop} {K : PySem.W.Frag} {x C : Addr} {h : Heap} {g : Array GenState} {d : Drawn} {t : Nat} {os : OsState} {o : Obj}
structure XTy (K : PySem.W.Frag) (C : Addr) : Prop where
 ga : PySem.W.findIn K (.ref C) "__getattribute__" = some (some (.builtin "BaseException.__getattribute__"))
 gn : PySem.W.findIn K (.ref C) "__getattr__" = some none
 cl : PySem.W.findIn K (.ref C) "__class__" = some (some (.builtin "object.__class__"))
 mo : PySem.W.mroIn K C (.type "object") = some true
 mb : PySem.W.mroIn K C (.type "BaseException") = some true
theorem Jb1 {R : Result → Shared → Prop} (X : K.In h) (T : XTy K C) (hx : h.get? x = some o) (hc : o.cls = .ref C) (hq : R (.ok (.ret (.ref C))) ⟨h,g,d,t,os⟩) :
  codeAny (model prog w) A (.call (.builtin "getset_descriptor.__get__") ⟨[.builtin "object.__class__",.ref x,.ref C],[]⟩) R ⟨h,g,d,t,os⟩:=by
 have hT5 : (⟨h,g,d,t,os⟩ : Shared).TypeIs (.builtin "object.__class__") "getset_descriptor":=F.typeOf_object_class
 have L0 : PySem.W.Looks (model prog w) h (typeOf (.ref x)) (.ref C):=hc ▸ (PySem.W.Looks.ld hx).andThen .now
 have L1 : PySem.W.Looks (model prog w) h (isSubtype (.ref C) (.type (".".intercalate ("object.__class__".cutAt '.').dropLast))) true:=by rw [F.owner_object_class]; exact PySem.W.looks_mroIn X T.mo
 refine codeAny_call_builtin F.slot_gs_get.plain F.entry_gs_get (F.slot_gs_get.check _ _ _ _ _ _ _ _ hT5 (F.args_gs_get _ _ _) ?_)
 repeat (any_goals (first | assumption | with_reducible refine L0.at ?_ | with_reducible refine L1.at ?_ | wp_step))
 refine ⟨Code.quiet_builtin _ (by decide +kernel),codeAny_builtin F.entry_object_class ?_⟩
 repeat (any_goals (first | assumption | with_reducible refine L0.at ?_ | with_reducible refine L1.at ?_ | wp_step))
theorem J9y {tk : Tok} {Q : Fin → Shared → Prop} (X : K.In h) (T : XTy K C) (hx : h.get? x = some o) (hc : o.cls = .ref C) (hq : Q (.done (.ret (.ref C))) ⟨h,g,d,t,os⟩) :
  wpAny (model prog w) A (Builtin.«object.__getattribute__» ⟨[.ref x,.str "__class__" tk],[]⟩) Q E ⟨h,g,d,t,os⟩:=by
 have hT5 : (⟨h,g,d,t,os⟩ : Shared).TypeIs (.builtin "object.__class__") "getset_descriptor":=F.typeOf_object_class
 have L0 : PySem.W.Looks (model prog w) h (typeOf (.ref x)) (.ref C):=hc ▸ (PySem.W.Looks.ld hx).andThen .now
 have L2:=PySem.W.looks_findIn (M:=model prog w) X T.cl
 have f5:=F.typeOf_object_class
 have f6:=F.slot_gs_get.lookup
 have f7:=F.slot_gs_set.lookup
 repeat (any_goals (first | assumption | with_reducible refine L0.at ?_ | with_reducible refine L2.at ?_ | wp_step))
 refine Jb1 X T hx hc ?_
 repeat (any_goals (first | assumption | wp_step))
theorem J8Y {M : Model} {nameV : Value} {Q : Unit → Shared → Prop} (X : K.In h) (T : XTy K C) (hx : h.get? x = some o) (hc : o.cls = .ref C) (hq : Q () ⟨h,g,d,t,os⟩) : wpAny M A (checkBuiltinCall "BaseException.__getattribute__" ⟨[.ref x,nameV],[]⟩) Q E ⟨h,g,d,t,os⟩:=by
 have hk : builtinKind "BaseException.__getattribute__" = some .slot:=by decide +kernel
 have hsplit : splitId "BaseException.__getattribute__" = some ("BaseException","__getattribute__"):=by decide +kernel
 have ha:=F.args_bexc_ga (.ref x) nameV
 have L0 : PySem.W.Looks M h (typeOf (.ref x)) (.ref C):=hc ▸ (PySem.W.Looks.ld hx).andThen .now
 have L1 : PySem.W.Looks M h (isSubtype (.ref C) (.type "BaseException")) true:=PySem.W.looks_mroIn X T.mb
 simp only [checkBuiltinCall,hk,hsplit]
 refine wpAny_bind ?_
 ·unfold isInstance
  repeat (first | with_reducible refine L0.at ?_ | with_reducible refine L1.at ?_ | wp_step)
  exact hq
theorem Jab {tk : Tok} {R : Result → Shared → Prop} (X : K.In h) (T : XTy K C) (hx : h.get? x = some o) (hc : o.cls = .ref C) (hq : R (.ok (.ret (.ref C))) ⟨h,g,d,t,os⟩) :
  codeAny (model prog w) A (.call (.builtin "BaseException.__getattribute__") ⟨[.ref x,.str "__class__" tk],[]⟩) R ⟨h,g,d,t,os⟩ :=
 codeAny_call_builtin F.attr_ValueError.ga.plain F.entry_bexc_ga (J8Y X T hx hc (J9y X T hx hc hq))
theorem Jby {tk : Tok} {Q : Value → Shared → Prop} (X : K.In h) (T : XTy K C) (hx : h.get? x = some o) (hc : o.cls = .ref C) (hq : Q (.ref C) ⟨h,g,d,t,os⟩) :
  wpAny (model prog w) A (getAttrBy (.ref x) (.str "__class__" tk) false) Q E ⟨h,g,d,t,os⟩:=by
 have f3:=F.attr_ValueError.ga.bind (.ref x)
 have hx2 : (Value.builtin "BaseException.__getattribute__" == Value.builtin "object.__getattribute__") = false:=by decide +kernel
 have hx1 : (onTheHeap (Value.ref C) && Value.builtin "BaseException.__getattribute__" == Value.builtin "object.__getattribute__") = false:=by rw [hx2]; rfl
 have L0 : PySem.W.Looks (model prog w) h (typeOf (.ref x)) (.ref C):=hc ▸ (PySem.W.Looks.ld hx).andThen .now
 have L1:=PySem.W.looks_findIn (M:=model prog w) X T.ga
 have L2:=PySem.W.looks_findIn (M:=model prog w) X T.gn
 repeat (any_goals (first | assumption | with_reducible refine L0.at ?_ | with_reducible refine L1.at ?_ | with_reducible refine L2.at ?_ | wp_step))
 refine Jab X T hx hc ?_
 repeat (any_goals (first | assumption | wp_step))
theorem Jav {Q : Option Value → Shared → Prop} (X : K.In h) (T : XTy K C) (hx : h.get? x = some o) (hc : o.cls = .ref C) (hq : Q (some (.ref C)) ⟨h,g,d,t + 1,os⟩) : wpAny (model prog w) A (getAttr? (.ref x) "__class__") Q E ⟨h,g,d,t,os⟩:=by
 unfold getAttr? getAttrBy?
 repeat (any_goals (first | assumption | with_reducible apply Jby X T hx hc | wp_step))
theorem J9r (T : XTy K C) (hz : (PySem.W.clsIn K C).isSome = true) : PySem.W.KitX K (.ref x) (.ref C) (fun h=>∃ o,h.get? x = some o ∧ o.cls = .ref C) where
 ty:=fun M h _ ⟨o,h1,h2⟩=>h2 ▸ (PySem.W.Looks.ld h1).andThen .now
 it:=fun _ _ X _=>by
  unfold PySem.W.clsIn at hz
  split at hz
  ·rename_i c' d' cd' sl' ho
   intro A' Q' E' s' k q
   unfold isType loadHead
   exact wpAny_bind (wpAny_loadPart (k _ _ (X _ _ ho)) (wpAny_pure q))
  ·cases hz
 ne:=fun h tp dd its n sl X htp=>by
  refine Bool.eq_false_iff.mpr fun q=>?_
  have e : C = tp:=Value.ref.inj (beq_iff_eq.mp q)
  subst e
  unfold PySem.W.clsIn at hz
  split at hz
  ·rename_i c' d' cd' sl' ho
   have z:=(X _ _ ho).symm.trans htp
   cases z
  ·cases hz
 ca:=fun {_ _ _ _ _ s} X p k=>by
  obtain ⟨h,g,d,t,os⟩:=s
  obtain ⟨o,h1,h2⟩:=p
  exact Jav X T h1 h2 k
end
end L2
set_option linter.all false
set_option maxRecDepth 100000
set_option maxHeartbeats 4000000
namespace L2
open PySem PySem.Spec PyProof.Rows
noncomputable def XO (a C : Addr) : HO:=.ext fun h=>∃ o,h.get? a = some o ∧ o.cls = .ref C
theorem XO.ok {P : Program} {w : World} {H : Hp} {h : Heap} {a C : Addr} (q : ∃ o,h.get? a = some o ∧ o.cls = .ref C) : J0g P w H h a (XO a C) :=
 ⟨q,let ⟨o,e,_⟩:=q; ⟨o,e⟩,fun _ _ ⟨o,e,c⟩ k=>⟨o,k o e,c⟩⟩
section
variable {X : Cx} {pins : List (Addr × Obj)} {σ : St} {H : Hp} {s : Shared}
theorem J7Y (I : Inv X pins σ H s) {a C : Addr} {a0 : Value} {H' : Hp} {B h' : Heap} {s' : Shared} (os : s'.os = s.os) (bare : AllBare s'.gens) (un : Un (frs X.stack) [] H H' s.heap s'.heap) (hok : HOk X.prog X.w H' s'.heap)
  (fl : Heap.FlyingW B X.stack a (.ref C) a0 s'.heap) (g1 : ∀ b o,s.heap.get? b = some o → H b = none → b ∉ frs X.stack → B.get? b = some o) (g2 : ∀ b o u,H' b = some u → s'.heap.get? b = some o → B.get? b = some o)
  (g3 : ∀ b o,s.heap.get? b = some o → b ∉ frs X.stack → ∃ o',B.get? b = some o') (na : H' a = none) (fl' : Heap.FlyingW B X.stack a (.ref C) a0 h') (sm : s'.heap.UpToSlots h') :
  Inv X pins σ (upd H' a (XO a C)) { s' with heap:=h' }:=by
 have frn : a ∉ frs X.stack:=fun hb=>by
  obtain ⟨_,o,ho,hd⟩:=fl'.2.2.1.mem hb
  obtain ⟨oe,vs,he,_,hde,_⟩:=fl'.first
  rw [he] at ho
  cases ho
  exact hd vs hde
 have ne : ∀ b o,s.heap.get? b = some o → b ≠ a:=fun b o q e=>by
  subst e
  obtain ⟨o',e⟩:=g3 b o q frn
  rw [fl.2.1] at e
  cases e
 have neH : ∀ b u,H' b = some u → b ≠ a:=fun b u q e=>by subst e; rw [na] at q; cases q
 have up : ∀ b,b ≠ a → upd H' a (XO a C) b = H' b:=fun b e=>by unfold upd; rw [if_neg e]
 refine I.call' (ch:=[]) os ⟨fun b o q n nb _=>fl'.1 b o (g1 b o q n nb),fun b o q n hb _=>?_,fun b o q n _=>?_,fun b o q _=>?_,fun b xs e=>?_,fun b o u e=>?_,fun b ps e=>?_⟩ (fun b u e=>?_) bare (fun b z=>absurd z (by simp))
 ·obtain ⟨sl,e1⟩:=un.slot b o q n hb (by simp)
  obtain ⟨_,o',ho',hd⟩:=fl.2.2.1.mem hb
  rw [e1] at ho'
  cases ho'
  obtain ⟨sl2,e2⟩:=sm b _ e1 hd
  exact ⟨sl2,e2⟩
 ·rw [up b (ne b o q)]
  exact un.free b o q n (by simp)
 ·by_cases hb : b ∈ frs X.stack
  ·obtain ⟨_,o',ho',_⟩:=fl'.2.2.1.mem hb
   exact ⟨o',ho'⟩
  ·obtain ⟨o',e⟩:=g3 b o q hb
   exact ⟨o',fl'.1 b o' e⟩
 ·have z:=un.tups b xs e
  rw [up b (neH b _ z)]
  exact z
 ·have z:=un.frzs b o u e
  rw [up b (neH b _ z)]
  exact z
 ·obtain ⟨m,z⟩:=un.tbls b ps e
  exact ⟨m,by rw [up b (neH b _ z)]; exact z⟩
 ·by_cases hb : b = a
  ·subst hb
   unfold upd at e
   rw [if_pos rfl] at e
   cases e
   exact XO.ok fl'.there
  ·rw [up b hb] at e
   refine (hok b u e).stay (fun c o hc q=>?_) (fun c q=>by rw [up c (neH c _ q)]; exact q) fun c xs q=>by rw [up c (neH c _ q)]; exact q
   rcases hc with rfl | hc
   ·exact fl'.1 c o (g2 c o _ e q)
   ·exact fl'.1 c o (g2 c o _ hc q)
noncomputable abbrev Cx.sui (X : Cx) (a : Addr) : Cx:={ X with A:=X.A.mark (some (.ref a)),calm:=false,xe:=fun _ _=>False }
theorem Inv.sui (I : Inv X pins σ H s) (a : Addr) : Inv (X.sui a) pins σ H s :=
 ⟨⟨I.ok.mod,I.ok.kind,I.ok.glob,I.ok.blt,I.ok.above,I.ok.inj,I.ok.has,I.ok.cab,(fun z=>nomatch z),I.ok.frames,I.ok.stk,I.ok.exf,I.ok.bs,I.ok.bsz,I.ok.noex,I.ok.exfs,I.ok.funs,I.ok.frf⟩,I.os,I.bare,I.base,I.loc,I.cell,I.free,I.freeC,I.pin,I.hok,I.len⟩
theorem Inv.unsui {a : Addr} (ok : X.Ok) (I : Inv (X.sui a) pins σ H s) : Inv X pins σ H s:=⟨ok,I.os,I.bare,I.base,I.loc,I.cell,I.free,I.freeC,I.pin,I.hok,I.len⟩
theorem J1X {M : Model} {A : Around} {E : Value → Shared → Prop} {i : Nat} {x : Str} {hp : Pos} {Q : Unit → Shared → Prop} (I : Inv X pins σ H s) (hN : X.N.Nodup) (hi : X.N[i]? = some x) (hk : X.env.scope.names.lookup x = some .local)
  (h : ∀ s',Inv X pins (σ.set i none) H s' → Q () s') : wpAny M A (do bindName X.env x .none; unbindBehindTheSuite X.env x hp) Q E s:=by
 obtain ⟨m,hn,hl⟩:=id I.loc
 have hcls : (X.env.scope.kind == .class || (X.env.scope.kind == .module && X.env.locals != X.env.globals)) = false:=by rw [I.ok.kind]; rfl
 refine wpAny_nameGoes_keeps hk hn hcls fun h' v hn' hs=>h _ ?_
 obtain ⟨oL,_,_,hoL,_⟩:=id hn
 have ne0 : ∀ b o,X.s₀.heap.get? b = some o → b ≠ X.env.locals:=fun b o e=>Nat.ne_of_lt (Nat.lt_of_lt_of_le (Heap.lt_size e) I.ok.above)
 refine ⟨I.ok,I.os,I.bare,⟨fun b o e n hb hx=>(hs.2 b (ne0 b o e)).trans (I.base.keep b o e n hb hx),fun b o e n hb hx=>?_,I.base.free,fun b o e hx=>?_,I.base.tups,I.base.frzs,I.base.tbls⟩,⟨_,hn',fun j y v' e1 e2 e3=>?_⟩,fun y c e=>?_,I.free,I.freeC,fun p hp=>?_,fun b ob e=>?_,by simpa using I.len⟩
 ·obtain ⟨sl,e1⟩:=I.base.slot b o e n hb hx
  exact ⟨sl,(hs.2 b (ne0 b o e)).trans e1⟩
 ·obtain ⟨o',e1⟩:=I.base.there b o e hx
  exact ⟨o',(hs.2 b (ne0 b o e)).trans e1⟩
 ·have hj : j ≠ i:=fun hj=>by
   subst hj
   have hiσ : j < σ.length:=by rw [I.len]; exact (List.getElem?_eq_some_iff.mp hi).1
   rw [List.getElem?_set_self hiσ] at e2
   cases e2
  rw [List.getElem?_set_ne (Ne.symm hj)] at e2
  obtain ⟨u',r',q⟩:=hl j y v' e1 e2 e3
  refine ⟨u',r',?_⟩
  rcases q with ⟨k,e⟩ | ⟨k,c,e,z⟩
  ·refine .inl ⟨k,?_⟩
   have : y ≠ x:=fun e=>hj (J3U hN e1 (e ▸ hi))
   simp [this,e]
  ·exact .inr ⟨k,c,e,z.sameBut hs (I.cne y c e)⟩
 ·obtain ⟨w',z⟩:=I.cell y c e
  exact ⟨w',z.sameBut hs (I.cne y c e)⟩
 ·obtain ⟨e,n,ne,nf,d⟩:=I.pin p hp
  exact ⟨(hs.2 p.1 ne).trans e,n,ne,nf,d⟩
 ·refine (I.hok b ob e).stay (fun c w' hc q=>(hs.2 c ?_).trans q) (fun _ q=>q) fun _ _ q=>q
  rintro rfl
  rcases hc with z | hc
  ·rw [← z,I.free] at e; cases e
  ·rw [I.free] at hc; cases hc
end
noncomputable def PEX (X : Cx) (e : Expr) (t : XK → TE) : Prop :=
 ∀ (pins : List (Addr × Obj)) (s : Shared) (σ : St) (H : Hp) (Q : VK) (E : XK) (Ex : Value → Shared → Prop),Inv X pins σ H s → t E σ H Q → (∀ ev s1 H1 s0,Inv X pins σ H1 s0 → CX1 X.prog X.w X.stack H1 s0 E ev s1 → Ex ev s1) →
  wpAny (model X.prog X.w) X.A (eval e X.env) (EP X pins σ Q) Ex s
noncomputable def PBX (X : Cx) (b : List Stmt) (t : XK → TS) : Prop :=
 ∀ (pins : List (Addr × Obj)) (s : Shared) (σ : St) (H : Hp) (D : Ends) (E : XK) (Ex : Value → Shared → Prop),Inv X pins σ H s → t E D σ H → (∀ ev s1 H1 s0,Inv X pins σ H1 s0 → CX1 X.prog X.w X.stack H1 s0 E ev s1 → Ex ev s1) →
  wpAny (model X.prog X.w) X.A (execs b X.env) (SP X pins D) Ex s
section
variable {X : Cx} {x m : Str} {k : Nat} {ps : List Str} {sp : Sp} {C : Addr} {p pos apos : Pos} {e o : Expr} {es : List Expr} {t : TA} {to : TE}
theorem AP.unwish {pins : List (Addr × Obj)} {σ : St} {Q : List V → Hp → Prop} {E : Value → Shared → Prop} {us : List Value} {s : Shared} (h : AP (X.wish E) pins σ Q us s) : AP X pins σ Q us s:=by
 obtain ⟨vs,H',I,r,q⟩:=h
 exact ⟨vs,H',I.unwish,r,q⟩
theorem Jbr (G : FnX X.prog X.w X.K X.mg X.base x k ps sp) (hr : Room k X.A) (ha : PA X.nox (e :: es) t) (hg : Gl X x:=by rfl) (hdb : (x == ("__debug__" : Str)) = false:=by decide)
  (he : starEach (e :: es) X.env = (false,eval e X.env) :: starEach es X.env:=by rfl) (hpl : (backTo pos (starEach es X.env)).any (·.1) = false:=by rfl) : PEX X (.Call (.Name x p) (e :: es) [] pos) (fun E=>J7X sp [] E t):=by
 obtain ⟨f,fd,F,hm,hk,hb⟩:=G
 intro pins s σ H Q E Ex I h hx
 refine wpAny_Call_Name_kw (J21 I hg hm ?_ hdb)
 refine PySem.W.callWith_K (h₀:=X.base) I.ok.mod.kin hk (wpAny_mono (ha pos pins s σ H _ (I.wish _) h) (fun us s1 q=>?_) fun _ _ z=>False.elim z) he hpl
 obtain ⟨vs,H1,I1,r,q⟩:=AP.unwish (X:=X) q
 refine ⟨I1.kIn,?_⟩
 have hl : us.length = ps.length:=by
  rw [← r.length]
  have:=F.len _ _ _ _ q
  rw [List.append_nil] at this
  exact this
 have hbb:=hb s1 us I1.kIn (by rw [List.append_nil]; exact hl)
 rw [List.append_nil] at hbb
 rw [List.append_nil] at q
 refine wpAny_call (codeAny_mono (F.run X.A X.stack s1 H1 ⟨us,[]⟩ us vs Q E hr I1.env0 hbb r q) fun r s' hq=>?_)
 cases r with
 | error e=>exact hx e s' H1 s1 I1 hq
 | ok fl =>
  cases fl with
  | ret u=>exact I1.after hq
  | next=>exact False.elim hq
  | brk=>exact False.elim hq
  | cont=>exact False.elim hq
theorem J9D {te : XK → TE} (he : PEX X e te) (hs : swapsWith e none pos.line X.env = pure false:=by rfl) : PBX X [.Expr e pos] (fun E=>JaG (te E)):=by
 intro pins s σ H D E Ex I h hx
 refine wpAny_execs_cons (wpAny_Expr_any (thn (he pins s σ H _ E Ex I h hx) fun v s1 ⟨x,H1,I1,r1,q1⟩=>?_) I.quiet hs)
 exact wpAny_execs_nil ⟨σ,H1,I1,q1⟩
end
noncomputable def Jbs (K : PySem.W.Frag) (CB : Addr) (i : Nat) (tb : XK → TS) (ts : TS) : TS:=fun D σ H=>tb (fun c _ H2=>∃ C,c = .ref C ∧ PySem.W.exmOne K (.ref C) (.ref CB) = some true ∧
 ∀ a,H2 a = none → ts { nx:=fun σ' H'=>D.nx (σ'.set i none) H',bk:=fun σ' H'=>D.bk (σ'.set i none) H',ct:=fun σ' H'=>D.ct (σ'.set i none) H',rt:=D.rt } (σ.set i (some (.ref a))) (upd H2 a (XO a C))) D σ H
section
variable {X : Cx}
theorem Jae {cx n : Str} {CB : Addr} {i : Nat} {cp hp pos : Pos} {b : List Stmt} {tb : XK → TS} {b₀ : Stmt} {suite : List Stmt} {ts : TS} (hst : X.stack = X.env :: X.outer) (hfr : X.env.frame = some X.env.locals) (hN : X.N.Nodup) (hi : X.N[i]? = some n)
  (hl : X.env.scope.names.lookup n = some .local) (hcm : X.mg cx = some (.ref CB)) (hb : PBX X b tb) (hs : ∀ a,PSs (X.sui a) (b₀ :: suite) ts) (hgc : Gl X cx:=by rfl) (hdb : (cx == ("__debug__" : Str)) = false:=by decide) :
  PS X (.Try b [.ExceptHandler (some (.Name cx cp)) (some n) (b₀ :: suite) hp] [] [] pos) (Jbs X.K CB i tb ts):=by
 intro pins s σ H D I h
 refine wpAny_Try_except ?_
 refine wpAny_mono (hb pins s σ H D _ (fun e s₁=>wpAny (model X.prog X.w) X.A (noteFrame e X.env) (fun _ s₂=>wpAny (model X.prog X.w) X.A (setFlight e none) (fun _ s₃=>wpAny (model X.prog X.w) X.A (handleBy e X.env [.ExceptHandler (some (.Name cx cp)) (some n) (b₀ :: suite) hp]) (SP X pins D) X.xe s₃) X.xe s₂) X.xe s₁) I h fun ev s1 H1 s0 I0 hc=>?_) (fun f s1 q=>?_) fun _ _ z=>z
 ·obtain ⟨a,C,a0,H',B,rfl,os,bare,un,hok,fl,g1,g2,g3,na,C',hC,hx,q⟩:=hc
  cases hC
  have fl':=fl
  rw [hst] at fl'
  refine wpAny_looks_onW (by rw [I0.ok.frames,hst]) hfr fl' fun h4 x4 m4=>?_
  refine wpAny_landsW x4 fun h5 x5 m5=>?_
  rw [← hst] at x5
  have I5:=J7Y I0 os bare un hok fl g1 g2 g3 na x5 (Heap.UpToSlots.trans m4 m5)
  refine wpAny_handleBy_cons (codeAny_handlers_test (J21 (X:=X.sui a) (I5.sui a) hgc hcm ?_ hdb)) (by intro q; cases q)
  have LT : PySem.W.Looks (model X.prog X.w) h5 (typeOf (.ref a)) (.ref C):=by
   obtain ⟨o,e1,e2⟩:=x5.there
   exact e2 ▸ (PySem.W.Looks.ld e1).andThen .now
  refine (PySem.W.exm_one I5.kIn LT hx).at (codeAny_handlers_suite_as ?_)
  refine lands_againW x5 fun h6 x6 m6=>?_
  have I6:=J7Y I0 os bare un hok fl g1 g2 g3 na x6 (Heap.UpToSlots.trans (Heap.UpToSlots.trans m4 m5) m6)
  refine J1P (v:=.ref a) (X:=X) I6 hN hi (.inl hl) rfl (fun s7 I7=>?_) (.inr hl)
  refine wpAny_mono (hs a pins s7 _ _ _ (I7.sui a) (q a na)) (fun f s8 q8=>?_) fun _ _ z=>False.elim z
  cases f with
  | next =>
   obtain ⟨σ',H8,I8,q8⟩:=q8
   exact J1X (Inv.unsui I0.ok I8) hN hi hl fun s9 I9=>⟨_,_,I9,q8⟩
  | brk =>
   obtain ⟨σ',H8,I8,q8⟩:=q8
   exact J1X (Inv.unsui I0.ok I8) hN hi hl fun s9 I9=>⟨_,_,I9,q8⟩
  | cont =>
   obtain ⟨σ',H8,I8,q8⟩:=q8
   exact J1X (Inv.unsui I0.ok I8) hN hi hl fun s9 I9=>⟨_,_,I9,q8⟩
  | ret u =>
   obtain ⟨v,σ',H8,I8,rv,q8⟩:=q8
   exact J1X (Inv.unsui I0.ok I8) hN hi hl fun s9 I9=>⟨v,_,_,I9,rv,q8⟩
 ·cases f with
  | next=>exact wpAny_execs_nil q
  | brk=>exact q
  | cont=>exact q
  | ret u=>exact q
end
end L2
set_option linter.all false
set_option maxRecDepth 100000
set_option maxHeartbeats 4000000
namespace L2
open PySem PySem.Spec PyProof.Rows
theorem J7j {K : PySem.W.Frag} {C : Addr} {b : Value} {r : Bool} (e : PySem.W.mroIn K C b = some r) : (PySem.W.clsIn K C).isSome = true:=by
 unfold PySem.W.mroIn at e
 cases h : PySem.W.clsIn K C with
 | none=>rw [h] at e; cases e
 | some cd=>rfl
theorem J2R : bootBuiltins "ValueError" = some (.type "ValueError"):=by decide +kernel
section
variable {X : Cx} {K : PySem.W.Frag}
structure XIs (K : PySem.W.Frag) (C : Addr) : Prop where
 ty : XTy K C
 cls : (PySem.W.clsIn K C).isSome = true
theorem XO.at {P : Program} {w : World} {H : Hp} {h : Heap} {a C : Addr} (x : J0g P w H h a (XO a C)) : ∃ o,h.get? a = some o ∧ o.cls = .ref C:=x.1
theorem J2u (h : X.K = K) : J1h X (.builtin "isinstance") (fun xs H Q=>∃ p C v c b,xs = [.ref p,v] ∧ H p = some (XO p C) ∧ XIs K C ∧ ((∃ D,v = .ref D ∧ c = .ref D) ∨ ∃ T,v = .ty T ∧ c = .type T) ∧ PySem.W.kitOne K (.ref C) c = some b ∧ Q (.bl b) H):=by
 subst h
 intro pins s σ H xs us Q I r h
 obtain ⟨p,C,v,c,b,rfl,hp,T,hv,hk,q⟩:=h
 obtain ⟨u,u2,rfl,r1,r2⟩:=r.two
 cases r1
 have e : u2 = c:=by
  rcases hv with ⟨D,rfl,rfl⟩ | ⟨T,rfl,rfl⟩
  ·exact r2
  ·exact r2
 subst e
 exact PySem.W.kia_one (J9r T.ty T.cls) I.kIn (XO.at (I.hok p _ hp)) hk (fun z=>nomatch z) fun tk=>⟨.bl b,H,I.tok _,rfl,q⟩
end
end L2
set_option linter.all false
set_option maxRecDepth 100000
set_option maxHeartbeats 4000000
namespace L2
open PySem PySem.Spec PyProof.Rows
theorem Jbj {X : Cx} : J2V (CX1 X.prog X.w) X E0:=fun _ _ _ _ _ _ _ h=>by
 obtain ⟨a,C,a0,H',B,_,_,_,_,_,_,_,_,_,_,z⟩:=h
 exact z.elim
section
variable {X : Cx} {K : PySem.W.Frag} {pins : List (Addr × Obj)} {σ : St} {H : Hp} {s : Shared} {A : Around}
end
end L2
set_option linter.all false
set_option maxRecDepth 100000
set_option maxHeartbeats 4000000
namespace L2
open PySem PySem.Spec PyProof.Rows
section
variable {X : Cx} {K : PySem.W.Frag} {pins : List (Addr × Obj)} {σ : St} {H : Hp} {s : Shared} {A : Around}
end
end L2
set_option linter.all false
set_option maxRecDepth 100000
set_option maxHeartbeats 4000000
namespace L2
open PySem PySem.Spec PyProof.Rows
section
variable {X : Cx} {K : PySem.W.Frag}
end
end L2
set_option linter.all false
set_option maxRecDepth 100000
namespace L2
open PySem PySem.Spec PyProof.Rows
end L2
namespace L2
open PySem PySem.Spec PyProof.Rows
section
variable (P : Program) (w : World)
end
section
variable {P : Program} {w : World} {H H' : Hp} {h h' : Heap} {a : Addr} {o : HO}
end
section
variable {P : Program} {w : World} {H : Hp} {h h' : Heap} {x e : Addr} {o' : HO}
end
section
variable {fs fs' ex ex' : List Addr} {H H1 H2 : Hp} {h h1 h2 h' : Heap} {a x e : Addr} {o : HO}
end
end L2
namespace L2
open PySem PySem.Spec PyProof.Rows
section
variable {X : Cx} {pins : List (Addr × Obj)} {σ : List (Option V)} {H H' : Hp} {s : Shared} {h' : Heap}
end
end L2
namespace L2
open PySem PySem.Spec PyProof.Rows
section
variable {X : Cx}
variable {a b : Expr} {ta tb : TE} {pos : Pos}
variable {tA tB' : TT} {rest : List Expr}
end
end L2
namespace L2
open PySem PySem.Spec PyProof.Rows
section
variable {X : Cx} {pins : List (Addr × Obj)} {σ : St} {H : Hp} {s : Shared} {a : Addr} {xs ys : List V}
end
section
variable {X : Cx} {pins : List (Addr × Obj)} {σ : St} {H : Hp} {s : Shared} {E : Value → Shared → Prop}
end
section
variable {X : Cx} {st : Stmt} {rest : List Stmt} {t u : TS} {e : Expr} {te : TE} {pos : Pos}
end
section
variable {X : Cx} {pos : Pos}
end
section
variable {X : Cx} {pos : Pos}
end
end L2
namespace L2
open PySem PySem.Spec PyProof.Rows
section
variable {X : Cx} {tg : Expr}
end
end L2
namespace L2
open PySem PySem.Spec PyProof.Rows
section
variable {X : Cx} {a b c : Expr} {ta tb tc : TE} {pos : Pos}
end
section
variable {X : Cx} {a b c : Expr} {ta tb tc : TE} {pos : Pos}
end
end L2
namespace L2
open PySem PySem.Spec PyProof.Rows
section
variable {prog : Program} {w : World} {A : Around} {E : Value → Shared → Prop} {s : Shared} {K : PySem.W.Frag} {x dx C f : Addr} {mA : Str → Option Value} {name : Str} {v : Value}
end
section
variable {P : Program} {w : World} {H H' : Hp} {h h' : Heap} {a C dx : Addr} {fs fs' : List (Str × V)}
end
section
variable {X : Cx} {pins : List (Addr × Obj)} {σ : St} {H : Hp} {s : Shared} {a C dx : Addr} {fs : List (Str × V)} {f : Str} {v : V} {A : Around} {E : Value → Shared → Prop}
end
section
variable {X : Cx} {o e value : Expr} {f : Str} {pos pos' tpos : Pos} {ta tv : TE}
end
section
variable {X : Cx} {pins : List (Addr × Obj)} {σ : St} {H : Hp} {s : Shared} {A : Around} {E : Value → Shared → Prop} {Q : Value → Shared → Prop} {c : Value} {b : Bool}
end
end L2
namespace L2
open PySem PySem.Spec PyProof.Rows
section
variable {X : Cx} {e : Expr} {es : List Expr} {te : TE} {t : TA} {pos : Pos}
end
section
variable {X : Cx} {pins : List (Addr × Obj)} {σ : St} {H : Hp} {s s' : Shared}
end
section
variable {X : Cx} {CX : CXT} {k : Nat} {f C : Addr} {fd : FuncData} {ps : List Str} {sp : Sp} {dvs : List V} {ds : List Value} {E : XK} {x m : Str} {p pos apos : Pos} {e o : Expr} {es : List Expr} {ta : TE} {t : TA}
end
section
variable {X : Cx} {CX : CXT} {k : Nat} {f C : Addr} {fd : FuncData} {ps ks : List Str} {sp : Sp} {E : XK} {x m : Str} {p pos apos kpos : Pos} {e o : Expr} {es : List Expr} {kws : List Keyword} {te ta : TE} {t tk : TA} {nm : Option Str}
variable {g : List Value → List Value → List Value} {gV : List V → List V → List V}
end
end L2
namespace L2
open PySem PySem.Spec PyProof.Rows
section
variable {X : Cx} {x : Str} {p pos : Pos} {e : Expr} {es : List Expr} {t : TA} {id T : String} {r : List V → Hp → VK → Prop}
end
end L2
namespace L2
open PySem PySem.Spec PyProof.Rows
section
variable {κ : Type} [DecidableEq κ]
noncomputable def valV (kvs : List (κ × V)) (k : κ) : Option V:=(kvs.find? fun kv=>decide (kv.1 = k)).map (·.2)
noncomputable def putK (kvs : List (κ × V)) (k : κ) (v : V) : List (κ × V) :=
 if (kvs.any fun kv=>decide (kv.1 = k)) = true then kvs.map (fun kv=>if kv.1 = k then (kv.1,v) else kv) else kvs ++ [(k,v)]
theorem J2M {p : κ × V} {r : List (κ × V)} {k : κ} (e : p.1 = k) : valV (p :: r) k = some p.2:=by simp [valV,List.find?_cons,e]
theorem J2G {p : κ × V} {r : List (κ × V)} {k : κ} (e : ¬ p.1 = k) : valV (p :: r) k = valV r k:=by simp [valV,List.find?_cons,e]
theorem J41 (k : κ) : ∀ kvs : List (κ × V),(kvs.any fun kv=>decide (kv.1 = k)) = (valV kvs k).isSome
 | []=>rfl
 | p :: r=>by
  rw [List.any_cons]
  by_cases e : p.1 = k
  ·simp only [J2M e,decide_eq_true e,Bool.true_or,Option.isSome_some]
  ·rw [J2G e,decide_eq_false e,Bool.false_or]; exact J41 k r
theorem J1O (kvs : List (κ × V)) (k : κ) (v : V) : (putK kvs k v).length ≤ kvs.length + 1:=by
 unfold putK
 split
 ·rw [List.length_map]; omega
 ·rw [List.length_append,List.length_cons,List.length_nil]; omega
theorem J9J {kvs : List (κ × V)} {k : κ} (v : V) (h : valV kvs k = none) : putK kvs k v = kvs ++ [(k,v)]:=by
 unfold putK
 rw [J41,h]
 exact if_neg (by decide)
theorem RelO.isSome_eq {o : Option V} {u : Option Value} (r : RelO o u) : o.isSome = u.isSome:=by
 cases o with
 | none=>cases u with
  | none=>rfl
  | some _=>exact (show False from r).elim
 | some _=>cases u with
  | none=>exact (show False from r).elim
  | some _=>rfl
theorem KV.val {kvs : List (κ × V)} {vs : List (κ × Value)} (r : KV kvs vs) (k : κ) : RelO (valV kvs k) (valueAt vs k):=by
 unfold KV at r
 induction r with
 | nil=>exact True.intro
 | @cons p q ps qs h t ih =>
  obtain ⟨h1,h2⟩:=h
  by_cases e : p.1 = k
  ·have e' : q.1 = k:=h1.symm.trans e
   have b : valueAt (q :: qs) k = some q.2:=by simp [valueAt,List.find?_cons,e']
   rw [J2M e,b]; exact h2
  ·have e' : ¬ q.1 = k:=fun z=>e (h1.trans z)
   have b : valueAt (q :: qs) k = valueAt qs k:=by simp [valueAt,List.find?_cons,e']
   rw [J2G e,b]; exact ih
theorem KV.any {kvs : List (κ × V)} {vs : List (κ × Value)} (r : KV kvs vs) (k : κ) : (kvs.any fun kv=>decide (kv.1 = k)) = vs.any fun kv=>decide (kv.1 = k):=by
 unfold KV at r
 induction r with
 | nil=>rfl
 | cons h t ih=>rw [List.any_cons,List.any_cons,ih,h.1]
theorem KV.repl {kvs : List (κ × V)} {vs : List (κ × Value)} (r : KV kvs vs) (k : κ) {y : V} {u : Value} (ry : RelV y u) :
  KV (kvs.map fun kv=>if kv.1 = k then (kv.1,y) else kv) (vs.map fun kv=>if kv.1 = k then (kv.1,u) else kv):=by
 unfold KV at r ⊢
 induction r with
 | nil=>exact .nil
 | @cons p q ps qs h t ih =>
  rw [List.map_cons,List.map_cons]
  refine .cons ?_ ih
  obtain ⟨h1,h2⟩:=h
  by_cases e : p.1 = k
  ·rw [if_pos e,if_pos (h1.symm.trans e)]; exact ⟨h1,ry⟩
  ·rw [if_neg e,if_neg (fun z=>e (h1.trans z))]; exact ⟨h1,h2⟩
theorem KV.put {kvs : List (κ × V)} {vs : List (κ × Value)} (r : KV kvs vs) (k : κ) {y : V} {u : Value} (ry : RelV y u) : KV (putK kvs k y) (stored vs k u):=by
 unfold putK stored
 rw [r.any k]
 by_cases e : (vs.any fun kv=>decide (kv.1 = k)) = true
 ·rw [if_pos e,if_pos e]; exact r.repl k ry
 ·rw [if_neg e,if_neg e]; exact Paired.snoc r ⟨rfl,ry⟩
theorem KV.keys {kvs : List (κ × V)} {vs : List (κ × Value)} (r : KV kvs vs) : kvs.map (·.1) = vs.map (·.1):=by
 unfold KV at r
 induction r with
 | nil=>rfl
 | cons h t ih=>rw [List.map_cons,List.map_cons,ih,h.1]
theorem KV.length {kvs : List (κ × V)} {vs : List (κ × Value)} (r : KV kvs vs) : kvs.length = vs.length:=Paired.length r
end
theorem J7M {P : Program} {w : World} {k : Key} {u : Value} (r : RelV (kV k) u) : (JX P w).is k u = true:=by
 cases k with
 | inl i=>obtain ⟨t,e⟩:=(show ∃ t,u = Value.int i t from r); subst e; exact J6b P w i t
 | inr x=>obtain ⟨t,e⟩:=(show ∃ t,u = Value.str x t from r); subst e; exact J5Z P w x t
theorem J4x {P : Program} {w : World} : ∀ {ks : List Key} {us : List Value},Vals (ks.map kV) us → ItemsAre (JX P w) ks us
 | [],_,r=>by rw [List.map_nil] at r; cases r; exact .nil
 | k :: ks,_,r=>by
  rw [List.map_cons] at r
  cases r with
  | cons h t=>exact .cons (J7M h) (J4x t)
noncomputable abbrev KT (H : Hp) : List (List Key × V) → List (List Key × Addr × Value) → Prop:=Paired fun p q=>p.1 = q.1 ∧ H q.2.1 = some (.tup (p.1.map kV)) ∧ RelV p.2 q.2.2
theorem KT.val {H : Hp} {kvs : List (List Key × V)} {xs : List (List Key × Addr × Value)} (r : KT H kvs xs) (k : List Key) : RelO (valV kvs k) ((atKey xs k).map (·.2)):=by
 induction r with
 | nil=>exact True.intro
 | @cons p q ps qs h t ih =>
  obtain ⟨h1,_,h2⟩:=h
  by_cases e : p.1 = k
  ·have e' : q.1 = k:=h1.symm.trans e
   have b : atKey (q :: qs) k = some q.2:=by simp [atKey,List.find?_cons,e']
   rw [J2M e,b]; exact h2
  ·have e' : ¬ q.1 = k:=fun z=>e (h1.trans z)
   have b : atKey (q :: qs) k = atKey qs k:=by simp [atKey,List.find?_cons,e']
   rw [J2G e,b]; exact ih
theorem KT.repl {H : Hp} {kvs : List (List Key × V)} {xs : List (List Key × Addr × Value)} (r : KT H kvs xs) (k : List Key) {y : V} {u : Value} (ry : RelV y u) :
  KT H (kvs.map fun kv=>if kv.1 = k then (kv.1,y) else kv) (xs.map (putAt k u)):=by
 induction r with
 | nil=>exact .nil
 | @cons p q ps qs h t ih =>
  rw [List.map_cons,List.map_cons]
  refine .cons ?_ ih
  obtain ⟨h1,h2,h3⟩:=h
  unfold putAt
  by_cases e : p.1 = k
  ·rw [if_pos e,if_pos (h1.symm.trans e)]; exact ⟨h1,h2,ry⟩
  ·rw [if_neg e,if_neg (fun z=>e (h1.trans z))]; exact ⟨h1,h2,h3⟩
theorem KT.put {H : Hp} {kvs : List (List Key × V)} {xs : List (List Key × Addr × Value)} (r : KT H kvs xs) (k : List Key) {b : Addr} {y : V} {u : Value} (hb : H b = some (.tup (k.map kV))) (ry : RelV y u) :
  KT H (putK kvs k y) (storedH xs k b u):=by
 have e : (kvs.any fun kv=>decide (kv.1 = k)) = (atKey xs k).isSome:=by
  rw [J41,(r.val k).isSome_eq,Option.isSome_map]
 unfold putK storedH
 rw [e]
 by_cases q : (atKey xs k).isSome = true
 ·rw [if_pos q,if_pos q]; exact r.repl k ry
 ·rw [if_neg q,if_neg q]; exact Paired.snoc r ⟨rfl,hb,ry⟩
theorem KT.keeps {H H' : Hp} {kvs : List (List Key × V)} {xs : List (List Key × Addr × Value)} (r : KT H kvs xs) (ht : ∀ b ys,H b = some (.tup ys) → H' b = some (.tup ys)) : KT H' kvs xs :=
 Paired.mapP r fun _ _ z=>⟨z.1,ht _ _ z.2.1,z.2.2⟩
section
variable {P : Program} {w : World} {H : Hp} {h : Heap} {a : Addr}
theorem JaB {u : HO} (ok : HOk P w H h) (e : Rd H a u) : J0g P w H h a u:=e.ok ok
theorem J9l {kvs : List (Key × V)} (ok : HOk P w H h) (e : Rd H a (.dK kvs)) : kvs.length ≤ sizeLine ∧ (a == sysModules) = false ∧ ∃ vs,KV kvs vs ∧ h.DictOf (JX P w) a vs :=
 show J0g P w H h a (.dK kvs) from JaB ok e
theorem J9E {kvs : List (Key × V)} (ok : HOk P w H h) (e : H a = some (.dK kvs)) : kvs.length ≤ sizeLine ∧ (a == sysModules) = false ∧ ∃ vs,KV kvs vs ∧ h.DictOf (JX P w) a vs:=J9l ok (.inl e)
theorem J75 {ks : List Key} (ok : HOk P w H h) (e : H a = some (.tup (ks.map kV))) : (tupleKind (JX P w)).is h ks a:=by
 obtain ⟨_,its,r,o,h1,h2,n,h3⟩:=(show J0g P w H h a (.tup (ks.map kV)) from ok a _ e)
 exact ⟨o,its.toArray,n,h1,h2,h3,by simpa using J4x r⟩
theorem JaJ {kvs : List (List Key × V)} (ok : HOk P w H h) (e : Rd H a (.dT kvs)) : kvs.length ≤ sizeLine ∧ (a == sysModules) = false ∧
  ∃ xs,KT H kvs xs ∧ h.DictOfH (tupleKind (JX P w)) a xs:=by
 obtain ⟨z,y,xs,r,o,es,ep,h1,h2,h3,h4,h5⟩:=(show J0g P w H h a (.dT kvs) from JaB ok e)
 refine ⟨z,y,xs,r,o,es,ep,h1,h2,h3,h4,fun x hx=>?_,h5⟩
 have all : ∀ {l : List (List Key × V)} {m : List (List Key × Addr × Value)},KT H l m → ∀ x ∈ m,(tupleKind (JX P w)).is h x.1 x.2.1:=by
  intro l m q
  induction q with
  | nil=>intro x hx; exact nomatch hx
  | @cons p q ps qs hq t ih =>
   intro x hx
   rcases List.mem_cons.mp hx with e | hx
   ·subst e
    exact J75 ok (by rw [← hq.1]; exact hq.2.1)
   ·exact ih x hx
 exact all r x hx
theorem JbL {kvs : List (List Key × V)} (ok : HOk P w H h) (e : H a = some (.dT kvs)) : kvs.length ≤ sizeLine ∧ (a == sysModules) = false ∧
  ∃ xs,KT H kvs xs ∧ h.DictOfH (tupleKind (JX P w)) a xs:=JaJ ok (.inl e)
end
noncomputable def DGet (H : Hp) (a : Addr) (y : V) (r : Option V) : Prop :=
 (∃ kvs k,Rd H a (.dK kvs) ∧ y = kV k ∧ r = valV kvs k) ∨ ∃ kvs k b,Rd H a (.dT kvs) ∧ y = .ref b ∧ H b = some (.tup (k.map kV)) ∧ r = valV kvs k
noncomputable def DPut (H : Hp) (a : Addr) (y v : V) (H' : Hp) : Prop :=
 (∃ kvs k,H a = some (.dK kvs) ∧ y = kV k ∧ kvs.length < sizeLine ∧ H' = upd H a (.dK (putK kvs k v))) ∨
 ∃ kvs k b,H a = some (.dT kvs) ∧ y = .ref b ∧ H b = some (.tup (k.map kV)) ∧ kvs.length < sizeLine ∧ H' = upd H a (.dT (putK kvs k v))
theorem DGet.k {H : Hp} {a : Addr} {kvs : List (Key × V)} {k : Key} (e : H a = some (.dK kvs)) : DGet H a (kV k) (valV kvs k):=.inl ⟨kvs,k,.inl e,rfl,rfl⟩
theorem DPut.k {H : Hp} {a : Addr} {kvs : List (Key × V)} {k : Key} {v : V} (e : H a = some (.dK kvs)) (hl : kvs.length < sizeLine) : DPut H a (kV k) v (upd H a (.dK (putK kvs k v))):=.inl ⟨kvs,k,e,rfl,hl,rfl⟩
section
variable {X : Cx} {pins : List (Addr × Obj)} {σ : St} {H : Hp} {s : Shared} {a : Addr} {y v : V} {u r : Value} {o : Option V} {A : Around} {E : Value → Shared → Prop}
theorem Inv.big (I : Inv X pins σ H s) : sysModules < s.heap.objs.size:=by
 have h : mainGlobals < s.heap.objs.size:=(I.mod.glob.keeps I.bk).lt
 exact Nat.lt_trans (by decide) h
theorem Jau {Q : Value → Shared → Prop} (hu : A.units + 1 < cLine) (I : Inv X pins σ H s) (g : DGet H a y o) (ry : RelV y u) (h : ∀ s',Inv X pins σ H s' → Q (.bool (!o.isSome)) s') :
  wpAny (model X.prog X.w) A (compareOp .NotIn u (.ref a)) Q E s:=by
 rcases g with ⟨kvs,k,e,ey,l⟩ | ⟨kvs,k,b,e,ey,eb,l⟩
 ·subst ey
  obtain ⟨z,hd,vs,rel,dd⟩:=J9l I.hok e
  refine wpAny_notIn_of (J7M ry) hd dd.mapOf ?_
  rw [← (rel.val k).isSome_eq,← l]
  exact h _ (I.tok _)
 ·subst ey
  cases (show u = Value.ref b from ry)
  obtain ⟨z,hd,xs,rel,dd⟩:=JaJ I.hok e
  refine wpAny_notIn_heap (tupleKind_room_in1 hu) (J75 I.hok eb) hd dd ?_
  have q:=(rel.val k).isSome_eq
  rw [Option.isSome_map] at q
  rw [← q,← l]
  exact h _ (I.tok _)
theorem J5o {h' : Heap} {t' : Nat} {ob : HO} (I : Inv X pins σ H s) (mu : Mut (H a)) (hs : Heap.SameBut a s.heap h') (he : ∃ q,h'.get? a = some q) (new : J0g X.prog X.w (upd H a ob) h' a ob) :
  Inv X pins σ (upd H a ob) { s with heap:=h',toks:=t' } :=
 I.write (x:=a) (e:=a) mu (.inl rfl) (fun b q hb z=>(hs.2 b hb).trans z) he new
theorem J9f {P : Program} {w : World} {H' : Hp} {h' : Heap} {kvs : List (Key × V)} {vs : List (Key × Value)} (z : kvs.length ≤ sizeLine) (hd : (a == sysModules) = false) (rel : KV kvs vs) (dd : h'.DictOf (JX P w) a vs) :
  J0g P w H' h' a (.dK kvs):=⟨z,hd,vs,rel,dd⟩
theorem J8j {H' : Hp} {Q : Unit → Shared → Prop} (hu : A.units + 1 < cLine) (I : Inv X pins σ H s) (g : DPut H a y v H') (ry : RelV y u) (rv : RelV v r) (h : ∀ s',Inv X pins σ H' s' → Q () s') :
  wpAny (model X.prog X.w) A (setItem (.ref a) u r) Q E s:=by
 rcases g with ⟨kvs,k,e,ey,l,eH⟩ | ⟨kvs,k,b,e,ey,eb,l,eH⟩
 ·subst ey eH
  obtain ⟨z,hd,vs,rel,dd⟩:=J9E I.hok e
  have hz : vs.length ≤ sizeLine:=by rw [← rel.length]; exact z
  have hl : (putK kvs k v).length ≤ sizeLine:=by have:=J1O kvs k v; omega
  refine wpAny_setItem_pairs (hsz:=hz) (J7M ry) dd fun h' dd' hs=>h _ ?_
  have he : ∃ q,h'.get? a = some q:=let ⟨q,_,_,hq,_⟩:=dd'; ⟨q,hq⟩
  exact J5o I (by rw [e]; exact True.intro) hs he (J9f hl hd (rel.put k rv) dd')
 ·subst ey eH
  cases (show u = Value.ref b from ry)
  obtain ⟨z,hd,xs,rel,dd⟩:=JbL I.hok e
  have hz : xs.length ≤ sizeLine:=by rw [← Paired.length rel]; exact z
  have hl : (putK kvs k v).length ≤ sizeLine:=by have:=J1O kvs k v; omega
  refine wpAny_setItem_heap (hsz:=hz) (tupleKind_room_in1 hu) (J75 I.hok eb) dd fun h' dd' hs=>h _ ?_
  obtain ⟨q,es,ep,hq,h2,h3,h4,_,h5⟩:=dd'
  refine J5o I (by rw [e]; exact True.intro) hs ⟨q,hq⟩ ⟨hl,hd,_,(rel.put k eb rv).keeps fun c ys ec=>?_,q,es,ep,hq,h2,h3,h4,h5⟩
  rw [Jq (JaH ec e (fun z=>nomatch z))]
  exact ec
end
section
variable {X : Cx} {pins : List (Addr × Obj)} {σ : St} {H : Hp} {s : Shared} {a : Addr} {kvs : List (Key × V)} {k : Key} {u : Value} {A : Around} {E : Value → Shared → Prop}
theorem JbH {Q : Value → Shared → Prop} (I : Inv X pins σ H s) (e : Rd H a (.dK kvs)) (h : ∀ t s',Inv X pins σ H s' → Q (.int kvs.length t) s') : wpAny (model X.prog X.w) A (call (.builtin "len") [.ref a]) Q E s:=by
 obtain ⟨z,hd,vs,rel,dd⟩:=J9l I.hok e
 refine call_len_dict hd dd (by rw [← rel.length]; rw [sizeLine_eq] at z; omega) ?_
 rw [← rel.length]
 exact h _ _ (I.tok _)
end
noncomputable def Jax (ty td : TE) : TE:=fun σ H Q=>ty σ H fun y H1=>td σ H1 fun x H2=>∃ a o,x = .ref a ∧ DGet H2 a y o ∧ Q (.bl (!o.isSome)) H2
noncomputable def JbP (td ty tv : TE) : TS:=fun D σ H=>tv σ H fun v H1=>td σ H1 fun x H2=>ty σ H2 fun y H3=>∃ a H4,x = .ref a ∧ DPut H3 a y v H4 ∧ D.nx σ H4
section
variable {X : Cx} {o i e value : Expr} {pos pos' tpos : Pos} {td ty tv : TE}
theorem J8t (hu : X.A.units + 1 < cLine) (hi : PE X i ty) (ho : PE X o td) : PC X .NotIn i o (Jax ty td):=by
 intro pins s σ H Q I h
 refine thn (hi pins s σ H _ I h) fun iv s1 ⟨y,H1,I1,ry,q1⟩=>thn (ho pins s1 σ H1 _ I1 q1) fun u s2 ⟨x,H2,I2,rx,a,ov,ex,g,q2⟩=>?_
 subst ex
 obtain rfl : u = Value.ref a:=rx
 exact Jau hu I2 g ry fun s3 I3=>⟨.bl (!ov.isSome),H2,I3,rfl,q2⟩
theorem Ja9 (hu : X.A.units + 1 < cLine) (ho : PE X o td) (hi : PE X i ty) (hv : PE X value tv) (hs : swapsWith value (some (.Subscript o i pos')) pos.line X.env = pure false) :
  PS X (.Assign [.Subscript o i pos'] value pos) (JbP td ty tv):=by
 intro pins s σ H D I h
 refine wpAny_Assign_Subscript (thn (hv pins s σ H _ I h) fun r s1 ⟨v,H1,I1,rv,q1⟩=>thn (ho pins s1 σ H1 _ I1 q1) fun u s2 ⟨x,H2,I2,rx,q2⟩=>thn (hi pins s2 σ H2 _ I2 q2) fun iv s3 ⟨y,H3,I3,ry,a,H4,ex,g,q3⟩=>?_) hs
 subst ex
 obtain rfl : u = Value.ref a:=rx
 exact J8j hu I3 g ry rv fun s4 I4=>⟨σ,H4,I4,q3⟩
end
theorem J91 {P : Program} {w : World} {H : Hp} (h : Heap) (hb : sysModules < h.objs.size) : J0g P w H (h.push { cls:=.type "dict",data:=.dict #[] }) h.objs.size (.dK []) :=
 ⟨Nat.zero_le _,beq_eq_false_iff_ne.mpr (Ne.symm (Nat.ne_of_lt hb)),[],.nil,Heap.DictOf.new h⟩
section
variable {X : Cx} {pos : Pos}
end
noncomputable def J7a : List (TE × TE) → St → Hp → (List (V × V) → Hp → Prop) → Prop
 | [],_,H,Q=>Q [] H
 | (tk,tv) :: r,σ,H,Q=>tk σ H fun x H1=>tv σ H1 fun y H2=>J7a r σ H2 fun ps H3=>Q ((x,y) :: ps) H3
noncomputable abbrev VV : List (V × V) → List (Value × Value) → Prop:=Paired fun p q=>RelV p.1 q.1 ∧ RelV p.2 q.2
noncomputable def PPs (X : Cx) (pos : Pos) (keys : List (Option Expr)) (values : List Expr) (trs : List (TE × TE)) : Prop :=
 ∀ (pins : List (Addr × Obj)) (s : Shared) (σ : St) (H : Hp) (Q : List (V × V) → Hp → Prop),Inv X pins σ H s → J7a trs σ H Q →
  wpAny (model X.prog X.w) X.A (evalPairs (pairTrees keys values X.env pos)) (fun vs s'=>∃ ps H',Inv X pins σ H' s' ∧ VV ps vs ∧ Q ps H') X.xe s
theorem Jai {X : Cx} {pos : Pos} : PPs X pos [] [] []:=fun pins s σ H Q I h=>pairTrees_nil_walk ⟨[],H,I,.nil,h⟩
theorem J9P {X : Cx} {pos : Pos} {k v : Expr} {ks : List (Option Expr)} {vs : List Expr} {tk tv : TE} {trs : List (TE × TE)} (hk : PE X k tk) (hv : PE X v tv) (hr : PPs X pos ks vs trs) :
  PPs X pos (some k :: ks) (v :: vs) ((tk,tv) :: trs):=fun pins s σ H Q I h =>
 pairTrees_cons_walk (thn (hk pins s σ H _ I h) fun u s1 ⟨x,H1,I1,rx,q1⟩=>thn (hv pins s1 σ H1 _ I1 q1) fun w2 s2 ⟨y,H2,I2,ry,q2⟩ =>
  thn (hr pins s2 σ H2 _ I2 q2) fun ws s3 ⟨ps,H3,I3,rel,q3⟩=>⟨(x,y) :: ps,H3,I3,.cons ⟨rx,ry⟩ rel,q3⟩)
noncomputable def J2U (kvs more : List (Key × V)) : List (Key × V):=more.foldl (fun acc kv=>putK acc kv.1 kv.2) kvs
theorem KV.merge : ∀ {more : List (Key × V)} {rs : List (Key × Value)} {kvs : List (Key × V)} {vs : List (Key × Value)},KV more rs → KV kvs vs → KV (J2U kvs more) (merged vs rs):=by
 intro more rs kvs vs r
 unfold KV at r
 induction r generalizing kvs vs with
 | nil=>intro q; exact q
 | @cons p q ps qs h t ih =>
  intro r0
  have e : KV (putK kvs p.1 p.2) (stored vs q.1 q.2):=by
   have:=r0.put p.1 h.2
   rw [← h.1]; exact this
  exact ih e
theorem J2e : ∀ (more kvs : List (Key × V)),(J2U kvs more).length ≤ kvs.length + more.length
 | [],kvs=>by show kvs.length ≤ kvs.length + 0; omega
 | p :: r,kvs=>by
  have h1:=J2e r (putK kvs p.1 p.2)
  have h2:=J1O kvs p.1 p.2
  show (J2U (putK kvs p.1 p.2) r).length ≤ _
  rw [List.length_cons]; omega
theorem J3E {P : Program} {w : World} : ∀ {kvs : List (Key × V)} {ws : List (Value × Value)},VV (kvs.map fun kv=>(kV kv.1,kv.2)) ws → ∃ rs,Carries (JX P w) ws rs ∧ KV kvs rs
 | [],_,r=>by rw [List.map_nil] at r; cases r; exact ⟨[],True.intro,.nil⟩
 | p :: kvs,_,r=>by
  rw [List.map_cons] at r
  cases r with
  | @cons a b as bs h t =>
   obtain ⟨rs,c,q⟩:=J3E (P:=P) (w:=w) t
   obtain ⟨b1,b2⟩:=b
   exact ⟨(p.1,b2) :: rs,⟨J7M h.1,rfl,c⟩,.cons ⟨rfl,h.2⟩ q⟩
noncomputable def Jbu (trs : List (TE × TE)) : TE:=fun σ H Q=>∀ p,H p = none → J7a trs σ (upd H p (.dK [])) fun ps H2=>H2 p = some (.dK []) ∧ ∃ kvs : List (Key × V),ps = kvs.map (fun kv=>(kV kv.1,kv.2)) ∧ kvs.length ≤ 15 ∧ Q (.ref p) (upd H2 p (.dK (J2U [] kvs)))
theorem Ja2 {X : Cx} {pos : Pos} {keys : List (Option Expr)} {values : List Expr} {trs : List (TE × TE)} (h : PPs X pos keys values trs) (hall : keys.all (·.isSome) = true) (hl : keys.length = values.length) (h0 : keys ≠ [])
  (h15 : keys.length ≤ 15) : PE X (.Dict keys values pos) (Jbu trs):=by
 intro pins s σ H Q I q
 have hn:=I.hok.fresh (Nat.le_refl s.heap.objs.size)
 have I1:=I.laid (a:=s.heap.objs.size) (o:=.dK []) (h':=s.heap.push { cls:=.type "dict",data:=.dict #[] }) (t':=s.toks) (fun _ _ q=>Heap.get?_push_of_some _ q) (Nat.le_refl _) (J91 s.heap I.big)
 refine wpAny_Dict_walk (knd:=JX X.prog X.w) hall hl h0 h15 (thn (h pins _ σ _ _ I1 (q _ hn)) fun ws s2 ⟨ps,H2,I2,rel,e,kvs,ep,lk,q2⟩=>?_)
 subst ep
 obtain ⟨rs,c,rk⟩:=J3E (P:=X.prog) (w:=X.w) rel
 obtain ⟨z,hd,vs0,r0,dd⟩:=J9E I2.hok e
 cases r0
 refine ⟨rs,c,dd,fun h' dd' hs=>⟨.ref s.heap.objs.size,_,?_,rfl,q2⟩⟩
 have hz : (J2U [] kvs).length ≤ sizeLine:=by
  have h1:=J2e kvs []
  rw [List.length_nil] at h1
  rw [sizeLine_eq]; omega
 have he : ∃ q,h'.get? s.heap.objs.size = some q:=let ⟨q,_,_,hq,_⟩:=dd'; ⟨q,hq⟩
 exact J5o I2 (by rw [e]; exact True.intro) hs he (J9f hz hd (rk.merge .nil) dd')
section
variable {X : Cx} {pins : List (Addr × Obj)} {σ : St} {H : Hp} {s : Shared} {a : Addr} {y d : V} {u r : Value} {o : Option V} {A : Around} {E : Value → Shared → Prop}
end
section
variable {X : Cx} {o e f : Expr} {apos cpos : Pos} {td ty tx : TE}
end
section
variable {X : Cx} {pins : List (Addr × Obj)} {σ : St} {H : Hp} {s : Shared} {a : Addr} {kvs : List (Key × V)} {A : Around} {E : Value → Shared → Prop}
end
section
variable {X : Cx} {pins : List (Addr × Obj)} {σ : St} {H : Hp} {s : Shared} {a : Addr} {y : V} {u : Value} {A : Around} {E : Value → Shared → Prop}
end
end L2
namespace Att
open PySem PySem.W PySem.Calls PyProof.Rows
section
variable {prog : Program} {w : World} {A : Around} {E : Value → Shared → Prop} {s : Shared} {K : Frag}
end
end Att
namespace L2
open PySem PySem.Spec PyProof.Rows
end L2
namespace L2
open PySem PySem.Spec PyProof.Rows
end L2
namespace L2
open PySem PySem.Spec PyProof.Rows
section
variable {P : Program} {w : World} {K : PySem.W.Frag} {mg : Str → Option Value} {base : Heap}
end
section
variable {X : Cx}
theorem J8p : J1h X (.builtin "len") (fun xs H Q=>∃ a kvs,xs = [V.ref a] ∧ H a = some (.dK kvs) ∧ Q (.int kvs.length) H):=by
 intro pins s σ H xs us Q I r h
 obtain ⟨a,kvs,rfl,ha,q⟩:=h
 obtain ⟨u,rfl,ru⟩:=J7D r
 cases ru
 exact JbH I (.inl ha) fun t s' I'=>⟨.int kvs.length,H,I',⟨t,rfl⟩,q⟩
end
section
variable {κ : Type} [DecidableEq κ]
end
end L2
set_option linter.all false
set_option maxRecDepth 100000
set_option maxHeartbeats 4000000
namespace L2
open PySem PySem.Spec PyProof.Rows
section
variable {prog : Program} {w : World} {K : Type} [DecidableEq K] {knd : HeapKind prog w K} {A : Around} {E : Value → Shared → Prop} {s : Shared} {d a : Addr} {xs : List (K × Addr × Value)} {k : K} {z : Value}
end
section
variable {X : Cx} {K : PySem.W.Frag}
end
end L2
set_option linter.all false
set_option maxRecDepth 100000
set_option maxHeartbeats 4000000
namespace L2
open PySem PySem.Spec PyProof.Rows
section
variable {X : Cx} {K : PySem.W.Frag}
end
section
variable {X : Cx} {es : List Expr} {k : Nat} {tpos : Pos}
end
section
variable {elt tg iter : Expr} {ifs : List Expr} {scope : Scope} {pos : Pos} {N : List Str} {js : List (Option Nat)} {wi : TI} {g : TG} {tc : TT} {te : TE}
end
end L2
set_option linter.all false
set_option maxRecDepth 100000
set_option maxHeartbeats 4000000
namespace L2
open PySem PySem.Spec PyProof.Rows
section
variable {prog : Program} {w : World} {K : Type} [DecidableEq K] {knd : KeyKind prog w K} {A : Around} {E : Value → Shared → Prop} {s : Shared}
theorem J64 : typeLookup (.type "dict") "__len__" = pure (some (.builtin "dict.__len__")):=by rw [typeLookup_type,builtinLookup_eq_fast]; kernel_rfl
theorem J5e {Q : List Value → Shared → Prop} {d : Addr} {kvs : List (K × Value)} (hh : A.handled = none) (hd : (d == sysModules) = false) (hm : s.heap.DictOf knd d kvs) (hn : kvs.length ≤ sizeLine)
  (hQ : ∀ s' acc,(∀ b o,s.heap.get? b = some o → s'.heap.get? b = some o) → s'.gens = s.gens → s'.drawn = s.drawn → s'.os = s.os → s.heap.objs.size < s'.heap.objs.size → ItemsOf (fun i v=>∃ k x,kvs[i]? = some (k,x) ∧ knd.is k v = true) acc kvs.length → Q acc.toList s') :
  wpAny (model prog w) A (collect (.ref d)) Q E s:=by
 have hdl : d < s.heap.objs.size:=by
  obtain ⟨o,ho,_⟩:=Heap.dictOf_iff.mp hm
  exact Heap.lt_size ho
 have hsd : s.heap.objs.size ≠ d:=Nat.ne_of_gt hdl
 unfold collect
 refine wpAny_bind (wpAny_runValue (codeAny_builtin PySem.F.entry_proto_collect ?_))
 rw [Around.under_plainId PySem.F.plain_proto_collect _]
 show wpAny _ A.in1 (newList [] >>= fun l=>again (.builtin "list.__iadd__" ⟨[l,.ref d],[]⟩)) _ _ s
 refine wpAny_bind (wpAny_newObj_type ?_)
 refine wpAny_pure ⟨plainId_quiet PySem.F.plain_list_iadd _,codeAny_builtin PySem.F.entry_list_iadd ?_⟩
 rw [Around.under_plainId PySem.F.plain_list_iadd _]
 show wpAny _ A.in1 (Builtin.List.listExtendWith (.ref s.heap.objs.size) (.ref d) (.ref s.heap.objs.size)) _ _ _
 generalize hH : s.heap.push { cls:=.type "list",data:=.seq ([] : List Value).toArray } = H1
 have hHs : H1.objs.size = s.heap.objs.size + 1:=by rw [← hH,Heap.size_push]
 have keep1 : ∀ b o,s.heap.get? b = some o → H1.get? b = some o:=fun b o e=>by rw [← hH]; exact Heap.get?_push_of_some _ e
 have hm1 : H1.DictOf knd d kvs:=hm.keep keep1
 have hT : ({ s with heap:=H1 } : Shared).TypeIs (.ref d) "dict":=hm1.typeIs
 unfold Builtin.List.listExtendWith
 refine wpAny_bind (wpAny_typeOf (T:="dict") (v:=.ref d) hT ?_)
 have h1 : Builtin.List.listSameRef (.ref s.heap.objs.size) (.ref d) = false:=by simp [Builtin.List.listSameRef,hsd]
 have h2 : (Value.type "dict" == Value.type "list") = false:=by decide
 have h3 : (Value.type "dict" == Value.type "tuple") = false:=by decide
 simp only [h1,h2,h3,Bool.or_false,Bool.false_eq_true,if_false]
 obtain ⟨ep,hat⟩:=hm1.dictAt
 refine wpAny_bind (wpAny_pyIter_dict (s:={ s with heap:=H1 }) hd hat ?_)
 refine wpAny_bind (wpAny_holding ?_)
 unfold Builtin.List.listLengthHint
 have hm2 : (H1.push { cls:=.type "dict_keyiterator",data:=.fields #[.ref d,.int 0 0,.int kvs.length 0,.int ep 0] }).DictOf knd d kvs:=hm1.keep fun b o e=>Heap.get?_push_of_some _ e
 have hT2 : ({ s with heap:=H1.push { cls:=.type "dict_keyiterator",data:=.fields #[.ref d,.int 0 0,.int kvs.length 0,.int ep 0] } } : Shared).TypeIs (.ref d) "dict":=hm2.typeIs
 refine wpAny_bind (wpAny_specialOf (T:="dict") (v:=.ref d) hT2 J64 ?_)
 wp_delta
 refine wpAny_bind (wpAny_isInstance (T:="dict") (v:=.ref d) (b:=true) hT2 (by rw [isSubtype_type]; kernel_rfl) ?_)
 show wpAny _ A.in1 (typeOf (Value.ref d) >>= _) _ _ _
 refine wpAny_bind (wpAny_typeOf (T:="dict") (v:=.ref d) hT2 ?_)
 refine wpAny_pure ?_
 show wpAny _ A.in1 (rule "list.extend.makes-room" >>= fun _=>Builtin.List.listTouch (.ref s.heap.objs.size) >>= fun _ =>
  again (.builtin "list.extend.loop" ⟨[.ref s.heap.objs.size,.ref H1.objs.size,.ref s.heap.objs.size],[]⟩)) _ _ _
 refine wpAny_bind (wpAny_rule ?_)
 generalize hH2 : H1.push { cls:=.type "dict_keyiterator",data:=.fields #[.ref d,.int 0 0,.int kvs.length 0,.int ep 0] } = H2 at hm2 hT2 ⊢
 have keep2 : ∀ b o,H1.get? b = some o → H2.get? b = some o:=fun b o e=>by rw [← hH2]; exact Heap.get?_push_of_some _ e
 have hS1 : H2.get? s.heap.objs.size = some { cls:=.type "list",data:=.seq ([] : List Value).toArray }:=keep2 _ _ (by rw [← hH]; exact Heap.get?_push_size _ rfl)
 have hit : H2.IsKeyIter H1.objs.size d 0 kvs.length ep:=⟨_,by rw [← hH2]; exact Heap.get?_push_size _ rfl,rfl,rfl⟩
 have hat2 : H2.DictAt knd d kvs ep:=by rw [← hH2]; exact hat.push _
 have hne : d ≠ H1.objs.size:=Nat.ne_of_lt (by rw [hHs]; exact Nat.lt_succ_of_lt hdl)
 refine wpAny_bind ?_
 show wpAny _ A.in1 (updateSeq s.heap.objs.size (·.push .none) >>= fun _=>updateSeq s.heap.objs.size (·.pop)) _ _ _
 refine wpAny_bind (wpAny_updateSeq (s:={ s with heap:=H2 }) hS1 rfl ?_)
 have hS2:=Heap.get?_update_self (Obj.mapSeq (·.push Value.none)) hS1 rfl
 refine wpAny_updateSeq hS2 rfl ?_
 have hS3:=Heap.get?_update_self (Obj.mapSeq (·.pop)) hS2 rfl
 have oth : ∀ b o,b ≠ s.heap.objs.size → H2.get? b = some o → ((H2.update s.heap.objs.size (Obj.mapSeq (·.push Value.none))).update s.heap.objs.size (Obj.mapSeq (·.pop))).get? b = some o :=
  fun b o hb e=>(Heap.get?_update_other _ _ (Ne.symm hb)).trans ((Heap.get?_update_other _ _ (Ne.symm hb)).trans e)
 have hSf : s.heap.objs.size ∉ [H1.objs.size,d]:=fun hm=>by
  rcases List.mem_cons.mp hm with e | e
  ·rw [hHs] at e; omega
  ·exact hsd (List.mem_singleton.mp e)
 refine wpAny_pure ⟨plainId_quiet PySem.F.plain_extend_loop _,codeAny_extend_loopS (Walks.dictKeys (A:=A.in1) (knd:=knd) hh _ d hne kvs ep).toS hn _ hSf _ kvs.length 0 _ _ _ rfl (Nat.zero_le _) ⟨hit.at fun o e=>oth _ o (by rw [hHs]; omega) e,hat2.at' fun o e=>oth _ o hsd.symm e⟩ hS3 (ItemsOf.nil _) fun s' acc' c' hm hS' hacc=>?_⟩
 show wpAny _ A (load s.heap.objs.size >>= _) _ _ s'
 refine wpAny_bind (wpAny_load hS' ?_)
 refine wpAny_pure (hQ s' acc' (fun b ob e=>?_) hm.gens hm.drawn hm.os (Heap.lt_size hS') hacc)
 have hlt:=Heap.lt_size e
 refine hm.heap b ob (fun hb=>?_) (oth b ob (Nat.ne_of_lt hlt) (keep2 _ _ (keep1 _ _ e)))
 rcases List.mem_cons.mp hb with h | h
 ·exact absurd hlt (h ▸ Nat.lt_irrefl _)
 ·rw [List.mem_singleton.mp h,hHs] at hlt; exact absurd hlt (Nat.not_lt.mpr (Nat.le_succ _))
end
theorem J32 : ∀ {vs : List Value} {ss : List Str},vs.length = ss.length → (∀ (i : Nat) (v : Value),vs[i]? = some v → ∃ (s : Str) (t : Tok),ss[i]? = some s ∧ v = Value.str s t) → StrsAre vs ss
 | [],[],_,_=>.nil
 | [],_ :: _,h,_=>by simp at h
 | _ :: _,[],h,_=>by simp at h
 | v :: vs,s :: ss,h,hh=>by
  obtain ⟨s',t,e1,e2⟩:=hh 0 v rfl
  cases e1
  subst e2
  exact .cons _ _ (J32 (by simpa using h) fun i u hu=>hh (i + 1) u hu)
theorem J4B : ∀ {vs : List Value} {ss : List Str},StrsAre vs ss → Vals (ss.map V.str) vs
 | _,_,.nil=>.nil
 | _,_,.cons y t h=>.cons ⟨t,rfl⟩ (J4B h)
section
variable {X : Cx}
end
section
variable {X : Cx} {K : PySem.W.Frag}
end
theorem J8E : bootBuiltins "sorted" = some (.builtin "sorted"):=by decide +kernel
section
variable {X : Cx}
theorem J9m {x : Str} {n : Int} {pos : Pos} (hg : Gl X x) (hm : ∃ t,X.mg x = some (.int n t)) (hd : (x == ("__debug__" : Str)) = false:=by decide) : PE X (.Name x pos) (tC (.int n)):=by
 obtain ⟨t,hm⟩:=hm
 exact J5f hg hm ⟨t,rfl⟩ hd
end
section
variable {X : Cx}
theorem J7c : J1h X (.builtin "isinstance") (fun xs H Q=>∃ p ys,xs = [.ref p,.ty "list"] ∧ H p = some (.lst ys) ∧ Q (.bl true) H):=by
 intro pins s σ H xs us Q I r h
 obtain ⟨p,ys,rfl,hp,q⟩:=h
 obtain ⟨u,v,rfl,r1,r2⟩:=r.two
 cases r1; cases r2
 obtain ⟨_,its,_,_,h1⟩:=I.hok p _ hp
 exact PySem.W.kia_one PySem.W.kitx_list I.kIn ⟨_,h1,rfl⟩ (by rfl) (fun z=>nomatch z) fun tk=>⟨.bl true,H,I.tok _,rfl,q⟩
end
end L2
set_option linter.all false
set_option maxRecDepth 100000
set_option maxHeartbeats 4000000
namespace L2
open PySem PySem.Spec PyProof.Rows
section
variable {p : Program} {w : World} {A : Around} {R : Result → Shared → Prop} {it bst : Addr} {fp wr : List Addr} {n : Nat} {G : Nat → Value → Prop} {St : Nat → Heap → Prop} {bt : Nat → Nat → Bool} {kw : List (Str × Value)}
end
section
variable {p : Program} {w : World} {A : Around} {E : Value → Shared → Prop} {s : Shared} {l : Addr} {xs : Array (Int × Tok)} {Q : Value → Shared → Prop} {d : Value}
end
section
variable {X : Cx} {K : PySem.W.Frag}
end
end L2
set_option linter.all false
set_option maxRecDepth 100000
set_option maxHeartbeats 4000000
namespace L2
open PySem PySem.Spec PyProof.Rows
section
variable {κ : Type} [DecidableEq κ]
end
section
variable {p : Program} {w : World} {A : Around} {R : Result → Shared → Prop} {it : Addr} {fp wr : List Addr} {gs : Array GenState → Array GenState → Prop} {n : Nat} {Pv : Nat → Value → Prop} {St : Nat → Shared → Prop}
end
section
variable {p : Program} {w : World} {A : Around} {E : Value → Shared → Prop} {s : Shared}
end
section
variable {X : Cx}
end
end L2
set_option linter.all false
set_option maxRecDepth 100000
namespace L2
open PySem PySem.Spec PyProof.Rows
section
variable {X : Cx}
end
end L2
set_option linter.all false
set_option maxRecDepth 100000
set_option maxHeartbeats 4000000
namespace L2
open PySem PySem.Spec PyProof.Rows
section
variable {X : Cx} {e : Expr} {pos : Pos}
end
end L2
set_option linter.all false
set_option maxRecDepth 100000
set_option maxHeartbeats 4000000
namespace L2
open PySem PySem.Spec PyProof.Rows
section
variable {X : Cx}
end
end L2
set_option linter.all false
set_option maxRecDepth 100000
set_option maxHeartbeats 4000000
namespace L2
open PySem PySem.Spec PyProof.Rows
section
variable {X : Cx} {K : PySem.W.Frag} {pins : List (Addr × Obj)} {σ : St} {H : Hp} {s : Shared} {A : Around}
end
end L2
namespace L2
open PySem
end L2
set_option linter.all false
set_option maxRecDepth 100000
set_option maxHeartbeats 4000000
namespace L2
open PySem PySem.Spec PyProof.Rows
section
variable {X : Cx}
end
end L2
set_option linter.all false
set_option maxRecDepth 100000
set_option maxHeartbeats 4000000
namespace L2
open PySem PySem.Spec PyProof.Rows
section
variable {X : Cx} {K : PySem.W.Frag}
end
end L2
set_option linter.all false
set_option maxRecDepth 100000
set_option maxHeartbeats 4000000
namespace L2
open PySem PySem.Spec PyProof.Rows
section
variable {M : Model} {A : Around} {E : Value → Shared → Prop} {s : Shared} {B : Heap} {env : Env} {outer l : List Env} {L e : Addr} {c a0 fl : Value} {d : Option Addr} {Q : Unit → Shared → Prop}
end
end L2
set_option linter.all false
set_option maxRecDepth 100000
set_option maxHeartbeats 4000000
namespace L2
open PySem PySem.Spec PyProof.Rows
section
variable {prog : Program} {w : World} {A : Around} {E : Value → Shared → Prop} {h : Heap} {g : Array GenState} {d : Drawn} {t : Nat} {os : OsState}
variable {nm q : Str} {C N : Addr} {bs bm : List Value} {hdct : Bool} {sn : List Str} {sub : List Value} {ab : Bool} {col : Option Bool} {dd : Option Addr} {k0 k1 k2 k3 k5 : Option Value}
end
end L2
set_option linter.all false
set_option maxRecDepth 100000
set_option maxHeartbeats 4000000
namespace L2
open PySem PySem.Spec PyProof.Rows PySem.Builtin PySem.Builtin.ObjectAttr
section
variable {prog : Program} {w : World} {A : Around} {R : Result → Shared → Prop} {E : Value → Shared → Prop} {s : Shared} {K : PySem.W.Frag} {x C : Addr} {f : Str} {v : Value}
end
section
variable {X : Cx} {pins : List (Addr × Obj)} {σ : St} {H : Hp} {s : Shared} {e C t dx : Addr} {f : Str} {v : V} {u : Value} {A : Around} {E : Value → Shared → Prop} {Q : Unit → Shared → Prop}
end
end L2
set_option linter.all false
set_option maxRecDepth 100000
set_option maxHeartbeats 4000000
namespace L2
open PySem PySem.Spec PyProof.Rows
section
variable {X : Cx} {pins : List (Addr × Obj)} {σ : St} {H : Hp} {s : Shared} {E : XK} {Ex : Value → Shared → Prop}
end
section
variable {X : Cx} {pins : List (Addr × Obj)} {σ : St} {H : Hp} {s : Shared}
end
section
variable {P : Program} {w : World} {K : PySem.W.Frag} {mg : Str → Option Value} {base : Heap}
end
section
variable {X : Cx} {x m : Str} {k : Nat} {ps : List Str} {sp : Sp} {C : Addr} {p pos apos : Pos} {e o : Expr} {es : List Expr} {t : TA} {to : TE} {E : XK}
end
section
variable {X : Cx} {x : Str} {k : Nat} {ps : List Str} {sp : Sp} {C : Addr} {np cpos pos : Pos} {e : Expr} {es : List Expr} {t : TA} {E : XK}
end
end L2
set_option linter.all false
set_option maxRecDepth 100000
set_option maxHeartbeats 4000000
namespace L2
open PySem PySem.Spec PyProof.Rows PySem.Builtin PySem.Builtin.ObjectAttr
section
variable {X : Cx}
end
section
variable {prog : Program} {w : World} {A : Around} {E : Value → Shared → Prop} {K : PySem.W.Frag} {x C : Addr} {h : Heap} {g : Array GenState} {d : Drawn} {t : Nat} {os : OsState} {o : Obj} {od : Option Obj} {f : Str} {v : Value}
end
section
variable {X : Cx} {K : PySem.W.Frag}
end
end L2
set_option linter.all false
set_option maxRecDepth 100000
set_option maxHeartbeats 4000000
namespace L2
open PySem PySem.Spec PyProof.Rows
section
variable {X : Cx} {pins : List (Addr × Obj)} {σ : St} {H : Hp} {s : Shared} {E : XK} {Ex : Value → Shared → Prop}
end
section
variable {X : Cx} {x m : Str} {k : Nat} {ps : List Str} {sp : Sp} {C : Addr} {p pos apos : Pos} {e o : Expr} {es : List Expr} {t : TA} {to : TE} {E : XK}
end
section
variable {X : Cx} {K : PySem.W.Frag}
end
end L2
set_option linter.all false
set_option maxRecDepth 100000
set_option maxHeartbeats 4000000
namespace L2
open PySem PySem.Spec PyProof.Rows PySem.NumText
section
variable {X : Cx}
end
end L2
set_option linter.all false
set_option maxRecDepth 100000
set_option maxHeartbeats 4000000
namespace L2
open PySem PySem.Spec PyProof.Rows
section
variable {X : Cx} {a b c d : Expr} {ta tb tc td : TE} {pos : Pos}
end
section
variable {X : Cx} {K : PySem.W.Frag}
end
section
open PySem.StrLaws Builtin Builtin.Str
end
section
variable {X : Cx} {K : PySem.W.Frag}
end
section
variable {X : Cx} {e : Expr} {te : TE} {pos : Pos}
end
end L2
set_option linter.all false
set_option maxRecDepth 100000
set_option maxHeartbeats 4000000
namespace L2
open PySem PySem.Spec PyProof.Rows
section
open PySem.StrLaws Builtin Builtin.Str
end
section
variable {X : Cx} {K : PySem.W.Frag}
end
section
variable {X : Cx}
end
end L2
set_option linter.all false
set_option maxRecDepth 100000
set_option maxHeartbeats 4000000
namespace L2
open PySem PySem.Spec PyProof.Rows
theorem JbN (x : Str) : x = ⟨x.cps.toList.toArray⟩:=by cases x; simp
section
variable {X : Cx} {K : PySem.W.Frag}
end
end L2
set_option linter.all false
set_option maxRecDepth 100000
set_option maxHeartbeats 4000000
namespace L2
open PySem PySem.Spec PyProof.Rows
section
variable {X : Cx} {K : PySem.W.Frag}
end
end L2
set_option linter.all false
set_option maxRecDepth 100000
set_option maxHeartbeats 4000000
namespace L2
open PySem PySem.Spec PyProof.Rows
section
variable {X : Cx} {K : PySem.W.Frag}
theorem J8H : OpR X (binaryOp .Mult) (fun x y H Q=>∃ c k,x = T [c] ∧ y = .int k ∧ -1000000 ≤ k ∧ k ≤ 1000 ∧ Q (T (List.replicate k.toNat c)) H):=by
 intro pins s σ H x y v u Q I rx ry h
 obtain ⟨c,k,rfl,rfl,h0,h1,q⟩:=h
 obtain ⟨t,rfl⟩:=rx
 obtain ⟨t',rfl⟩:=ry
 refine SB.mul (mulOk_of 1 1000 (by show 1 ≤ 1; decide) h1 (by omega) (by decide) (by decide)) fun t2 k2=>?_
 have e : Txt.mul ⟨[c].toArray⟩ k = ⟨(List.replicate k.toNat c).toArray⟩:=by
  have:=mul_one_list c k
  rw [JbN (Txt.mul ⟨[c].toArray⟩ k)]
  show (⟨(Txt.mul ⟨#[c]⟩ k).cps.toList.toArray⟩ : Str) = _
  rw [this]
 rw [e]
 exact ⟨T (List.replicate k.toNat c),H,I.tok _,⟨t2,rfl⟩,q⟩
end
end L2
set_option linter.all false
set_option maxRecDepth 100000
set_option maxHeartbeats 4000000
namespace L2
open PySem PySem.Spec PyProof.Rows
noncomputable abbrev SM (α : Type):=StateT SortSt Sem α
noncomputable def J0M : Bool → Keyed → Array Keyed → Nat → Nat → Nat → SM (Option Nat):=sortPriv% PySem.Builtin.gallop
noncomputable def bey (left : Bool) (key : Keyed) (arr : Array Keyed) (base i : Nat) : SM (Option Bool):=do
 let x ← elem' arr (base + i)
 if left then lt' x key else return (← lt' key x).map (!·)
noncomputable def J37 (b : Nat → SM (Option Bool)) (n lo0 hi0 : Nat) : SM (Option Nat):=do
 let mut lo:=lo0
 let mut hi:=hi0
 for _ in [0:n] do
  if lo ≥ hi then break
  let m:=lo + (hi - lo) / 2
  let some more ← b m | return none
  if more then lo:=m + 1 else hi:=m
 return some hi
theorem J7p (left : Bool) (key : Keyed) (arr : Array Keyed) (base cnt hn : Nat) : J0M left key arr base cnt hn = (do
 let mut e:=0
 let mut o:=1
 let mut lw:=0
 let mut hg:=0
 let some rt ← bey left key arr base hn | return none
 if rt then
  let mx:=cnt - hn
  for _ in [0:cnt] do
   if o ≥ mx then break
   let some yes ← bey left key arr base (hn + o) | return none
   if !yes then break
   e:=o
   o:=2 * o + 1
  lw:=hn + e + 1
  hg:=hn + min o mx
 else
  let mx:=hn + 1
  for _ in [0:cnt] do
   if o ≥ mx then break
   let some yes ← bey left key arr base (hn - o) | return none
   if yes then break
   e:=o
   o:=2 * o + 1
  lw:=hn + 1 - min o mx
  hg:=hn - e
 for _ in [0:cnt] do
  if lw ≥ hg then break
  let mid:=lw + (hg - lw) / 2
  let some yes ← bey left key arr base mid | return none
  if yes then lw:=mid + 1 else hg:=mid
 return some hg):=rfl
section
variable {prog : Program} {w : World} {A : Around} {E : Value → Shared → Prop} {s : Shared}
theorem J35 {b : Nat → SM (Option Bool)} {B : Nat → Bool} {n lo hi : Nat} {st : SortSt} {Q : Option Nat → SortSt → Prop} (hb : ∀ i,i < n → ∀ R : Option Bool → SortSt → Prop,R (some (B i)) st → wpS (model prog w) A E s (b i) R st)
  (mono : ∀ i j,i ≤ j → j < n → B j = true → B i = true) (h1 : lo ≤ hi) (h2 : hi ≤ n) (h3 : ∀ i,i < lo → B i = true) (h4 : ∀ i,hi ≤ i → i < n → B i = false)
  (h : ∀ k,k ≤ n → (∀ i,i < k → B i = true) → (∀ i,k ≤ i → i < n → B i = false) → Q (some k) st) : wpS (model prog w) A E s (J37 b n lo hi) Q st:=by
 unfold J37
 refine wpS_bind (wpS_mono (wpS_forRange
  (I:=fun x c st'=>st' = st ∧ ∃ l r,c = (none,l,r) ∧ l ≤ r ∧ r ≤ n ∧ r - l ≤ n - x ∧ (∀ i,i < l → B i = true) ∧ (∀ i,r ≤ i → i < n → B i = false))
  (Q:=fun c st'=>st' = st ∧ ∃ l,c = (none,l,l) ∧ l ≤ n ∧ (∀ i,i < l → B i = true) ∧ (∀ i,l ≤ i → i < n → B i = false)) ?_ ?_ ⟨rfl,lo,hi,rfl,h1,h2,by omega,h3,h4⟩) ?_)
 ·rintro x c st' _ hx ⟨rfl,l,r,rfl,a1,a2,a3,a4,a5⟩
  dsimp only
  by_cases hge : l ≥ r
  ·rw [if_pos hge]
   have e : l = r:=by omega
   subst e
   exact wpS_pure ⟨rfl,l,rfl,a2,a4,a5⟩
  ·rw [if_neg hge]
   refine wpS_bind (hb _ (by omega) _ ?_)
   dsimp only
   cases hm : B (l + (r - l) / 2)
   ·rw [if_neg (by decide)]
    refine wpS_pure ⟨rfl,l,_,rfl,by omega,by omega,by omega,a4,fun i h1 h2=>?_⟩
    cases hi : B i
    ·rfl
    ·rw [mono _ i h1 h2 hi] at hm; cases hm
   ·rw [if_pos rfl]
    refine wpS_pure ⟨rfl,_,r,rfl,by omega,by omega,by omega,fun i h1=>?_,a5⟩
    exact mono i _ (by omega) (by omega) hm
 ·rintro c st' ⟨rfl,l,r,rfl,a1,a2,a3,a4,a5⟩
  have e : l = r:=by omega
  subst e
  exact ⟨rfl,l,rfl,a2,a4,a5⟩
 ·rintro c st' ⟨rfl,l,rfl,a2,a4,a5⟩
  exact wpS_pure (h l a2 a4 a5)
theorem J6g {left : Bool} {key : Keyed} {arr : Array Keyed} {base n hint : Nat} {B : Nat → Bool} {st : SortSt} {Q : Option Nat → SortSt → Prop}
  (hb : ∀ i,i < n → ∀ R : Option Bool → SortSt → Prop,R (some (B i)) st → wpS (model prog w) A E s (bey left key arr base i) R st)
  (mono : ∀ i j,i ≤ j → j < n → B j = true → B i = true) (hh : hint < n)
  (h : ∀ k,k ≤ n → (∀ i,i < k → B i = true) → (∀ i,k ≤ i → i < n → B i = false) → Q (some k) st) : wpS (model prog w) A E s (J0M left key arr base n hint) Q st:=by
 rw [J7p]
 refine wpS_bind (hb hint hh _ ?_)
 have up : ∀ i j,i ≤ j → j < n → B i = false → B j = false:=fun i j hij hj hi=>by
  cases hB : B j
  ·rfl
  ·rw [mono i j hij hj hB] at hi; cases hi
 cases hB : B hint
 ·show wpS (model prog w) A E s (forIn [0:n] ((none,0,1) : Option (Option Nat) × Nat × Nat) _ >>= _) Q st
  refine wpS_bind (wpS_mono (wpS_forRange (I:=fun x c st'=>st' = st ∧ ∃ l o,c = (none,l,o) ∧ l < o ∧ l < hint + 1 ∧ x + 1 ≤ o ∧ B (hint - l) = false)
   (Q:=fun c st'=>st' = st ∧ ∃ l o,c = (none,l,o) ∧ l < o ∧ l < hint + 1 ∧ B (hint - l) = false ∧ (o ≥ hint + 1 ∨ B (hint - o) = true)) ?_ ?_ ⟨rfl,0,1,rfl,by omega,by omega,by omega,hB⟩) ?_)
  ·rintro x c st' _ hx ⟨rfl,l,o,rfl,a1,a2,a3,a4⟩
   dsimp only
   by_cases hge : o ≥ hint + 1
   ·rw [if_pos hge]
    exact wpS_pure ⟨rfl,l,o,rfl,a1,a2,a4,.inl hge⟩
   ·rw [if_neg hge]
    refine wpS_bind (hb (hint - o) (by omega) _ ?_)
    dsimp only
    cases hBo : B (hint - o)
    ·rw [if_neg (by decide)]
     exact wpS_pure ⟨rfl,o,_,rfl,by omega,by omega,by omega,hBo⟩
    ·rw [if_pos rfl]
     exact wpS_pure ⟨rfl,l,o,rfl,a1,a2,a4,.inr hBo⟩
  ·rintro c st' ⟨rfl,l,o,rfl,a1,a2,a3,a4⟩
   exact ⟨rfl,l,o,rfl,a1,a2,a4,.inl (by omega)⟩
  ·rintro c st' ⟨rfl,l,o,rfl,a1,a2,a4,a5⟩
   show wpS (model prog w) A E s (J37 (bey left key arr base) n (hint + 1 - min o (hint + 1)) (hint - l)) Q _
   refine J35 hb mono (by omega) (by omega) (fun i hi=>?_) (fun i h1 h2=>up _ i h1 h2 a4) h
   rcases a5 with a5 | a5
   ·omega
   ·exact mono i (hint - o) (by omega) (by omega) a5
 ·show wpS (model prog w) A E s (forIn [0:n] ((none,0,1) : Option (Option Nat) × Nat × Nat) _ >>= _) Q st
  refine wpS_bind (wpS_mono (wpS_forRange (I:=fun x c st'=>st' = st ∧ ∃ l o,c = (none,l,o) ∧ l < o ∧ l < n - hint ∧ x + 1 ≤ o ∧ B (hint + l) = true)
   (Q:=fun c st'=>st' = st ∧ ∃ l o,c = (none,l,o) ∧ l < o ∧ l < n - hint ∧ B (hint + l) = true ∧ (o ≥ n - hint ∨ B (hint + o) = false)) ?_ ?_ ⟨rfl,0,1,rfl,by omega,by omega,by omega,hB⟩) ?_)
  ·rintro x c st' _ hx ⟨rfl,l,o,rfl,a1,a2,a3,a4⟩
   dsimp only
   by_cases hge : o ≥ n - hint
   ·rw [if_pos hge]
    exact wpS_pure ⟨rfl,l,o,rfl,a1,a2,a4,.inl hge⟩
   ·rw [if_neg hge]
    refine wpS_bind (hb (hint + o) (by omega) _ ?_)
    dsimp only
    cases hBo : B (hint + o)
    ·rw [if_pos (by decide)]
     exact wpS_pure ⟨rfl,l,o,rfl,a1,a2,a4,.inr hBo⟩
    ·rw [if_neg (by decide)]
     exact wpS_pure ⟨rfl,o,_,rfl,by omega,by omega,by omega,hBo⟩
  ·rintro c st' ⟨rfl,l,o,rfl,a1,a2,a3,a4⟩
   exact ⟨rfl,l,o,rfl,a1,a2,a4,.inl (by omega)⟩
  ·rintro c st' ⟨rfl,l,o,rfl,a1,a2,a4,a5⟩
   show wpS (model prog w) A E s (J37 (bey left key arr base) n (hint + l + 1) (hint + min o (n - hint))) Q _
   refine J35 hb mono (by omega) (by omega) (fun i hi=>mono i (hint + l) (by omega) (by omega) a4) (fun i h1 h2=>?_) h
   rcases a5 with a5 | a5
   ·omega
   ·exact up (hint + o) i (by omega) h2 a5
end
noncomputable def J0u : Nat → SM Unit:=sortPriv% PySem.Builtin.setMinGallop
noncomputable def J3P : Array Keyed → Array Keyed → SM (Array Keyed):=sortPriv% PySem.Builtin.mergeLo
noncomputable def J3B : Array Keyed → Array Keyed → SM (Array Keyed):=sortPriv% PySem.Builtin.mergeHi
theorem J6d (a b : Array Keyed) : J3P a b = (do
 rule "list.sort.merge-lo"
 let tot:=a.size + b.size
 let fin (o : Array Keyed) (i j : Nat):=o ++ a.extract i a.size ++ b.extract j b.size
 let fin2 (o : Array Keyed) (i j : Nat):=o ++ b.extract j b.size ++ a.extract i a.size
 let mut o : Array Keyed:=#[← elem' b 0]
 let mut i:=0
 let mut j:=1
 if j == b.size then return fin o i j
 if i + 1 == a.size then return fin2 o i j
 let mut g:=gallopOf (← get)
 for _ in [0:tot] do
  let mut ac:=0
  let mut bc:=0
  for _ in [0:tot] do
   let some win ← lt' (← elem' b j) (← elem' a i) | return fin o i j
   if win then
    o:=o.push (← elem' b j); j:=j + 1; bc:=bc + 1; ac:=0
    if j == b.size then return fin o i j
    if bc ≥ g then break
   else
    o:=o.push (← elem' a i); i:=i + 1; ac:=ac + 1; bc:=0
    if i + 1 == a.size then return fin2 o i j
    if ac ≥ g then break
  rule "list.sort.gallop"
  g:=g + 1
  for _ in [0:tot] do
   if g > 1 then g:=g - 1
   J0u g
   let some k ← J0M false (← elem' b j) a i (a.size - i) 0 | return fin o i j
   ac:=k
   if k > 0 then
    o:=o ++ a.extract i (i + k); i:=i + k
    if i + 1 == a.size then return fin2 o i j
    if i == a.size then return fin o i j
   o:=o.push (← elem' b j); j:=j + 1
   if j == b.size then return fin o i j
   let some k ← J0M true (← elem' a i) b j (b.size - j) 0 | return fin o i j
   bc:=k
   if k > 0 then
    o:=o ++ b.extract j (j + k); j:=j + k
    if j == b.size then return fin o i j
   o:=o.push (← elem' a i); i:=i + 1
   if i + 1 == a.size then return fin2 o i j
   if ac < 7 && bc < 7 then break
  g:=g + 1
  J0u g
 unsupported "internal:list.sort.merge-bound"):=rfl
theorem J0p (g : Nat) : J0u g = modify fun s=>SortSt.mk' (kindOf s) (arrOf s) (pendingOf s) g (failedOf s):=rfl
structure J0a (st st' : SortSt) : Prop where
 k : kindOf st' = kindOf st
 a : arrOf st' = arrOf st
 p : pendingOf st' = pendingOf st
 f : failedOf st' = failedOf st
theorem J0a.refl (st : SortSt) : J0a st st:=⟨rfl,rfl,rfl,rfl⟩
theorem J0a.set {st st' : SortSt} (h : J0a st st') (g : Nat) : J0a st (SortSt.mk' (kindOf st') (arrOf st') (pendingOf st') g (failedOf st')):=⟨h.k,h.a,h.p,h.f⟩
section
variable {κ : PyProof.Rows.KeyKind}
noncomputable def kOf (κ : PyProof.Rows.KeyKind) (p : Keyed) : κ.α:=(κ.keyOf p.1).getD κ.dflt
noncomputable def leKy (κ : PyProof.Rows.KeyKind) (p q : Keyed) : Prop:=κ.kle (kOf κ p) (kOf κ q)
noncomputable def ltB (κ : PyProof.Rows.KeyKind) (p q : Keyed) : Bool:=κ.blt (kOf κ p) (kOf κ q)
noncomputable def Kd (κ : PyProof.Rows.KeyKind) (p : Keyed) : Prop:=∃ a,κ.keyOf p.1 = some a
theorem leKy.refl (p : Keyed) : leKy κ p p:=KeyOrd.kle_refl _
theorem leKy.trans {p q r : Keyed} (h : leKy κ p q) (h2 : leKy κ q r) : leKy κ p r:=KeyOrd.kle_trans h h2
theorem leKy.of_lt {p q : Keyed} (h : ltB κ p q = true) : leKy κ p q:=KeyOrd.kle_of_klt h
theorem leKy.of_not {p q : Keyed} (h : ltB κ p q = false) : leKy κ q p:=h
theorem ltB.le {p q r : Keyed} (h : ltB κ p q = true) (h2 : leKy κ q r) : ltB κ p r = true:=KeyOrd.klt_of_klt_of_kle h h2
theorem leKy.lt {p q r : Keyed} (h : leKy κ p q) (h2 : ltB κ q r = true) : ltB κ p r = true:=KeyOrd.klt_of_kle_of_klt h h2
structure ML (κ : PyProof.Rows.KeyKind) (al bl out : List Keyed) (ia ib : Nat) : Prop where
 pa : ia ≤ al.length
 pb : ib ≤ bl.length
 perm : (out ++ (al.drop ia ++ bl.drop ib)).Perm (al ++ bl)
 srt : out.Pairwise (leKy κ)
 la : ∀ x ∈ out,∀ y ∈ al.drop ia,leKy κ x y
 lb : ∀ x ∈ out,∀ y ∈ bl.drop ib,leKy κ x y
theorem J5l {l : List Keyed} {i : Nat} {x : Keyed} (h : l[i]? = some x) : l.drop i = x :: l.drop (i + 1):=by
 obtain ⟨h1,h2⟩:=List.getElem?_eq_some_iff.mp h
 rw [List.drop_eq_getElem_cons h1,h2]
theorem J1w {l : List Keyed} (s : l.Pairwise (leKy κ)) (i : Nat) : (l.drop i).Pairwise (leKy κ):=s.sublist (List.drop_sublist _ _)
variable {al bl out : List Keyed} {ia ib : Nat}
theorem ML.pushA (h : ML κ al bl out ia ib) (sa : al.Pairwise (leKy κ)) {x : Keyed} (hx : al[ia]? = some x) (hle : ∀ y ∈ bl.drop ib,leKy κ x y) : ML κ al bl (out ++ [x]) (ia + 1) ib:=by
 have hd:=J5l hx
 have hs:=J1w sa ia
 rw [hd] at hs
 have hl:=(List.getElem?_eq_some_iff.mp hx).1
 refine ⟨by omega,h.pb,?_,?_,?_,?_⟩
 ·have:=h.perm
  rw [hd] at this
  rw [List.append_assoc]
  exact this
 ·refine List.pairwise_append.mpr ⟨h.srt,List.pairwise_singleton _ _,fun y hy z hz=>?_⟩
  rw [List.mem_singleton.mp hz]
  exact h.la y hy x (by rw [hd]; exact List.mem_cons_self)
 ·intro y hy z hz
  rcases List.mem_append.mp hy with hy | hy
  ·exact h.la y hy z (by rw [hd]; exact List.mem_cons_of_mem _ hz)
  ·rw [List.mem_singleton.mp hy]
   exact (List.pairwise_cons.mp hs).1 z hz
 ·intro y hy z hz
  rcases List.mem_append.mp hy with hy | hy
  ·exact h.lb y hy z hz
  ·rw [List.mem_singleton.mp hy]
   exact hle z hz
theorem ML.pushB (h : ML κ al bl out ia ib) (sb : bl.Pairwise (leKy κ)) {x : Keyed} (hx : bl[ib]? = some x) (hle : ∀ y ∈ al.drop ia,leKy κ x y) : ML κ al bl (out ++ [x]) ia (ib + 1):=by
 have hd:=J5l hx
 have hs:=J1w sb ib
 rw [hd] at hs
 have hl:=(List.getElem?_eq_some_iff.mp hx).1
 refine ⟨h.pa,by omega,?_,?_,?_,?_⟩
 ·have:=h.perm
  rw [hd] at this
  rw [List.append_assoc]
  refine List.Perm.trans (List.Perm.append_left _ ?_) this
  exact (List.perm_middle (a:=x) (l₁:=List.drop ia al) (l₂:=List.drop (ib + 1) bl)).symm
 ·refine List.pairwise_append.mpr ⟨h.srt,List.pairwise_singleton _ _,fun y hy z hz=>?_⟩
  rw [List.mem_singleton.mp hz]
  exact h.lb y hy x (by rw [hd]; exact List.mem_cons_self)
 ·intro y hy z hz
  rcases List.mem_append.mp hy with hy | hy
  ·exact h.la y hy z hz
  ·rw [List.mem_singleton.mp hy]
   exact hle z hz
 ·intro y hy z hz
  rcases List.mem_append.mp hy with hy | hy
  ·exact h.lb y hy z (by rw [hd]; exact List.mem_cons_of_mem _ hz)
  ·rw [List.mem_singleton.mp hy]
   exact (List.pairwise_cons.mp hs).1 z hz
theorem J4q {l : List Keyed} {i k : Nat} {x : Keyed} (h : l[i + k]? = some x) : (l.drop i).take (k + 1) = (l.drop i).take k ++ [x]:=by
 rw [List.take_add_one,List.getElem?_drop,h]
 rfl
theorem ML.extA (h : ML κ al bl out ia ib) (sa : al.Pairwise (leKy κ)) : ∀ (k : Nat),ia + k ≤ al.length → (∀ i x,i < k → al[ia + i]? = some x → ∀ y ∈ bl.drop ib,leKy κ x y) → ML κ al bl (out ++ (al.drop ia).take k) (ia + k) ib
 | 0,_,_=>by rw [List.take_zero,List.append_nil]; exact h
 | k + 1,hk,hx=>by
  have ih:=ML.extA h sa k (by omega) fun i x hi=>hx i x (by omega)
  have e : al[ia + k]? = some al[ia + k]:=List.getElem?_eq_getElem (by omega)
  rw [J4q e,← List.append_assoc]
  exact ih.pushA sa e (hx k _ (by omega) e)
theorem ML.extB (h : ML κ al bl out ia ib) (sb : bl.Pairwise (leKy κ)) : ∀ (k : Nat),ib + k ≤ bl.length → (∀ i x,i < k → bl[ib + i]? = some x → ∀ y ∈ al.drop ia,leKy κ x y) → ML κ al bl (out ++ (bl.drop ib).take k) ia (ib + k)
 | 0,_,_=>by rw [List.take_zero,List.append_nil]; exact h
 | k + 1,hk,hx=>by
  have ih:=ML.extB h sb k (by omega) fun i x hi=>hx i x (by omega)
  have e : bl[ib + k]? = some bl[ib + k]:=List.getElem?_eq_getElem (by omega)
  rw [J4q e,← List.append_assoc]
  exact ih.pushB sb e (hx k _ (by omega) e)
noncomputable def Gd (κ : PyProof.Rows.KeyKind) (al bl r : List Keyed) : Prop:=r.Perm (al ++ bl) ∧ r.Pairwise (leKy κ)
theorem ML.done (h : ML κ al bl out ia ib) (sa : al.Pairwise (leKy κ)) (sb : bl.Pairwise (leKy κ)) (e : ia = al.length ∨ ib = bl.length) : Gd κ al bl (out ++ al.drop ia ++ bl.drop ib):=by
 rw [List.append_assoc]
 refine ⟨h.perm,List.pairwise_append.mpr ⟨h.srt,List.pairwise_append.mpr ⟨J1w sa _,J1w sb _,fun x hx y hy=>?_⟩,fun x hx y hy=>?_⟩⟩
 ·rcases e with e | e
  ·rw [e,List.drop_length] at hx; exact absurd hx List.not_mem_nil
  ·rw [e,List.drop_length] at hy; exact absurd hy List.not_mem_nil
 ·rcases List.mem_append.mp hy with hy | hy
  ·exact h.la x hx y hy
  ·exact h.lb x hx y hy
theorem ML.lastA (h : ML κ al bl out ia ib) (sa : al.Pairwise (leKy κ)) (sb : bl.Pairwise (leKy κ)) {z : Keyed} (e : al.drop ia = [z]) (hz : ∀ y ∈ bl,leKy κ y z) : Gd κ al bl (out ++ bl.drop ib ++ al.drop ia):=by
 rw [List.append_assoc]
 refine ⟨(List.Perm.append_left _ List.perm_append_comm).trans h.perm,List.pairwise_append.mpr ⟨h.srt,List.pairwise_append.mpr ⟨J1w sb _,J1w sa _,fun x hx y hy=>?_⟩,fun x hx y hy=>?_⟩⟩
 ·rw [e] at hy
  rw [List.mem_singleton.mp hy]
  exact hz x (List.mem_of_mem_drop hx)
 ·rcases List.mem_append.mp hy with hy | hy
  ·exact h.lb x hx y hy
  ·exact h.la x hx y hy
end
section
variable {prog : Program} {w : World} {A : Around} {E : Value → Shared → Prop} {s : Shared} {κ : PyProof.Rows.KeyKind}
theorem Js {arr : Array Keyed} {i : Nat} {x : Keyed} {st : SortSt} {Q : Keyed → SortSt → Prop} (h : arr[i]? = some x) (q : Q x st) : wpS (model prog w) A E s (elem' arr i) Q st:=by
 rw [elem'_eq,h]
 exact wpS_pure q
theorem J2F {x y : Keyed} {st : SortSt} {Q : Option Bool → SortSt → Prop} (hO : κ.OneLt) (hk : kindOf st = oneType') (hx : Kd κ x) (hy : Kd κ y) (q : Q (some (ltB κ x y)) st) : wpS (model prog w) A E s (lt' x y) Q st:=by
 rw [lt'_eq]
 refine wpS_bind (wpS_get ?_)
 rw [hk,keyLt'_oneType]
 obtain ⟨a,ha⟩:=hx
 obtain ⟨b,hb⟩:=hy
 have e : ltB κ x y = κ.blt a b:=by unfold ltB kOf; rw [ha,hb]; rfl
 rw [e] at q
 refine wpS_bind (wpS_lift (wpAny_attempt (hO prog w A _ s x.1 y.1 a b ha hb ⟨rfl,?_⟩)))
 exact wpS_pure q
theorem Jah {left : Bool} {key x : Keyed} {arr : Array Keyed} {base i : Nat} {st : SortSt} {Q : Option Bool → SortSt → Prop} (hO : κ.OneLt) (hk : kindOf st = oneType') (hx : arr[base + i]? = some x) (kx : Kd κ x) (kk : Kd κ key)
  (q : Q (some (if left then ltB κ x key else !ltB κ key x)) st) : wpS (model prog w) A E s (bey left key arr base i) Q st:=by
 unfold bey
 refine wpS_bind (Js hx ?_)
 cases left
 ·exact wpS_bind (J2F hO hk kk kx (wpS_pure q))
 ·exact J2F hO hk kx kk q
theorem J0V {left : Bool} {key : Keyed} {arr : Array Keyed} {base n hint : Nat} {st : SortSt} {Q : Option Nat → SortSt → Prop} (hO : κ.OneLt) (hk : kindOf st = oneType') (kk : Kd κ key)
  (hn : base + n ≤ arr.size) (ka : ∀ x ∈ arr.toList,Kd κ x) (hs : ∀ i j x y,i ≤ j → j < n → arr[base + i]? = some x → arr[base + j]? = some y → leKy κ x y) (hh : hint < n)
  (h : ∀ k,k ≤ n → (∀ i x,i < k → arr[base + i]? = some x → if left then ltB κ x key = true else leKy κ x key) → (∀ i x,k ≤ i → i < n → arr[base + i]? = some x → if left then leKy κ key x else ltB κ key x = true) → Q (some k) st) :
  wpS (model prog w) A E s (J0M left key arr base n hint) Q st:=by
 have at_ : ∀ i,i < n → ∃ x,arr[base + i]? = some x:=fun i hi=>⟨_,Array.getElem?_eq_getElem (by omega)⟩
 have kd : ∀ i x,arr[base + i]? = some x → Kd κ x:=fun i x e=>ka x (by obtain ⟨h1,h2⟩:=Array.getElem?_eq_some_iff.mp e; rw [← h2]; simp)
 refine J6g (B:=fun i=>match arr[base + i]? with | some x=>if left then ltB κ x key else !ltB κ key x | none=>false) (fun i hi R r=>?_) (fun i j hij hj hB=>?_) hh fun k hkn h1 h2=>h k hkn (fun i x hi e=>?_) (fun i x hi hi2 e=>?_)
 ·obtain ⟨x,e⟩:=at_ i hi
  refine Jah hO hk e (kd i x e) kk ?_
  simp only [e] at r
  exact r
 ·obtain ⟨x,e⟩:=at_ i (by omega)
  obtain ⟨y,e2⟩:=at_ j hj
  have l:=hs i j x y hij hj e e2
  simp only [e] at hB ⊢
  simp only [e2] at hB
  cases left
  ·simp only [Bool.false_eq_true,if_false,Bool.not_eq_true'] at hB ⊢
   cases z : ltB κ key x
   ·rfl
   ·rw [ltB.le z l] at hB; cases hB
  ·simp only [if_true] at hB ⊢
   exact l.lt hB
 ·have:=h1 i hi
  simp only [e] at this
  cases left
  ·simpa [leKy,ltB,KeyOrd.kle] using this
  ·simpa using this
 ·have:=h2 i hi hi2
  simp only [e] at this
  cases left
  ·simpa using this
  ·simpa [leKy,ltB,KeyOrd.kle] using this
end
section
variable {prog : Program} {w : World} {A : Around} {E : Value → Shared → Prop} {s : Shared} {κ : PyProof.Rows.KeyKind}
theorem Jf {a : Array Keyed} {i : Nat} {x : Keyed} (h : a[i]? = some x) : a.toList[i]? = some x:=by simpa using h
theorem J09 {a : Array Keyed} {i : Nat} {x : Keyed} (h : a[i]? = some x) : x ∈ a.toList:=List.mem_of_getElem? (Jf h)
theorem Jp {a : Array Keyed} {i : Nat} (h : i < a.size) : ∃ x,a[i]? = some x:=⟨_,Array.getElem?_eq_getElem h⟩
theorem J12 (a : Array Keyed) (i j : Nat) : (a.extract i j).toList = (a.toList.drop i).take (j - i):=by rw [Array.toList_extract]
theorem J3c (a : Array Keyed) (i : Nat) : (a.extract i a.size).toList = a.toList.drop i:=by
 rw [J12,List.take_of_length_le]
 rw [List.length_drop,Array.length_toList]
 exact Nat.le_refl _
theorem J1S {l : List Keyed} (s : l.Pairwise (leKy κ)) {i j : Nat} {x y : Keyed} (hij : i ≤ j) (hx : l[i]? = some x) (hy : l[j]? = some y) : leKy κ x y:=by
 obtain ⟨h1,rfl⟩:=List.getElem?_eq_some_iff.mp hx
 obtain ⟨h2,rfl⟩:=List.getElem?_eq_some_iff.mp hy
 by_cases e : i = j
 ·subst e; exact leKy.refl _
 ·exact List.pairwise_iff_getElem.mp s i j h1 h2 (by omega)
theorem J1D {l : List Keyed} (s : l.Pairwise (leKy κ)) {i : Nat} {x : Keyed} (hx : l[i]? = some x) : ∀ y ∈ l.drop i,leKy κ x y:=by
 intro y hy
 obtain ⟨j,hj⟩:=List.getElem?_of_mem hy
 rw [List.getElem?_drop] at hj
 exact J1S s (by omega) hx hj
noncomputable abbrev LoSt:=Option (Array Keyed) × Array Keyed × Nat × Nat × Nat × Nat × Nat
noncomputable def loT2 (a b out : Array Keyed) (ia ib mg ac bc : Nat) : SM (ForInStep LoSt):=do
 let x ← elem' a ia
 if (ia + 1 + 1 == a.size) = true then pure (ForInStep.done (some (out.push x ++ b.extract ib b.size ++ a.extract (ia + 1) a.size),out.push x,ia + 1,ib,mg,ac,bc))
 else if (decide (ac < 7) && decide (bc < 7)) = true then pure (ForInStep.done (none,out.push x,ia + 1,ib,mg,ac,bc))
 else pure (ForInStep.yield (none,out.push x,ia + 1,ib,mg,ac,bc))
noncomputable def loT1 (a b out : Array Keyed) (ia ib mg ac bc : Nat) : SM (ForInStep LoSt):=do
 let x ← elem' b ib
 if (ib + 1 == b.size) = true then pure (ForInStep.done (some (out.push x ++ a.extract ia a.size ++ b.extract (ib + 1) b.size),out.push x,ia,ib + 1,mg,ac,bc))
 else do
  let y ← elem' a ia
  let k? ← J0M true y b (ib + 1) (b.size - (ib + 1)) 0
  match k? with
  | some k =>
   if k > 0 then
    if (ib + 1 + k == b.size) = true then pure (ForInStep.done (some (out.push x ++ b.extract (ib + 1) (ib + 1 + k) ++ a.extract ia a.size ++ b.extract (ib + 1 + k) b.size),out.push x ++ b.extract (ib + 1) (ib + 1 + k),ia,ib + 1 + k,mg,ac,k))
    else loT2 a b (out.push x ++ b.extract (ib + 1) (ib + 1 + k)) ia (ib + 1 + k) mg ac k
   else loT2 a b (out.push x) ia (ib + 1) mg ac k
  | _=>pure (ForInStep.done (some (out.push x ++ a.extract ia a.size ++ b.extract (ib + 1) b.size),out.push x,ia,ib + 1,mg,ac,bc))
structure LoH (κ : PyProof.Rows.KeyKind) (a b : Array Keyed) : Prop where
 ka : ∀ x ∈ a.toList,Kd κ x
 kb : ∀ x ∈ b.toList,Kd κ x
 sa : a.toList.Pairwise (leKy κ)
 sb : b.toList.Pairwise (leKy κ)
 hl : ∀ z,a[a.size - 1]? = some z → ∀ y ∈ b.toList,ltB κ y z = true
theorem LoH.fin {a b out : Array Keyed} {ia ib : Nat} (h : LoH κ a b) (M : ML κ a.toList b.toList out.toList ia ib) (e : ia = a.size ∨ ib = b.size) : Gd κ a.toList b.toList (out ++ a.extract ia a.size ++ b.extract ib b.size).toList:=by
 rw [Array.toList_append,Array.toList_append,J3c,J3c]
 exact M.done h.sa h.sb (by rw [Array.length_toList,Array.length_toList]; exact e)
theorem LoH.lst {a b out : Array Keyed} {ia ib : Nat} (h : LoH κ a b) (M : ML κ a.toList b.toList out.toList ia ib) (e : ia + 1 = a.size) : Gd κ a.toList b.toList (out ++ b.extract ib b.size ++ a.extract ia a.size).toList:=by
 rw [Array.toList_append,Array.toList_append,J3c,J3c]
 obtain ⟨z,ez⟩:=Jp (a:=a) (i:=a.size - 1) (by omega)
 have ez' : a.toList[ia]? = some z:=by rw [show ia = a.size - 1 by omega]; exact Jf ez
 refine M.lastA h.sa h.sb (z:=z) ?_ fun y hy=>leKy.of_lt (h.hl z ez y hy)
 rw [J5l ez',List.drop_of_length_le (by rw [Array.length_toList]; omega)]
theorem J6t {a b out : Array Keyed} {ia ib mg ac bc : Nat} {st : SortSt} {R : ForInStep LoSt → SortSt → Prop} (H : LoH κ a b) (M : ML κ a.toList b.toList out.toList ia ib) (i1 : ia + 1 < a.size) (i2 : ib < b.size) {x : Keyed} (ex : a[ia]? = some x) (hx : ∀ y ∈ b.toList.drop ib,leKy κ x y)
  (r1 : ∀ r o,Gd κ a.toList b.toList r.toList → R (.done (some r,o)) st) (r2 : ∀ out' mg ac bc,ML κ a.toList b.toList out'.toList (ia + 1) ib → ia + 1 + 1 < a.size → R (.done (none,out',ia + 1,ib,mg,ac,bc)) st ∧ R (.yield (none,out',ia + 1,ib,mg,ac,bc)) st) :
  wpS (model prog w) A E s (loT2 a b out ia ib mg ac bc) R st:=by
 unfold loT2
 refine wpS_bind (Js ex ?_)
 have M' : ML κ a.toList b.toList (out.push x).toList (ia + 1) ib:=by
  rw [Array.toList_push]
  exact M.pushA H.sa (Jf ex) hx
 by_cases c1 : ia + 1 + 1 = a.size
 ·rw [if_pos (by simpa using c1)]
  exact wpS_pure (r1 _ _ (H.lst M' c1))
 ·rw [if_neg (by simpa using c1)]
  have z:=r2 (out.push x) mg ac bc M' (by omega)
  split
  ·exact wpS_pure z.1
  ·exact wpS_pure z.2
theorem J6C {a b out : Array Keyed} {ia ib mg ac bc : Nat} {st : SortSt} {R : ForInStep LoSt → SortSt → Prop} (hO : κ.OneLt) (hk : kindOf st = oneType') (H : LoH κ a b) (M : ML κ a.toList b.toList out.toList ia ib) (i1 : ia + 1 < a.size) (i2 : ib < b.size) {x y : Keyed} (ex : b[ib]? = some x) (ey : a[ia]? = some y) (hxy : ltB κ x y = true)
  (r1 : ∀ r o,Gd κ a.toList b.toList r.toList → R (.done (some r,o)) st) (r2 : ∀ out' jb mg ac bc,ML κ a.toList b.toList out'.toList (ia + 1) jb → ia + 1 + 1 < a.size → ib < jb → jb < b.size → R (.done (none,out',ia + 1,jb,mg,ac,bc)) st ∧ R (.yield (none,out',ia + 1,jb,mg,ac,bc)) st) :
  wpS (model prog w) A E s (loT1 a b out ia ib mg ac bc) R st:=by
 unfold loT1
 refine wpS_bind (Js ex ?_)
 have M' : ML κ a.toList b.toList (out.push x).toList ia (ib + 1):=by
  rw [Array.toList_push]
  exact M.pushB H.sb (Jf ex) fun z hz=>(leKy.of_lt hxy).trans (J1D H.sa (Jf ey) z hz)
 by_cases c1 : ib + 1 = b.size
 ·rw [if_pos (by simpa using c1)]
  exact wpS_pure (r1 _ _ (H.fin M' (.inr c1)))
 rw [if_neg (by simpa using c1)]
 refine wpS_bind (Js ey ?_)
 refine wpS_bind (J0V hO hk (H.ka _ (J09 ey)) (by omega) H.kb (fun i j u v hij _ hu hv=>J1S H.sb (by omega) (Jf hu) (Jf hv)) (by omega) fun k hk1 g1 g2=>?_)
 dsimp only
 have lb : b.toList.length = b.size:=Array.length_toList
 have ME : ML κ a.toList b.toList (out.push x ++ b.extract (ib + 1) (ib + 1 + k)).toList ia (ib + 1 + k):=by
  rw [Array.toList_append,J12,show ib + 1 + k - (ib + 1) = k by omega]
  refine M'.extB H.sb k (by omega) fun i u hi hu z hz=>?_
  have:=g1 i u hi (by simpa using hu)
  simp only [if_true] at this
  exact (leKy.of_lt this).trans (J1D H.sa (Jf ey) z hz)
 have hy : ib + 1 + k < b.size → ∀ z ∈ b.toList.drop (ib + 1 + k),leKy κ y z:=fun hlt z hz=>by
  obtain ⟨v,ev⟩:=Jp (a:=b) (i:=ib + 1 + k) hlt
  have:=g2 k v (Nat.le_refl _) (by omega) ev
  simp only [if_true] at this
  exact this.trans (J1D H.sb (Jf ev) z hz)
 by_cases c2 : k > 0
 ·rw [if_pos c2]
  by_cases c3 : ib + 1 + k = b.size
  ·rw [if_pos (by simpa using c3)]
   exact wpS_pure (r1 _ _ (H.fin ME (.inr c3)))
  ·rw [if_neg (by simpa using c3)]
   exact J6t H ME i1 (by omega) ey (hy (by omega)) r1 fun out' mg ac bc m1 m2=>r2 out' _ mg ac bc m1 m2 (by omega) (by omega)
 ·rw [if_neg c2]
  have k0 : k = 0:=by omega
  subst k0
  exact J6t H M' i1 (by omega) ey (hy (by omega)) r1 fun out' mg ac bc m1 m2=>r2 out' _ mg ac bc m1 m2 (by omega) (by omega)
theorem J6n {a b : Array Keyed} {st : SortSt} {Q : Array Keyed → SortSt → Prop} (hO : κ.OneLt) (hk : kindOf st = oneType') (ka : ∀ x ∈ a.toList,Kd κ x) (kb : ∀ x ∈ b.toList,Kd κ x)
  (sa : a.toList.Pairwise (leKy κ)) (sb : b.toList.Pairwise (leKy κ)) (ha : 1 ≤ a.size) (hb : 1 ≤ b.size)
  (h0 : ∀ x y,b[0]? = some x → a[0]? = some y → leKy κ x y) (hl : ∀ z,a[a.size - 1]? = some z → ∀ y ∈ b.toList,ltB κ y z = true)
  (q : ∀ r st',J0a st st' → Gd κ a.toList b.toList r.toList → Q r st') : wpS (model prog w) A E s (J3P a b) Q st:=by
 rw [J6d]
 refine wpS_bind (wpS_lift (wpAny_rule ⟨rfl,?_⟩))
 obtain ⟨b0,eb0⟩:=Jp (a:=b) (i:=0) (by omega)
 obtain ⟨a0,ea0⟩:=Jp (a:=a) (i:=0) (by omega)
 obtain ⟨z,ez⟩:=Jp (a:=a) (i:=a.size - 1) (by omega)
 have hz:=hl z ez
 refine wpS_bind (Js eb0 ?_)
 have la : a.toList.length = a.size:=Array.length_toList
 have lb : b.toList.length = b.size:=Array.length_toList
 have M0 : ML κ a.toList b.toList [b0] 0 1:=by
  have M : ML κ a.toList b.toList [] 0 0:=⟨Nat.zero_le _,Nat.zero_le _,List.Perm.refl _,.nil,fun x hx=>absurd hx List.not_mem_nil,fun x hx=>absurd hx List.not_mem_nil⟩
  exact M.pushB sb (Jf eb0) fun y hy=>(h0 b0 a0 eb0 ea0).trans (J1D sa (Jf ea0) y hy)
 have HH : LoH κ a b:=⟨ka,kb,sa,sb,hl⟩
 have fin : ∀ {out : Array Keyed} {ia ib : Nat},ML κ a.toList b.toList out.toList ia ib → (ia = a.size ∨ ib = b.size) → Gd κ a.toList b.toList (out ++ a.extract ia a.size ++ b.extract ib b.size).toList:=fun M e=>HH.fin M e
 have lst : ∀ {out : Array Keyed} {ia ib : Nat},ML κ a.toList b.toList out.toList ia ib → ia + 1 = a.size → Gd κ a.toList b.toList (out ++ b.extract ib b.size ++ a.extract ia a.size).toList:=fun M e=>HH.lst M e
 by_cases e1 : b.size = 1
 ·rw [if_pos (by simp [e1])]
  exact wpS_pure (q _ st (J0a.refl _) (fin M0 (.inr e1.symm)))
 rw [if_neg (by simpa using fun z=>e1 z.symm)]
 by_cases e2 : a.size = 1
 ·rw [if_pos (by simp [e2])]
  exact wpS_pure (q _ st (J0a.refl _) (lst M0 e2.symm))
 rw [if_neg (by simpa using fun z=>e2 z.symm)]
 refine wpS_bind (wpS_get ?_)
 refine wpS_bind (wpS_mono (wpS_forRange
  (I:=fun x c st'=>J0a st st' ∧ ∃ out ia ib mg,c = (none,out,ia,ib,mg) ∧ ML κ a.toList b.toList out.toList ia ib ∧ ia + 1 < a.size ∧ ib < b.size ∧ x ≤ ia + ib)
  (Q:=fun c st'=>J0a st st' ∧ ∃ r o,c = (some r,o) ∧ Gd κ a.toList b.toList r.toList) ?step ?fin ⟨J0a.refl _,_,0,1,_,rfl,M0,by omega,by omega,by omega⟩) ?post)
 case post =>
  rintro c st' ⟨sg,r,o,rfl,g⟩
  exact wpS_pure (q r st' sg g)
 case fin =>
  rintro c st' ⟨_,out,ia,ib,mg,rfl,_,h1,h2,h3⟩
  omega
 case step =>
  rintro x c st1 _ hx ⟨sg,out,ia,ib,mg,rfl,M,i1,i2,i3⟩
  dsimp only
  refine wpS_bind (wpS_mono (wpS_forRange
   (I:=fun y c st'=>st' = st1 ∧ ∃ out ja jb ac bc,c = (none,out,ja,jb,ac,bc) ∧ ML κ a.toList b.toList out.toList ja jb ∧ ja + 1 < a.size ∧ jb < b.size ∧ x + y ≤ ja + jb)
   (Q:=fun c st'=>st' = st1 ∧ ((∃ r o,c = (some r,o) ∧ Gd κ a.toList b.toList r.toList) ∨ ∃ out ja jb ac bc,c = (none,out,ja,jb,ac,bc) ∧ ML κ a.toList b.toList out.toList ja jb ∧ ja + 1 < a.size ∧ jb < b.size ∧ x + 1 ≤ ja + jb)) ?step1 ?fin1 ⟨rfl,_,ia,ib,0,0,rfl,M,i1,i2,i3⟩) ?post1)
  case fin1 =>
   rintro c st' ⟨_,out,ja,jb,ac,bc,rfl,_,h1,h2,h3⟩
   omega
  case step1 =>
   rintro y c st' _ hy ⟨rfl,out,ja,jb,ac,bc,rfl,M,j1,j2,j3⟩
   dsimp only
   obtain ⟨xb,eb⟩:=Jp (a:=b) (i:=jb) j2
   obtain ⟨xa,ea⟩:=Jp (a:=a) (i:=ja) (by omega)
   refine wpS_bind (Js eb (wpS_bind (Js ea (wpS_bind (J2F hO (sg.k.trans hk) (kb _ (J09 eb)) (ka _ (J09 ea)) ?_)))))
   dsimp only
   cases hw : ltB κ xb xa
   ·rw [if_neg Bool.false_ne_true]
    refine wpS_bind (Js ea ?_)
    have M' : ML κ a.toList b.toList (out.push xa).toList (ja + 1) jb:=by
     rw [Array.toList_push]
     exact M.pushA sa (Jf ea) fun y hy=>(leKy.of_not hw).trans (J1D sb (Jf eb) y hy)
    by_cases c1 : ja + 1 + 1 = a.size
    ·rw [if_pos (by simpa using c1)]
     exact wpS_pure ⟨rfl,.inl ⟨_,_,rfl,lst M' c1⟩⟩
    ·rw [if_neg (by simpa using c1)]
     split
     ·exact wpS_pure ⟨rfl,.inr ⟨_,_,_,_,_,rfl,M',by omega,j2,by omega⟩⟩
     ·exact wpS_pure ⟨rfl,_,_,_,_,_,rfl,M',by omega,j2,by omega⟩
   ·rw [if_pos rfl]
    refine wpS_bind (Js eb ?_)
    have M' : ML κ a.toList b.toList (out.push xb).toList ja (jb + 1):=by
     rw [Array.toList_push]
     exact M.pushB sb (Jf eb) fun y hy=>(leKy.of_lt hw).trans (J1D sa (Jf ea) y hy)
    by_cases c1 : jb + 1 = b.size
    ·rw [if_pos (by simpa using c1)]
     exact wpS_pure ⟨rfl,.inl ⟨_,_,rfl,fin M' (.inr c1)⟩⟩
    ·rw [if_neg (by simpa using c1)]
     split
     ·exact wpS_pure ⟨rfl,.inr ⟨_,_,_,_,_,rfl,M',j1,by omega,by omega⟩⟩
     ·exact wpS_pure ⟨rfl,_,_,_,_,_,rfl,M',j1,by omega,by omega⟩
  case post1 =>
   rintro c st' ⟨rfl,⟨r,o,rfl,g⟩ | ⟨out,ja,jb,ac,bc,rfl,M,j1,j2,j3⟩⟩
   ·exact wpS_pure ⟨sg,r,_,rfl,g⟩
   dsimp only
   refine wpS_bind (wpS_lift (wpAny_rule ⟨rfl,?_⟩))
   refine wpS_bind (wpS_mono (wpS_forRange
    (I:=fun y c st'=>J0a st st' ∧ ∃ out ja jb mg ac bc,c = (none,out,ja,jb,mg,ac,bc) ∧ ML κ a.toList b.toList out.toList ja jb ∧ ja + 1 < a.size ∧ jb < b.size ∧ x + 1 + y ≤ ja + jb)
    (Q:=fun c st'=>J0a st st' ∧ ((∃ r o,c = (some r,o) ∧ Gd κ a.toList b.toList r.toList) ∨ ∃ out ja jb mg ac bc,c = (none,out,ja,jb,mg,ac,bc) ∧ ML κ a.toList b.toList out.toList ja jb ∧ ja + 1 < a.size ∧ jb < b.size ∧ x + 1 ≤ ja + jb)) ?step2 ?fin2 ⟨sg,_,_,_,_,_,_,rfl,M,j1,j2,j3⟩) ?post2)
   case fin2 =>
    rintro c st' ⟨_,out,ja,jb,mg,ac,bc,rfl,_,h1,h2,h3⟩
    omega
   case post2 =>
    rintro c st' ⟨sg',⟨r,o,rfl,g⟩ | ⟨out,ja,jb,mg,ac,bc,rfl,M,j1,j2,j3⟩⟩
    ·exact wpS_pure ⟨sg',r,_,rfl,g⟩
    dsimp only
    rw [J0p]
    exact wpS_bind (wpS_modify (wpS_pure ⟨sg'.set _,_,_,_,_,rfl,M,j1,j2,j3⟩))
   case step2 =>
    clear M j1 j2 j3
    rintro y c st' _ hy ⟨sg',out,ja,jb,mg,ac,bc,rfl,M,j1,j2,j3⟩
    dsimp only
    obtain ⟨xb,eb⟩:=Jp (a:=b) (i:=jb) j2
    by_cases hm : mg > 1
    case' pos=>rw [if_pos hm]; generalize mg - 1 = mg2
    case' neg=>rw [if_neg hm]; clear hm; generalize mg = mg2
    all_goals
     rw [J0p]
     refine wpS_bind (wpS_modify ?_)
     have sg2:=sg'.set mg2
     generalize SortSt.mk' (kindOf st') (arrOf st') (pendingOf st') mg2 (failedOf st') = st2 at sg2 ⊢
     have hk2 : kindOf st2 = oneType':=sg2.k.trans hk
     refine wpS_bind (Js eb ?_)
     refine wpS_bind (J0V hO hk2 (kb _ (J09 eb)) (by omega) ka (fun i j u v hij _ hu hv=>J1S sa (by omega) (Jf hu) (Jf hv)) (by omega) fun k hk1 g1 g2=>?_)
     dsimp only
     have kl : ja + k + 1 ≤ a.size:=by
      by_cases c : ja + k < a.size
      ·omega
      ·exfalso
       have:=g1 (a.size - 1 - ja) z (by omega) (by rw [show ja + (a.size - 1 - ja) = a.size - 1 by omega]; exact ez)
       simp only [Bool.false_eq_true,if_false] at this
       have h2:=hz xb (J09 eb)
       have h3:=this.lt h2
       have h4:=leKy.refl (κ:=κ) z
       unfold leKy KeyOrd.kle at h4
       unfold ltB at h3
       rw [h3] at h4
       cases h4
     have ME : ML κ a.toList b.toList (out ++ a.extract ja (ja + k)).toList (ja + k) jb:=by
      rw [Array.toList_append,J12,show ja + k - ja = k by omega]
      refine M.extA sa k (by omega) fun i u hi hu y hy=>?_
      have:=g1 i u hi (by simpa using hu)
      simp only [Bool.false_eq_true,if_false] at this
      exact this.trans (J1D sb (Jf eb) y hy)
     have lt1 : ∀ v,a[ja + k]? = some v → ltB κ xb v = true:=fun v ev=>by
      have:=g2 k v (Nat.le_refl _) (by omega) ev
      simpa using this
     obtain ⟨v,ev⟩:=Jp (a:=a) (i:=ja + k) (by omega)
     have r1 : ∀ (r : Array Keyed) (o : Array Keyed × Nat × Nat × Nat × Nat × Nat),Gd κ a.toList b.toList r.toList → J0a st st2 ∧ ((∃ r' o',((some r,o) : LoSt) = (some r',o') ∧ Gd κ a.toList b.toList r'.toList) ∨ ∃ out ja jb mg ac bc,((some r,o) : LoSt) = (none,out,ja,jb,mg,ac,bc) ∧ ML κ a.toList b.toList out.toList ja jb ∧ ja + 1 < a.size ∧ jb < b.size ∧ x + 1 ≤ ja + jb):=fun r o g=>⟨sg2,.inl ⟨r,o,rfl,g⟩⟩
     by_cases c2 : k > 0
     ·rw [if_pos c2]
      by_cases c3 : ja + k + 1 = a.size
      ·rw [if_pos (by simpa using c3)]
       exact wpS_pure (r1 _ _ (HH.lst ME c3))
      ·rw [if_neg (by simpa using c3),if_neg (by simp; omega)]
       show wpS _ _ _ _ (loT1 a b (out ++ a.extract ja (ja + k)) (ja + k) jb mg2 k bc) _ _
       exact J6C hO hk2 HH ME (by omega) j2 eb ev (lt1 v ev) r1 fun out' jb' mg ac bc m1 m2 m3 m4=>⟨⟨sg2,.inr ⟨_,_,_,_,_,_,rfl,m1,m2,m4,by omega⟩⟩,⟨sg2,_,_,_,_,_,_,rfl,m1,m2,m4,by omega⟩⟩
     ·rw [if_neg c2]
      have k0 : k = 0:=by omega
      subst k0
      show wpS _ _ _ _ (loT1 a b out ja jb mg2 0 bc) _ _
      exact J6C hO hk2 HH M j1 j2 eb ev (lt1 v ev) r1 fun out' jb' mg ac bc m1 m2 m3 m4=>⟨⟨sg2,.inr ⟨_,_,_,_,_,_,rfl,m1,m2,m4,by omega⟩⟩,⟨sg2,_,_,_,_,_,_,rfl,m1,m2,m4,by omega⟩⟩
end
theorem J6v (a b : Array Keyed) : J3B a b = (do
 rule "list.sort.merge-hi"
 let tot:=a.size + b.size
 let fin (o : Array Keyed) (i j : Nat):=a.extract 0 i ++ b.extract 0 j ++ o.reverse
 let fin2 (o : Array Keyed) (i j : Nat):=b.extract 0 j ++ a.extract 0 i ++ o.reverse
 let mut i:=a.size - 1
 let mut j:=b.size
 let mut o : Array Keyed:=#[← elem' a i]
 if i == 0 then return fin o i j
 if j == 1 then return fin2 o i j
 let mut g:=gallopOf (← get)
 for _ in [0:tot] do
  let mut ac:=0
  let mut bc:=0
  for _ in [0:tot] do
   let some win ← lt' (← elem' b (j - 1)) (← elem' a (i - 1)) | return fin o i j
   if win then
    i:=i - 1; o:=o.push (← elem' a i); ac:=ac + 1; bc:=0
    if i == 0 then return fin o i j
    if ac ≥ g then break
   else
    j:=j - 1; o:=o.push (← elem' b j); bc:=bc + 1; ac:=0
    if j == 1 then return fin2 o i j
    if bc ≥ g then break
  rule "list.sort.gallop"
  g:=g + 1
  for _ in [0:tot] do
   if g > 1 then g:=g - 1
   J0u g
   let some t ← J0M false (← elem' b (j - 1)) a 0 i (i - 1) | return fin o i j
   let k:=i - t
   ac:=k
   if k > 0 then
    o:=o ++ (a.extract t i).reverse; i:=t
    if i == 0 then return fin o i j
   j:=j - 1; o:=o.push (← elem' b j)
   if j == 1 then return fin2 o i j
   let some t ← J0M true (← elem' a (i - 1)) b 0 j (j - 1) | return fin o i j
   let k:=j - t
   bc:=k
   if k > 0 then
    o:=o ++ (b.extract t j).reverse; j:=t
    if j == 1 then return fin2 o i j
    if j == 0 then return fin o i j
   i:=i - 1; o:=o.push (← elem' a i)
   if i == 0 then return fin o i j
   if ac < 7 && bc < 7 then break
  g:=g + 1
  J0u g
 unsupported "internal:list.sort.merge-bound"):=rfl
section
variable {κ : PyProof.Rows.KeyKind}
structure MH (κ : PyProof.Rows.KeyKind) (al bl out : List Keyed) (na nb : Nat) : Prop where
 pa : na ≤ al.length
 pb : nb ≤ bl.length
 perm : ((al.take na ++ bl.take nb) ++ out.reverse).Perm (al ++ bl)
 srt : out.reverse.Pairwise (leKy κ)
 la : ∀ x ∈ out,∀ y ∈ al.take na,leKy κ y x
 lb : ∀ x ∈ out,∀ y ∈ bl.take nb,leKy κ y x
theorem J7i {l : List Keyed} {i : Nat} {x : Keyed} (h : l[i]? = some x) : l.take (i + 1) = l.take i ++ [x]:=by
 rw [List.take_add_one,h]
 rfl
theorem J2C {l : List Keyed} (s : l.Pairwise (leKy κ)) (i : Nat) : (l.take i).Pairwise (leKy κ):=s.sublist (List.take_sublist _ _)
theorem J1I {l : List Keyed} (s : l.Pairwise (leKy κ)) {i : Nat} {x : Keyed} (hx : l[i]? = some x) : ∀ y ∈ l.take (i + 1),leKy κ y x:=by
 intro y hy
 obtain ⟨j,hj⟩:=List.getElem?_of_mem hy
 rw [List.getElem?_take] at hj
 split at hj
 ·exact J1S s (by omega) hj hx
 ·cases hj
variable {al bl out : List Keyed} {na nb : Nat}
theorem MH.pushA (h : MH κ al bl out (na + 1) nb) (sa : al.Pairwise (leKy κ)) {x : Keyed} (hx : al[na]? = some x) (hle : ∀ y ∈ bl.take nb,leKy κ y x) : MH κ al bl (out ++ [x]) na nb:=by
 have hd:=J7i hx
 have hl:=(List.getElem?_eq_some_iff.mp hx).1
 refine ⟨by omega,h.pb,?_,?_,?_,?_⟩
 ·have:=h.perm
  rw [hd] at this
  rw [List.reverse_append]
  refine List.Perm.trans ?_ this
  show (al.take na ++ bl.take nb ++ (x :: out.reverse)).Perm (al.take na ++ [x] ++ bl.take nb ++ out.reverse)
  rw [List.append_assoc,List.append_assoc,List.append_assoc]
  exact List.Perm.append_left _ List.perm_middle
 ·rw [List.reverse_append]
  refine List.pairwise_cons.mpr ⟨fun y hy=>?_,h.srt⟩
  exact h.la y (List.mem_reverse.mp hy) x (by rw [hd]; simp)
 ·intro y hy z hz
  rcases List.mem_append.mp hy with hy | hy
  ·exact h.la y hy z (by rw [hd]; exact List.mem_append_left _ hz)
  ·rw [List.mem_singleton.mp hy]
   exact J1I sa hx z (by rw [hd]; exact List.mem_append_left _ hz)
 ·intro y hy z hz
  rcases List.mem_append.mp hy with hy | hy
  ·exact h.lb y hy z hz
  ·rw [List.mem_singleton.mp hy]
   exact hle z hz
theorem MH.pushB (h : MH κ al bl out na (nb + 1)) (sb : bl.Pairwise (leKy κ)) {x : Keyed} (hx : bl[nb]? = some x) (hle : ∀ y ∈ al.take na,leKy κ y x) : MH κ al bl (out ++ [x]) na nb:=by
 have hd:=J7i hx
 have hl:=(List.getElem?_eq_some_iff.mp hx).1
 refine ⟨h.pa,by omega,?_,?_,?_,?_⟩
 ·have:=h.perm
  rw [hd] at this
  rw [List.reverse_append]
  show (al.take na ++ bl.take nb ++ ([x] ++ out.reverse)).Perm _
  rw [← List.append_assoc,List.append_assoc (al.take na)]
  exact this
 ·rw [List.reverse_append]
  refine List.pairwise_cons.mpr ⟨fun y hy=>?_,h.srt⟩
  exact h.lb y (List.mem_reverse.mp hy) x (by rw [hd]; simp)
 ·intro y hy z hz
  rcases List.mem_append.mp hy with hy | hy
  ·exact h.la y hy z hz
  ·rw [List.mem_singleton.mp hy]
   exact hle z hz
 ·intro y hy z hz
  rcases List.mem_append.mp hy with hy | hy
  ·exact h.lb y hy z (by rw [hd]; exact List.mem_append_left _ hz)
  ·rw [List.mem_singleton.mp hy]
   exact J1I sb hx z (by rw [hd]; exact List.mem_append_left _ hz)
theorem J6a {l : List Keyed} {m k : Nat} {x : Keyed} (h : l[m]? = some x) : (l.drop m).take (k + 1) = x :: (l.drop (m + 1)).take k:=by
 rw [J5l h,List.take_succ_cons]
theorem MH.extA (h : MH κ al bl out na nb) (sa : al.Pairwise (leKy κ)) : ∀ (k : Nat),k ≤ na → (∀ i x,na - k ≤ i → i < na → al[i]? = some x → ∀ y ∈ bl.take nb,leKy κ y x) → MH κ al bl (out ++ ((al.drop (na - k)).take k).reverse) (na - k) nb
 | 0,_,_=>by rw [List.take_zero,List.reverse_nil,List.append_nil]; exact h
 | k + 1,hk,hx=>by
  have hpa:=h.pa
  have ih:=MH.extA h sa k (by omega) fun i x h1 h2=>hx i x (by omega) h2
  have e : al[na - (k + 1)]? = some al[na - (k + 1)]:=List.getElem?_eq_getElem (by omega)
  rw [J6a e,List.reverse_cons,← List.append_assoc,show na - (k + 1) + 1 = na - k by omega]
  rw [show na - k = na - (k + 1) + 1 by omega] at ih ⊢
  exact ih.pushA sa e (hx _ _ (Nat.le_refl _) (by omega) e)
theorem MH.extB (h : MH κ al bl out na nb) (sb : bl.Pairwise (leKy κ)) : ∀ (k : Nat),k ≤ nb → (∀ i x,nb - k ≤ i → i < nb → bl[i]? = some x → ∀ y ∈ al.take na,leKy κ y x) → MH κ al bl (out ++ ((bl.drop (nb - k)).take k).reverse) na (nb - k)
 | 0,_,_=>by rw [List.take_zero,List.reverse_nil,List.append_nil]; exact h
 | k + 1,hk,hx=>by
  have hpa:=h.pb
  have ih:=MH.extB h sb k (by omega) fun i x h1 h2=>hx i x (by omega) h2
  have e : bl[nb - (k + 1)]? = some bl[nb - (k + 1)]:=List.getElem?_eq_getElem (by omega)
  rw [J6a e,List.reverse_cons,← List.append_assoc,show nb - (k + 1) + 1 = nb - k by omega]
  rw [show nb - k = nb - (k + 1) + 1 by omega] at ih ⊢
  exact ih.pushB sb e (hx _ _ (Nat.le_refl _) (by omega) e)
theorem MH.done (h : MH κ al bl out na nb) (sa : al.Pairwise (leKy κ)) (sb : bl.Pairwise (leKy κ)) (e : na = 0 ∨ nb = 0) : Gd κ al bl (al.take na ++ bl.take nb ++ out.reverse):=by
 refine ⟨h.perm,List.pairwise_append.mpr ⟨List.pairwise_append.mpr ⟨J2C sa _,J2C sb _,fun x hx y hy=>?_⟩,h.srt,fun x hx y hy=>?_⟩⟩
 ·rcases e with e | e
  ·rw [e] at hx; exact absurd hx List.not_mem_nil
  ·rw [e] at hy; exact absurd hy List.not_mem_nil
 ·rcases List.mem_append.mp hx with hx | hx
  ·exact h.la y (List.mem_reverse.mp hy) x hx
  ·exact h.lb y (List.mem_reverse.mp hy) x hx
theorem MH.firstB (h : MH κ al bl out na nb) (sa : al.Pairwise (leKy κ)) (sb : bl.Pairwise (leKy κ)) {z : Keyed} (e : bl.take nb = [z]) (hz : ∀ y ∈ al,leKy κ z y) : Gd κ al bl (bl.take nb ++ al.take na ++ out.reverse):=by
 refine ⟨(List.Perm.append_right _ List.perm_append_comm).trans h.perm,List.pairwise_append.mpr ⟨List.pairwise_append.mpr ⟨J2C sb _,J2C sa _,fun x hx y hy=>?_⟩,h.srt,fun x hx y hy=>?_⟩⟩
 ·rw [e] at hx
  rw [List.mem_singleton.mp hx]
  exact hz y (List.mem_of_mem_take hy)
 ·rcases List.mem_append.mp hx with hx | hx
  ·exact h.lb y (List.mem_reverse.mp hy) x hx
  ·exact h.la y (List.mem_reverse.mp hy) x hx
end
section
variable {prog : Program} {w : World} {A : Around} {E : Value → Shared → Prop} {s : Shared} {κ : PyProof.Rows.KeyKind}
theorem J5i (a : Array Keyed) (n : Nat) : (a.extract 0 n).toList = a.toList.take n:=by rw [J12,List.drop_zero,Nat.sub_zero]
structure HiH (κ : PyProof.Rows.KeyKind) (a b : Array Keyed) : Prop where
 ka : ∀ x ∈ a.toList,Kd κ x
 kb : ∀ x ∈ b.toList,Kd κ x
 sa : a.toList.Pairwise (leKy κ)
 sb : b.toList.Pairwise (leKy κ)
 hf : ∀ z,b[0]? = some z → ∀ y ∈ a.toList,ltB κ z y = true
theorem HiH.fin {a b out : Array Keyed} {na nb : Nat} (h : HiH κ a b) (M : MH κ a.toList b.toList out.toList na nb) (e : na = 0 ∨ nb = 0) : Gd κ a.toList b.toList (a.extract 0 na ++ b.extract 0 nb ++ out.reverse).toList:=by
 rw [Array.toList_append,Array.toList_append,J5i,J5i,Array.toList_reverse]
 exact M.done h.sa h.sb e
theorem HiH.fst {a b out : Array Keyed} {na nb : Nat} (h : HiH κ a b) (M : MH κ a.toList b.toList out.toList na nb) (hb : 1 ≤ b.size) (e : nb = 1) : Gd κ a.toList b.toList (b.extract 0 nb ++ a.extract 0 na ++ out.reverse).toList:=by
 rw [Array.toList_append,Array.toList_append,J5i,J5i,Array.toList_reverse]
 obtain ⟨z,ez⟩:=Jp (a:=b) (i:=0) (by omega)
 refine M.firstB h.sa h.sb (z:=z) ?_ fun y hy=>leKy.of_lt (h.hf z ez y hy)
 rw [e,J7i (Jf ez)]
 rfl
noncomputable abbrev HiSt:=Option (Array Keyed) × Nat × Nat × Array Keyed × Nat × Nat × Nat
noncomputable def hiT2 (a b out : Array Keyed) (na nb mg ac bc : Nat) : SM (ForInStep HiSt):=do
 let x ← elem' a (na - 1)
 if (na - 1 == 0) = true then pure (ForInStep.done (some (a.extract 0 (na - 1) ++ b.extract 0 nb ++ (out.push x).reverse),na - 1,nb,out.push x,mg,ac,bc))
 else if (decide (ac < 7) && decide (bc < 7)) = true then pure (ForInStep.done (none,na - 1,nb,out.push x,mg,ac,bc))
 else pure (ForInStep.yield (none,na - 1,nb,out.push x,mg,ac,bc))
noncomputable def hiT1 (a b out : Array Keyed) (na nb mg ac bc : Nat) : SM (ForInStep HiSt):=do
 let x ← elem' b (nb - 1)
 if (nb - 1 == 1) = true then pure (ForInStep.done (some (b.extract 0 (nb - 1) ++ a.extract 0 na ++ (out.push x).reverse),na,nb - 1,out.push x,mg,ac,bc))
 else do
  let y ← elem' a (na - 1)
  let k? ← J0M true y b 0 (nb - 1) (nb - 1 - 1)
  match k? with
  | some k =>
   if nb - 1 - k > 0 then
    if (k == 1) = true then pure (ForInStep.done (some (b.extract 0 k ++ a.extract 0 na ++ (out.push x ++ (b.extract k (nb - 1)).reverse).reverse),na,k,out.push x ++ (b.extract k (nb - 1)).reverse,mg,ac,nb - 1 - k))
    else if (k == 0) = true then pure (ForInStep.done (some (a.extract 0 na ++ b.extract 0 k ++ (out.push x ++ (b.extract k (nb - 1)).reverse).reverse),na,k,out.push x ++ (b.extract k (nb - 1)).reverse,mg,ac,nb - 1 - k))
    else hiT2 a b (out.push x ++ (b.extract k (nb - 1)).reverse) na k mg ac (nb - 1 - k)
   else hiT2 a b (out.push x) na (nb - 1) mg ac (nb - 1 - k)
  | _=>pure (ForInStep.done (some (a.extract 0 na ++ b.extract 0 (nb - 1) ++ (out.push x).reverse),na,nb - 1,out.push x,mg,ac,bc))
theorem J6f {a b out : Array Keyed} {na nb mg ac bc : Nat} {st : SortSt} {R : ForInStep HiSt → SortSt → Prop} (H : HiH κ a b) (M : MH κ a.toList b.toList out.toList (na + 1) nb) (i1 : na + 1 ≤ a.size) {x : Keyed} (ex : a[na]? = some x) (hx : ∀ y ∈ b.toList.take nb,leKy κ y x)
  (r1 : ∀ r o,Gd κ a.toList b.toList r.toList → R (.done (some r,o)) st) (r2 : ∀ out' mg ac bc,MH κ a.toList b.toList out'.toList na nb → 1 ≤ na → R (.done (none,na,nb,out',mg,ac,bc)) st ∧ R (.yield (none,na,nb,out',mg,ac,bc)) st) :
  wpS (model prog w) A E s (hiT2 a b out (na + 1) nb mg ac bc) R st:=by
 unfold hiT2
 simp only [Nat.add_sub_cancel]
 refine wpS_bind (Js ex ?_)
 have M' : MH κ a.toList b.toList (out.push x).toList na nb:=by
  rw [Array.toList_push]
  exact M.pushA H.sa (Jf ex) hx
 by_cases c1 : na = 0
 ·rw [if_pos (by simpa using c1)]
  exact wpS_pure (r1 _ _ (H.fin M' (.inl c1)))
 ·rw [if_neg (by simpa using c1)]
  have z:=r2 (out.push x) mg ac bc M' (by omega)
  split
  ·exact wpS_pure z.1
  ·exact wpS_pure z.2
theorem J61 {a b out : Array Keyed} {na nb mg ac bc : Nat} {st : SortSt} {R : ForInStep HiSt → SortSt → Prop} (hO : κ.OneLt) (hk : kindOf st = oneType') (H : HiH κ a b) (M : MH κ a.toList b.toList out.toList (na + 1) (nb + 1)) (i1 : na + 1 ≤ a.size) (i2 : 1 ≤ nb) (i3 : nb + 1 ≤ b.size) {x y : Keyed} (ex : b[nb]? = some x) (ey : a[na]? = some y) (hxy : leKy κ y x)
  (r1 : ∀ r o,Gd κ a.toList b.toList r.toList → R (.done (some r,o)) st) (r2 : ∀ out' jb mg ac bc,MH κ a.toList b.toList out'.toList na jb → 1 ≤ na → 2 ≤ jb → jb ≤ nb → R (.done (none,na,jb,out',mg,ac,bc)) st ∧ R (.yield (none,na,jb,out',mg,ac,bc)) st) :
  wpS (model prog w) A E s (hiT1 a b out (na + 1) (nb + 1) mg ac bc) R st:=by
 unfold hiT1
 simp only [Nat.add_sub_cancel]
 refine wpS_bind (Js ex ?_)
 have M' : MH κ a.toList b.toList (out.push x).toList (na + 1) nb:=by
  rw [Array.toList_push]
  exact M.pushB H.sb (Jf ex) fun z hz=>(J1I H.sa (Jf ey) z hz).trans hxy
 by_cases c1 : nb = 1
 ·rw [if_pos (by simpa using c1)]
  exact wpS_pure (r1 _ _ (H.fst M' (by omega) c1))
 rw [if_neg (by simpa using c1)]
 refine wpS_bind (Js ey ?_)
 have zero : ∀ i : Nat,0 + i = i:=Nat.zero_add
 refine wpS_bind (J0V hO hk (H.ka _ (J09 ey)) (by omega) H.kb (fun i j u v hij _ hu hv=>J1S H.sb hij (Jf (by rw [← zero i]; exact hu)) (Jf (by rw [← zero j]; exact hv))) (by omega) fun k hk1 g1 g2=>?_)
 dsimp only
 have lb : b.toList.length = b.size:=Array.length_toList
 have ME : MH κ a.toList b.toList (out.push x ++ (b.extract k nb).reverse).toList (na + 1) k:=by
  rw [Array.toList_append,Array.toList_reverse,J12]
  have:=M'.extB H.sb (nb - k) (by omega) fun i u h1 h2 hu z hz=>?_
  ·rw [show nb - (nb - k) = k by omega] at this
   exact this
  ·have h3:=g2 i u (by omega) h2 (by rw [zero]; simpa using hu)
   simp only [if_true] at h3
   exact (J1I H.sa (Jf ey) z hz).trans h3
 have hy : ∀ z ∈ b.toList.take k,leKy κ z y:=fun z hz=>by
  obtain ⟨j,hj⟩:=List.getElem?_of_mem hz
  rw [List.getElem?_take] at hj
  split at hj
  ·rename_i hlt
   have h3:=g1 j z hlt (by rw [zero]; simpa using hj)
   simp only [if_true] at h3
   exact leKy.of_lt h3
  ·cases hj
 have kpos : 1 ≤ k:=by
  by_cases c : k = 0
  ·exfalso
   obtain ⟨z,ez⟩:=Jp (a:=b) (i:=0) (by omega)
   have h3:=g2 0 z (by omega) (by omega) (by rw [zero]; exact ez)
   simp only [if_true] at h3
   have h4:=H.hf z ez y (J09 ey)
   unfold leKy KeyOrd.kle at h3
   unfold ltB at h4
   rw [h3] at h4
   cases h4
  ·omega
 by_cases c2 : nb - k > 0
 ·rw [if_pos c2]
  by_cases c3 : k = 1
  ·rw [if_pos (by simpa using c3)]
   exact wpS_pure (r1 _ _ (H.fst ME (by omega) c3))
  ·rw [if_neg (by simpa using c3),if_neg (by simp; omega)]
   exact J6f H ME i1 ey hy r1 fun out' mg ac bc m1 m2=>r2 out' _ mg ac bc m1 m2 (by omega) (by omega)
 ·rw [if_neg c2]
  have k0 : k = nb:=by omega
  rw [k0] at hy
  exact J6f H M' i1 ey hy r1 fun out' mg ac bc m1 m2=>r2 out' _ mg ac bc m1 m2 (by omega) (by omega)
theorem J6D {a b : Array Keyed} {st : SortSt} {Q : Array Keyed → SortSt → Prop} (hO : κ.OneLt) (hk : kindOf st = oneType') (HH : HiH κ a b) (ha : 1 ≤ a.size) (hb : 1 ≤ b.size)
  (hl : ∀ z,a[a.size - 1]? = some z → ∀ y ∈ b.toList,leKy κ y z)
  (q : ∀ r st',J0a st st' → Gd κ a.toList b.toList r.toList → Q r st') : wpS (model prog w) A E s (J3B a b) Q st:=by
 rw [J6v]
 refine wpS_bind (wpS_lift (wpAny_rule ⟨rfl,?_⟩))
 obtain ⟨z,ez⟩:=Jp (a:=a) (i:=a.size - 1) (by omega)
 obtain ⟨b0,eb0⟩:=Jp (a:=b) (i:=0) (by omega)
 have la : a.toList.length = a.size:=Array.length_toList
 have lb : b.toList.length = b.size:=Array.length_toList
 refine wpS_bind (Js ez ?_)
 have M0 : MH κ a.toList b.toList [z] (a.size - 1) b.size:=by
  have M : MH κ a.toList b.toList [] (a.size - 1 + 1) b.size:=⟨by omega,by omega,by rw [List.take_of_length_le (by omega),List.take_of_length_le (by omega),List.reverse_nil,List.append_nil],.nil,fun x hx=>absurd hx List.not_mem_nil,fun x hx=>absurd hx List.not_mem_nil⟩
  exact M.pushA HH.sa (Jf ez) fun y hy=>hl z ez y (List.mem_of_mem_take hy)
 by_cases e1 : a.size - 1 = 0
 ·rw [if_pos (by simp [e1])]
  exact wpS_pure (q _ st (J0a.refl _) (HH.fin M0 (.inl e1)))
 rw [if_neg (by simpa using e1)]
 by_cases e2 : b.size = 1
 ·rw [if_pos (by simp [e2])]
  exact wpS_pure (q _ st (J0a.refl _) (HH.fst M0 hb e2))
 rw [if_neg (by simpa using e2)]
 refine wpS_bind (wpS_get ?_)
 refine wpS_bind (wpS_mono (wpS_forRange
  (I:=fun x c st'=>J0a st st' ∧ ∃ out na nb mg,c = (none,na,nb,out,mg) ∧ MH κ a.toList b.toList out.toList na nb ∧ 1 ≤ na ∧ 2 ≤ nb ∧ na ≤ a.size ∧ nb ≤ b.size ∧ x + na + nb ≤ a.size + b.size)
  (Q:=fun c st'=>J0a st st' ∧ ∃ r o,c = (some r,o) ∧ Gd κ a.toList b.toList r.toList) ?step ?fin ⟨J0a.refl _,_,_,_,_,rfl,M0,by omega,by omega,by omega,by omega,by omega⟩) ?post)
 case post =>
  rintro c st' ⟨sg,r,o,rfl,g⟩
  exact wpS_pure (q r st' sg g)
 case fin =>
  rintro c st' ⟨_,out,na,nb,mg,rfl,_,h1,h2,h3⟩
  omega
 case step =>
  rintro x c st1 _ hx ⟨sg,out,na,nb,mg,rfl,M,i1,i2,i3,i4,i5⟩
  dsimp only
  refine wpS_bind (wpS_mono (wpS_forRange
   (I:=fun y c st'=>st' = st1 ∧ ∃ out na nb ac bc,c = (none,na,nb,out,ac,bc) ∧ MH κ a.toList b.toList out.toList na nb ∧ 1 ≤ na ∧ 2 ≤ nb ∧ na ≤ a.size ∧ nb ≤ b.size ∧ x + y + na + nb ≤ a.size + b.size)
   (Q:=fun c st'=>st' = st1 ∧ ((∃ r o,c = (some r,o) ∧ Gd κ a.toList b.toList r.toList) ∨ ∃ out na nb ac bc,c = (none,na,nb,out,ac,bc) ∧ MH κ a.toList b.toList out.toList na nb ∧ 1 ≤ na ∧ 2 ≤ nb ∧ na ≤ a.size ∧ nb ≤ b.size ∧ x + 1 + na + nb ≤ a.size + b.size)) ?step1 ?fin1 ⟨rfl,_,_,_,0,0,rfl,M,i1,i2,i3,i4,by omega⟩) ?post1)
  case fin1 =>
   rintro c st' ⟨_,out,na,nb,ac,bc,rfl,_,h1,h2,h3⟩
   omega
  case step1 =>
   clear M i1 i2 i3 i4 i5
   rintro y c st' _ hy ⟨rfl,out,na,nb,ac,bc,rfl,M,i1,i2,i3,i4,i5⟩
   dsimp only
   obtain ⟨nb,rfl⟩ : ∃ n,nb = n + 1:=⟨nb - 1,by omega⟩
   obtain ⟨na,rfl⟩ : ∃ n,na = n + 1:=⟨na - 1,by omega⟩
   simp only [Nat.add_sub_cancel]
   obtain ⟨xb,eb⟩:=Jp (a:=b) (i:=nb) (by omega)
   obtain ⟨xa,ea⟩:=Jp (a:=a) (i:=na) (by omega)
   refine wpS_bind (Js eb (wpS_bind (Js ea (wpS_bind (J2F hO (sg.k.trans hk) (HH.kb _ (J09 eb)) (HH.ka _ (J09 ea)) ?_)))))
   dsimp only
   cases hw : ltB κ xb xa
   ·rw [if_neg Bool.false_ne_true]
    refine wpS_bind (Js eb ?_)
    have M' : MH κ a.toList b.toList (out.push xb).toList (na + 1) nb:=by
     rw [Array.toList_push]
     exact M.pushB HH.sb (Jf eb) fun y hy=>(J1I HH.sa (Jf ea) y hy).trans (leKy.of_not hw)
    by_cases c1 : nb = 1
    ·rw [if_pos (by simpa using c1)]
     exact wpS_pure ⟨rfl,.inl ⟨_,_,rfl,HH.fst M' hb c1⟩⟩
    ·rw [if_neg (by simpa using c1)]
     split
     ·exact wpS_pure ⟨rfl,.inr ⟨_,_,_,_,_,rfl,M',by omega,by omega,by omega,by omega,by omega⟩⟩
     ·exact wpS_pure ⟨rfl,_,_,_,_,_,rfl,M',by omega,by omega,by omega,by omega,by omega⟩
   ·rw [if_pos rfl]
    refine wpS_bind (Js ea ?_)
    have M' : MH κ a.toList b.toList (out.push xa).toList na (nb + 1):=by
     rw [Array.toList_push]
     exact M.pushA HH.sa (Jf ea) fun y hy=>(J1I HH.sb (Jf eb) y hy).trans (leKy.of_lt hw)
    by_cases c1 : na = 0
    ·rw [if_pos (by simpa using c1)]
     exact wpS_pure ⟨rfl,.inl ⟨_,_,rfl,HH.fin M' (.inl c1)⟩⟩
    ·rw [if_neg (by simpa using c1)]
     split
     ·exact wpS_pure ⟨rfl,.inr ⟨_,_,_,_,_,rfl,M',by omega,by omega,by omega,by omega,by omega⟩⟩
     ·exact wpS_pure ⟨rfl,_,_,_,_,_,rfl,M',by omega,by omega,by omega,by omega,by omega⟩
  case post1 =>
   clear M i1 i2 i3 i4 i5
   rintro c st' ⟨rfl,⟨r,o,rfl,g⟩ | ⟨out,na,nb,ac,bc,rfl,M,i1,i2,i3,i4,i5⟩⟩
   ·exact wpS_pure ⟨sg,r,_,rfl,g⟩
   dsimp only
   refine wpS_bind (wpS_lift (wpAny_rule ⟨rfl,?_⟩))
   refine wpS_bind (wpS_mono (wpS_forRange
    (I:=fun y c st'=>J0a st st' ∧ ∃ out na nb mg ac bc,c = (none,na,nb,out,mg,ac,bc) ∧ MH κ a.toList b.toList out.toList na nb ∧ 1 ≤ na ∧ 2 ≤ nb ∧ na ≤ a.size ∧ nb ≤ b.size ∧ x + 1 + y + na + nb ≤ a.size + b.size)
    (Q:=fun c st'=>J0a st st' ∧ ((∃ r o,c = (some r,o) ∧ Gd κ a.toList b.toList r.toList) ∨ ∃ out na nb mg ac bc,c = (none,na,nb,out,mg,ac,bc) ∧ MH κ a.toList b.toList out.toList na nb ∧ 1 ≤ na ∧ 2 ≤ nb ∧ na ≤ a.size ∧ nb ≤ b.size ∧ x + 1 + na + nb ≤ a.size + b.size)) ?step2 ?fin2 ⟨sg,_,_,_,_,_,_,rfl,M,i1,i2,i3,i4,by omega⟩) ?post2)
   case fin2 =>
    rintro c st' ⟨_,out,na,nb,mg,ac,bc,rfl,_,h1,h2,h3⟩
    omega
   case post2 =>
    clear M i1 i2 i3 i4 i5
    rintro c st' ⟨sg',⟨r,o,rfl,g⟩ | ⟨out,na,nb,mg,ac,bc,rfl,M,i1,i2,i3,i4,i5⟩⟩
    ·exact wpS_pure ⟨sg',r,_,rfl,g⟩
    dsimp only
    rw [J0p]
    exact wpS_bind (wpS_modify (wpS_pure ⟨sg'.set _,_,_,_,_,rfl,M,i1,i2,i3,i4,i5⟩))
   case step2 =>
    clear M i1 i2 i3 i4 i5
    rintro y c st' _ hy ⟨sg',out,na,nb,mg,ac,bc,rfl,M,i1,i2,i3,i4,i5⟩
    dsimp only
    by_cases hm : mg > 1
    case' pos=>rw [if_pos hm]; generalize mg - 1 = mg2
    case' neg=>rw [if_neg hm]; clear hm; generalize mg = mg2
    all_goals
     rw [J0p]
     refine wpS_bind (wpS_modify ?_)
     have sg2:=sg'.set mg2
     generalize SortSt.mk' (kindOf st') (arrOf st') (pendingOf st') mg2 (failedOf st') = st2 at sg2 ⊢
     have hk2 : kindOf st2 = oneType':=sg2.k.trans hk
     obtain ⟨nb,rfl⟩ : ∃ n,nb = n + 1:=⟨nb - 1,by omega⟩
     obtain ⟨xb,eb⟩:=Jp (a:=b) (i:=nb) (by omega)
     have zero : ∀ i : Nat,0 + i = i:=Nat.zero_add
     refine wpS_bind (Js (show b[nb + 1 - 1]? = some xb from eb) ?_)
     refine wpS_bind (J0V hO hk2 (HH.kb _ (J09 eb)) (by omega) HH.ka (fun i j u v hij _ hu hv=>J1S HH.sa hij (Jf (by rw [← zero i]; exact hu)) (Jf (by rw [← zero j]; exact hv))) (by omega) fun k hk1 g1 g2=>?_)
     dsimp only
     have ME : MH κ a.toList b.toList (out ++ (a.extract k na).reverse).toList k (nb + 1):=by
      rw [Array.toList_append,Array.toList_reverse,J12]
      have:=M.extA HH.sa (na - k) (by omega) fun i u h1 h2 hu y hy=>?_
      ·rw [show na - (na - k) = k by omega] at this
       exact this
      ·have h3:=g2 i u (by omega) h2 (by rw [zero]; simpa using hu)
       simp only [Bool.false_eq_true,if_false] at h3
       exact (J1I HH.sb (Jf eb) y hy).trans (leKy.of_lt h3)
     have le1 : ∀ i v,i < k → a[i]? = some v → leKy κ v xb:=fun i v hi ev=>by
      have h3:=g1 i v hi (by rw [zero]; exact ev)
      simpa using h3
     have r1 : ∀ (r : Array Keyed) (o : Nat × Nat × Array Keyed × Nat × Nat × Nat),Gd κ a.toList b.toList r.toList → J0a st st2 ∧ ((∃ r' o',((some r,o) : HiSt) = (some r',o') ∧ Gd κ a.toList b.toList r'.toList) ∨ ∃ out na nb mg ac bc,((some r,o) : HiSt) = (none,na,nb,out,mg,ac,bc) ∧ MH κ a.toList b.toList out.toList na nb ∧ 1 ≤ na ∧ 2 ≤ nb ∧ na ≤ a.size ∧ nb ≤ b.size ∧ x + 1 + na + nb ≤ a.size + b.size):=fun r o g=>⟨sg2,.inl ⟨r,o,rfl,g⟩⟩
     by_cases c2 : na - k > 0
     ·rw [if_pos c2]
      by_cases c3 : k = 0
      ·rw [if_pos (by simpa using c3)]
       exact wpS_pure (r1 _ _ (HH.fin ME (.inl c3)))
      ·rw [if_neg (by simpa using c3)]
       show wpS _ _ _ _ (hiT1 a b (out ++ (a.extract k na).reverse) k (nb + 1) mg2 (na - k) bc) _ _
       obtain ⟨k,rfl⟩ : ∃ n,k = n + 1:=⟨k - 1,by omega⟩
       obtain ⟨v,ev⟩:=Jp (a:=a) (i:=k) (by omega)
       exact J61 hO hk2 HH ME (by omega) (by omega) (by omega) eb ev (le1 k v (by omega) ev) r1 fun out' jb' mg ac bc m1 m2 m3 m4=>⟨⟨sg2,.inr ⟨_,_,_,_,_,_,rfl,m1,m2,m3,by omega,by omega,by omega⟩⟩,⟨sg2,_,_,_,_,_,_,rfl,m1,m2,m3,by omega,by omega,by omega⟩⟩
     ·rw [if_neg c2]
      have k0 : k = na:=by omega
      subst k0
      show wpS _ _ _ _ (hiT1 a b out k (nb + 1) mg2 (k - k) bc) _ _
      obtain ⟨k,rfl⟩ : ∃ n,k = n + 1:=⟨k - 1,by omega⟩
      obtain ⟨v,ev⟩:=Jp (a:=a) (i:=k) (by omega)
      exact J61 hO hk2 HH M (by omega) (by omega) (by omega) eb ev (le1 k v (by omega) ev) r1 fun out' jb' mg ac bc m1 m2 m3 m4=>⟨⟨sg2,.inr ⟨_,_,_,_,_,_,rfl,m1,m2,m3,by omega,by omega,by omega⟩⟩,⟨sg2,_,_,_,_,_,_,rfl,m1,m2,m3,by omega,by omega,by omega⟩⟩
end
noncomputable def wrA (arr : Array Keyed) (sa : Nat) (m : List Keyed) : Array Keyed:=m.zipIdx.foldl (fun a x=>match x with | (p,j)=>a.setIfInBounds (sa + j) p) arr
theorem J6c (i : Nat) : mergeAt' i = (do
 let t ← get
 let (some (u,m,pw),some (v,n,_)):=((pendingOf t)[i]?,(pendingOf t)[i + 1]?) | unsupported "internal:list.sort.pending"
 set (setPending t (((pendingOf t).setIfInBounds i (u,m + n,pw)).eraseIdxIfInBounds (i + 1)))
 let some k ← J0M false (← elem' (arrOf t) v) (arrOf t) u m 0 | return false
 let (u,m):=(u + k,m - k)
 if m == 0 then return true
 let some n ← J0M true (← elem' (arrOf t) (u + m - 1)) (arrOf t) v n (n - 1) | return false
 if n == 0 then return true
 let x:=(arrOf t).extract u v
 let y:=(arrOf t).extract v (v + n)
 let r ← if m ≤ n then J3P x y else J3B x y
 modify fun t=>setArr t (wrA (arrOf t) u r.toList)
 return (failedOf (← get)).isNone):=rfl
theorem J43 {a : Array Keyed} {i : Nat} {x : Keyed} (h : a.toList[i]? = some x) : a[i]? = some x:=by rwa [Array.getElem?_toList] at h
section
variable {κ : PyProof.Rows.KeyKind}
noncomputable def seg (L : List Keyed) (l n : Nat) : List Keyed:=(L.drop l).take n
theorem J1q {L : List Keyed} {l n : Nat} {x : Keyed} (h : x ∈ seg L l n) : ∃ i,i < n ∧ L[l + i]? = some x:=by
 obtain ⟨j,hj⟩:=List.getElem?_of_mem h
 unfold seg at hj
 rw [List.getElem?_take] at hj
 split at hj
 ·rename_i hlt
  rw [List.getElem?_drop] at hj
  exact ⟨j,hlt,hj⟩
 ·cases hj
theorem J1p {L : List Keyed} {l n : Nat} (h : l + n ≤ L.length) : (seg L l n).length = n:=by
 unfold seg
 rw [List.length_take,List.length_drop]
 omega
theorem J25 (L : List Keyed) (l m n : Nat) : seg L l (m + n) = seg L l m ++ seg L (l + m) n:=by
 unfold seg
 rw [List.take_add,List.drop_drop]
theorem Jaa {L : List Keyed} (l n : Nat) : L = L.take l ++ seg L l n ++ L.drop (l + n):=by
 unfold seg
 rw [List.append_assoc,← List.drop_drop,List.take_append_drop,List.take_append_drop]
theorem JaQ {P M R : List Keyed} {l n : Nat} (h1 : P.length = l) (h2 : M.length = n) : seg (P ++ M ++ R) l n = M:=by
 unfold seg
 subst h1 h2
 rw [List.append_assoc,List.drop_left,List.take_left]
theorem J5q {L : List Keyed} {l n : Nat} (h : ∀ i j x y,i ≤ j → j < n → L[l + i]? = some x → L[l + j]? = some y → leKy κ x y) : (seg L l n).Pairwise (leKy κ):=by
 rw [List.pairwise_iff_getElem]
 intro i j hi hj hij
 have gi : (seg L l n)[i]? = some (seg L l n)[i]:=List.getElem?_eq_getElem hi
 have gj : (seg L l n)[j]? = some (seg L l n)[j]:=List.getElem?_eq_getElem hj
 have e : ∀ k,(seg L l n)[k]? = if k < n then L[l + k]? else none:=fun k=>by
  unfold seg
  rw [List.getElem?_take]
  split
  ·rw [List.getElem?_drop]
  ·rfl
 rw [e] at gi gj
 split at gi
 ·split at gj
  ·exact h i j _ _ (by omega) (by assumption) gi gj
  ·cases gj
 ·cases gi
theorem J1U {L : List Keyed} {l n : Nat} (s : (seg L l n).Pairwise (leKy κ)) : ∀ i j x y,i ≤ j → j < n → L[l + i]? = some x → L[l + j]? = some y → leKy κ x y:=by
 intro i j x y hij hj hx hy
 have e : ∀ k z,k < n → L[l + k]? = some z → (seg L l n)[k]? = some z:=fun k z hk hz=>by
  unfold seg
  rw [List.getElem?_take,if_pos hk,List.getElem?_drop]
  exact hz
 exact J1S s hij (e i x (by omega) hx) (e j y hj hy)
theorem JaD : ∀ (m : List Keyed) (arr : Array Keyed) (sa k : Nat),sa + k + m.length ≤ arr.size → ((m.zipIdx k).foldl (fun a x=>match x with | (p,j)=>a.setIfInBounds (sa + j) p) arr).toList = arr.toList.take (sa + k) ++ m ++ arr.toList.drop (sa + k + m.length)
 | [],arr,sa,k,_=>by
  show arr.toList = _
  rw [List.append_nil,List.length_nil,Nat.add_zero,List.take_append_drop]
 | p :: m,arr,sa,k,h=>by
  have hl : sa + k + (m.length + 1) ≤ arr.size:=h
  show ((m.zipIdx (k + 1)).foldl _ (arr.setIfInBounds (sa + k) p)).toList = _
  rw [JaD m _ sa (k + 1) (by rw [Array.size_setIfInBounds]; omega)]
  have e : (arr.setIfInBounds (sa + k) p).toList = arr.toList.set (sa + k) p:=by simp
  have ll : sa + k < arr.toList.length:=by rw [Array.length_toList]; omega
  rw [e,show sa + (k + 1) = sa + k + 1 by omega,List.drop_set_of_lt (by omega),List.length_cons,show sa + k + 1 + m.length = sa + k + (m.length + 1) by omega]
  have e2 : (arr.toList.set (sa + k) p).take (sa + k + 1) = arr.toList.take (sa + k) ++ [p]:=by
   rw [List.take_add_one,List.take_set_of_le (Nat.le_refl _),List.getElem?_set_self ll]
   rfl
  rw [e2]
  simp
theorem J9Y {arr : Array Keyed} {sa : Nat} {m : List Keyed} (h : sa + m.length ≤ arr.size) : (wrA arr sa m).toList = arr.toList.take sa ++ m ++ arr.toList.drop (sa + m.length):=by
 have:=JaD m arr sa 0 (by omega)
 rw [Nat.add_zero] at this
 exact this
structure MA (κ : PyProof.Rows.KeyKind) (L L' : List Keyed) (u n : Nat) : Prop where
 perm : L'.Perm L
 srt : (seg L' u n).Pairwise (leKy κ)
 pre : L'.take u = L.take u
 post : L'.drop (u + n) = L.drop (u + n)
theorem MA.same {L : List Keyed} {u n : Nat} (h : (seg L u n).Pairwise (leKy κ)) : MA κ L L u n:=⟨List.Perm.refl _,h,rfl,rfl⟩
theorem MA.made {L r : List Keyed} {u k m n n' : Nat} (hk : k ≤ m) (hn : n' ≤ n) (hl : u + m + n ≤ L.length) (s1 : (seg L u m).Pairwise (leKy κ)) (s2 : (seg L (u + m) n).Pairwise (leKy κ)) (g : Gd κ (seg L (u + k) (m - k)) (seg L (u + m) n') r)
  (h1 : ∀ x ∈ seg L u k,∀ y ∈ seg L (u + m) n,leKy κ x y) (h2 : ∀ x ∈ seg L (u + k) (m - k),∀ y ∈ seg L (u + m + n') (n - n'),leKy κ x y) :
  MA κ L (L.take (u + k) ++ r ++ L.drop (u + k + r.length)) u (m + n):=by
 have e1 : seg L u m = seg L u k ++ seg L (u + k) (m - k):=by rw [← J25,show k + (m - k) = m by omega]
 have e2 : seg L (u + m) n = seg L (u + m) n' ++ seg L (u + m + n') (n - n'):=by rw [← J25,show n' + (n - n') = n by omega]
 have lr : r.length = m - k + n':=by
  rw [g.1.length_eq,List.length_append,J1p (by omega),J1p (by omega)]
 have ed : L.drop (u + k + r.length) = seg L (u + m + n') (n - n') ++ L.drop (u + (m + n)):=by
  rw [lr,show u + k + (m - k + n') = u + m + n' by omega]
  unfold seg
  rw [show u + (m + n) = u + m + n' + (n - n') by omega,← List.drop_drop (i:=n - n'),List.take_append_drop]
 have et : L.take (u + k) = L.take u ++ seg L u k:=by unfold seg; rw [← List.take_add]
 have lu : (L.take u).length = u:=by rw [List.length_take]; omega
 have all : L = L.take u ++ (seg L u k ++ (seg L (u + k) (m - k) ++ seg L (u + m) n') ++ seg L (u + m + n') (n - n')) ++ L.drop (u + (m + n)):=by
  conv=>lhs; rw [Jaa (L:=L) u (m + n),J25,e1,e2]
  simp only [List.append_assoc]
 have shape : L.take (u + k) ++ r ++ L.drop (u + k + r.length) = L.take u ++ (seg L u k ++ r ++ seg L (u + m + n') (n - n')) ++ L.drop (u + (m + n)):=by
  rw [et,ed]
  simp only [List.append_assoc]
 have lm : (seg L u k ++ r ++ seg L (u + m + n') (n - n')).length = m + n:=by
  rw [List.length_append,List.length_append,lr,J1p (by omega),J1p (by omega)]
  omega
 rw [shape]
 refine ⟨?_,?_,?_,?_⟩
 ·conv=>rhs; rw [all]
  refine List.Perm.append_right _ (List.Perm.append_left _ (List.Perm.append_right _ (List.Perm.append_left _ g.1)))
 ·rw [JaQ lu lm]
  rw [e1] at s1
  rw [e2] at s2
  have p1:=List.pairwise_append.mp s1
  have p2:=List.pairwise_append.mp s2
  refine List.pairwise_append.mpr ⟨List.pairwise_append.mpr ⟨p1.1,g.2,fun x hx y hy=>?_⟩,p2.2.1,fun x hx y hy=>?_⟩
  ·rcases List.mem_append.mp (g.1.subset hy) with hy | hy
   ·exact p1.2.2 x hx y hy
   ·exact h1 x hx y (by rw [e2]; exact List.mem_append_left _ hy)
  ·rcases List.mem_append.mp hx with hx | hx
   ·exact h1 x hx y (by rw [e2]; exact List.mem_append_right _ hy)
   ·rcases List.mem_append.mp (g.1.subset hx) with hx | hx
    ·exact h2 x hx y hy
    ·exact p2.2.2 x hx y hy
 ·rw [List.append_assoc,List.take_left' lu]
 ·rw [List.drop_left' (by rw [List.length_append,lu,lm])]
end
section
variable {prog : Program} {w : World} {A : Around} {E : Value → Shared → Prop} {s : Shared} {κ : PyProof.Rows.KeyKind}
theorem J6m {i u m n pw pv : Nat} {st : SortSt} {Q : Bool → SortSt → Prop} (hO : κ.OneLt) (hk : kindOf st = oneType') (hf : failedOf st = none) (ka : ∀ x ∈ (arrOf st).toList,Kd κ x)
  (e1 : (pendingOf st)[i]? = some (u,m,pw)) (e2 : (pendingOf st)[i + 1]? = some (u + m,n,pv)) (hm : 1 ≤ m) (hn : 1 ≤ n) (hl : u + m + n ≤ (arrOf st).size)
  (s1 : (seg (arrOf st).toList u m).Pairwise (leKy κ)) (s2 : (seg (arrOf st).toList (u + m) n).Pairwise (leKy κ))
  (q : ∀ st',kindOf st' = oneType' → failedOf st' = none → pendingOf st' = ((pendingOf st).setIfInBounds i (u,m + n,pw)).eraseIdxIfInBounds (i + 1) → MA κ (arrOf st).toList (arrOf st').toList u (m + n) → Q true st') :
  wpS (model prog w) A E s (mergeAt' i) Q st:=by
 rw [J6c]
 refine wpS_bind (wpS_get ?_)
 rw [e1,e2]
 dsimp only
 generalize hP : ((pendingOf st).setIfInBounds i (u,m + n,pw)).eraseIdxIfInBounds (i + 1) = P' at q ⊢
 have ll : (arrOf st).toList.length = (arrOf st).size:=Array.length_toList
 refine wpS_bind ?_
 show wpS _ _ _ _ (modify fun _=>setPending st P') _ st
 refine wpS_modify ?_
 obtain ⟨xb,eb⟩:=Jp (a:=arrOf st) (i:=u + m) (by omega)
 have kx : ∀ {j x},(arrOf st)[j]? = some x → Kd κ x:=fun h=>ka _ (J09 h)
 have li : ∀ {j x},(arrOf st)[j]? = some x → (arrOf st).toList[j]? = some x:=fun h=>Jf h
 have ri : ∀ {j x},(arrOf st).toList[j]? = some x → (arrOf st)[j]? = some x:=fun h=>J43 h
 refine wpS_bind (Js eb ?_)
 refine wpS_bind (J0V hO hk (kx eb) (by omega) ka (fun i j x y hij hj hx hy=>J1U s1 i j x y hij hj (li hx) (li hy)) (by omega) fun k hk1 g1 g2=>?_)
 dsimp only
 have pb : ∀ x ∈ seg (arrOf st).toList u k,leKy κ x xb:=fun x hx=>by
  obtain ⟨i,hi,e⟩:=J1q hx
  have:=g1 i x hi (ri e)
  simpa using this
 have ba : ∀ x ∈ seg (arrOf st).toList (u + k) (m - k),ltB κ xb x = true:=fun x hx=>by
  obtain ⟨i,hi,e⟩:=J1q hx
  have:=g2 (k + i) x (by omega) (by omega) (ri (by rw [← Nat.add_assoc]; exact e))
  simpa using this
 have b0 : ∀ y ∈ seg (arrOf st).toList (u + m) n,leKy κ xb y:=fun y hy=>by
  obtain ⟨i,hi,e⟩:=J1q hy
  exact J1U s2 0 i xb y (by omega) hi (li eb) e
 by_cases c1 : m - k = 0
 ·rw [if_pos (by simpa using c1)]
  refine wpS_pure (q _ hk hf rfl (MA.same ?_))
  rw [J25]
  have ek : k = m:=by omega
  rw [ek] at pb
  exact List.pairwise_append.mpr ⟨s1,s2,fun x hx y hy=>(pb x hx).trans (b0 y hy)⟩
 rw [if_neg (by simpa using c1)]
 obtain ⟨xa,ea⟩:=Jp (a:=arrOf st) (i:=u + k + (m - k) - 1) (by omega)
 have ea' : (arrOf st).toList[u + (m - 1)]? = some xa:=by rw [show u + (m - 1) = u + k + (m - k) - 1 by omega]; exact li ea
 refine wpS_bind (Js ea ?_)
 refine wpS_bind (J0V hO hk (kx ea) (by omega) ka (fun i j x y hij hj hx hy=>J1U s2 i j x y hij hj (li hx) (li hy)) (by omega) fun n' hn1 g3 g4=>?_)
 dsimp only
 have aa : ∀ x ∈ seg (arrOf st).toList u m,leKy κ x xa:=fun x hx=>by
  obtain ⟨i,hi,e⟩:=J1q hx
  exact J1U s1 i (m - 1) x xa (by omega) (by omega) e ea'
 have bl : ∀ y ∈ seg (arrOf st).toList (u + m) n',ltB κ y xa = true:=fun y hy=>by
  obtain ⟨i,hi,e⟩:=J1q hy
  have:=g3 i y hi (ri e)
  simpa using this
 have br : ∀ y ∈ seg (arrOf st).toList (u + m + n') (n - n'),leKy κ xa y:=fun y hy=>by
  obtain ⟨i,hi,e⟩:=J1q hy
  have:=g4 (n' + i) y (by omega) (by omega) (ri (by rw [← Nat.add_assoc]; exact e))
  simpa using this
 by_cases c2 : n' = 0
 ·rw [if_pos (by simpa using c2)]
  refine wpS_pure (q _ hk hf rfl (MA.same ?_))
  rw [J25]
  rw [c2,Nat.add_zero,Nat.sub_zero] at br
  exact List.pairwise_append.mpr ⟨s1,s2,fun x hx y hy=>(aa x hx).trans (br y hy)⟩
 rw [if_neg (by simpa using c2)]
 have sub1 : ∀ x ∈ seg (arrOf st).toList (u + k) (m - k),x ∈ seg (arrOf st).toList u m:=fun x hx=>by
  have : seg (arrOf st).toList u m = seg (arrOf st).toList u k ++ seg (arrOf st).toList (u + k) (m - k):=by rw [← J25,show k + (m - k) = m by omega]
  rw [this]
  exact List.mem_append_right _ hx
 have tx : ((arrOf st).extract (u + k) (u + m)).toList = seg (arrOf st).toList (u + k) (m - k):=by rw [J12,show u + m - (u + k) = m - k by omega]; rfl
 have ty : ((arrOf st).extract (u + m) (u + m + n')).toList = seg (arrOf st).toList (u + m) n':=by rw [J12,show u + m + n' - (u + m) = n' by omega]; rfl
 have sx : (seg (arrOf st).toList (u + k) (m - k)).Pairwise (leKy κ):=J5q fun i j x y hij hj hx hy=>J1U s1 (k + i) (k + j) x y (by omega) (by omega) (by rw [← Nat.add_assoc]; exact hx) (by rw [← Nat.add_assoc]; exact hy)
 have sy : (seg (arrOf st).toList (u + m) n').Pairwise (leKy κ):=J5q fun i j x y hij hj hx hy=>J1U s2 i j x y hij (by omega) hx hy
 have zx : ((arrOf st).extract (u + k) (u + m)).size = m - k:=by rw [← Array.length_toList,tx,J1p (by omega)]
 have zy : ((arrOf st).extract (u + m) (u + m + n')).size = n':=by rw [← Array.length_toList,ty,J1p (by omega)]
 have kX : ∀ x ∈ ((arrOf st).extract (u + k) (u + m)).toList,Kd κ x:=fun x hx=>by
  rw [tx] at hx
  obtain ⟨i,_,e⟩:=J1q hx
  exact kx (ri e)
 have kY : ∀ x ∈ ((arrOf st).extract (u + m) (u + m + n')).toList,Kd κ x:=fun x hx=>by
  rw [ty] at hx
  obtain ⟨i,_,e⟩:=J1q hx
  exact kx (ri e)
 have fY : ∀ z,((arrOf st).extract (u + m) (u + m + n'))[0]? = some z → z = xb:=fun z hz=>by
  have:=Jf hz
  rw [ty] at this
  unfold seg at this
  rw [List.getElem?_take,if_pos (by omega),List.getElem?_drop,Nat.add_zero,li eb] at this
  exact (Option.some.inj this).symm
 have lX : ∀ z,((arrOf st).extract (u + k) (u + m))[((arrOf st).extract (u + k) (u + m)).size - 1]? = some z → z = xa:=fun z hz=>by
  have:=Jf hz
  rw [tx,zx] at this
  unfold seg at this
  rw [List.getElem?_take,if_pos (by omega),List.getElem?_drop,show u + k + (m - k - 1) = u + (m - 1) by omega,ea'] at this
  exact (Option.some.inj this).symm
 have done : ∀ (r : Array Keyed) (st2 : SortSt),J0a (setPending st P') st2 → Gd κ ((arrOf st).extract (u + k) (u + m)).toList ((arrOf st).extract (u + m) (u + m + n')).toList r.toList → wpS (model prog w) A E s (do
   modify fun t=>setArr t (wrA (arrOf t) (u + k) r.toList)
   let t ← get
   pure (failedOf t).isNone) Q st2:=fun r st2 sg g=>by
  rw [tx,ty] at g
  have lr : r.toList.length = m - k + n':=by rw [g.1.length_eq,List.length_append,J1p (by omega),J1p (by omega)]
  refine wpS_bind (wpS_modify (wpS_bind (wpS_get (wpS_pure ?_))))
  have hf2 : failedOf st2 = none:=sg.f.trans hf
  show Q (failedOf st2).isNone _
  rw [hf2]
  refine q _ (sg.k.trans hk) hf2 sg.p ?_
  have ea2 : arrOf st2 = arrOf st:=sg.a
  show MA κ _ (wrA (arrOf st2) (u + k) r.toList).toList u (m + n)
  rw [ea2,J9Y (by rw [lr]; omega)]
  exact MA.made hk1 hn1 (by omega) s1 s2 g (fun x hx y hy=>(pb x hx).trans (b0 y hy)) (fun x hx y hy=>(aa x (sub1 x hx)).trans (br y hy))
 by_cases c3 : m - k ≤ n'
 ·rw [if_pos c3]
  refine wpS_bind (J6n hO hk kX kY (by rw [tx]; exact sx) (by rw [ty]; exact sy) (by omega) (by omega) (fun x y hx hy=>?_) (fun z hz y hy=>?_) fun r st2 sg g=>done r st2 sg g)
  ·rw [fY x hx]
   have:=J09 hy
   rw [tx] at this
   exact leKy.of_lt (ba y this)
  ·rw [lX z hz]
   rw [ty] at hy
   exact bl y hy
 ·rw [if_neg c3]
  refine wpS_bind (J6D hO hk ⟨kX,kY,by rw [tx]; exact sx,by rw [ty]; exact sy,fun z hz y hy=>?_⟩ (by omega) (by omega) (fun z hz y hy=>?_) fun r st2 sg g=>done r st2 sg g)
  ·rw [fY z hz]
   rw [tx] at hy
   exact ba y hy
  ·rw [lX z hz]
   rw [ty] at hy
   exact leKy.of_lt (bl y hy)
end
section
variable {κ : PyProof.Rows.KeyKind}
structure StR (st st' : SortSt) (l r : Nat) : Prop where
 k : kindOf st' = kindOf st
 f : failedOf st' = failedOf st
 p : pendingOf st' = pendingOf st
 perm : (arrOf st').toList.Perm (arrOf st).toList
 out : ∀ j : Nat,j < l ∨ r ≤ j → (arrOf st')[j]? = (arrOf st)[j]?
theorem StR.refl (st : SortSt) (l r : Nat) : StR st st l r:=⟨rfl,rfl,rfl,List.Perm.refl _,fun _ _=>rfl⟩
theorem StR.trans {a b c : SortSt} {l r : Nat} (h : StR a b l r) (h2 : StR b c l r) : StR a c l r:=⟨h2.k.trans h.k,h2.f.trans h.f,h2.p.trans h.p,h2.perm.trans h.perm,fun j hj=>(h2.out j hj).trans (h.out j hj)⟩
theorem StR.size {a b : SortSt} {l r : Nat} (h : StR a b l r) : (arrOf b).size = (arrOf a).size:=by
 have:=h.perm.length_eq
 rwa [Array.length_toList,Array.length_toList] at this
noncomputable def Up (κ : PyProof.Rows.KeyKind) (xs : Array Keyed) (b m : Nat) : Prop:=∀ i j,i ≤ j → j < m → κ.kle (KK κ xs (b + i)) (KK κ xs (b + j))
noncomputable def Dn (κ : PyProof.Rows.KeyKind) (xs : Array Keyed) (b m : Nat) : Prop:=∀ i j,i ≤ j → j < m → κ.kle (KK κ xs (b + j)) (KK κ xs (b + i))
theorem J4o {xs : Array Keyed} {i : Nat} {x : Keyed} (h : xs[i]? = some x) : KK κ xs i = kOf κ x:=by
 unfold KK kOf
 rw [h]
theorem Up.seg {xs : Array Keyed} {b m : Nat} (h : Up κ xs b m) : (seg xs.toList b m).Pairwise (leKy κ):=J5q fun i j x y hij hj hx hy=>by
 have:=h i j hij hj
 rw [J4o (J43 hx),J4o (J43 hy)] at this
 exact this
theorem Up.one {xs : Array Keyed} (b : Nat) : Up κ xs b 1:=fun i j hij hj=>by
 have e : i = j:=by omega
 subst e
 exact KeyOrd.kle_refl _
theorem Up.more {xs : Array Keyed} {b m : Nat} (h : Up κ xs b m) (h1 : 1 ≤ m) (l : κ.kle (KK κ xs (b + m - 1)) (KK κ xs (b + m))) : Up κ xs b (m + 1):=fun i j hij hj=>by
 by_cases c : j < m
 ·exact h i j hij c
 ·have e : j = m:=by omega
  subst e
  by_cases c2 : i = j
  ·rw [c2]; exact KeyOrd.kle_refl _
  ·have:=h i (j - 1) (by omega) (by omega)
   rw [show b + (j - 1) = b + j - 1 by omega] at this
   exact KeyOrd.kle_trans this l
theorem Dn.more {xs : Array Keyed} {b m : Nat} (h : Dn κ xs b m) (h1 : 1 ≤ m) (l : κ.kle (KK κ xs (b + m)) (KK κ xs (b + m - 1))) : Dn κ xs b (m + 1):=fun i j hij hj=>by
 by_cases c : j < m
 ·exact h i j hij c
 ·have e : j = m:=by omega
  subst e
  by_cases c2 : i = j
  ·rw [c2]; exact KeyOrd.kle_refl _
  ·have:=h i (j - 1) (by omega) (by omega)
   rw [show b + (j - 1) = b + j - 1 by omega] at this
   exact KeyOrd.kle_trans l this
theorem J79 {xs : Array Keyed} {i j : Nat} (hj : j ≤ xs.size) (k : Nat) : KK κ (mirror xs i j ((j - i) / 2)) k = if i ≤ k ∧ k < j then KK κ xs (i + j - 1 - k) else KK κ xs k:=by
 have e:=getElem?_mirror_all (i:=i) hj k
 by_cases c : i ≤ k ∧ k < j
 ·rw [if_pos c] at e ⊢
  exact KK_congr e
 ·rw [if_neg c] at e ⊢
  exact KK_congr e
theorem J2B {xs : Array Keyed} {i j : Nat} (hj : j ≤ xs.size) (h : ∀ k,i ≤ k → k < j → KK κ xs k = KK κ xs (j - 1)) (k : Nat) : KK κ (mirror xs i j ((j - i) / 2)) k = KK κ xs k:=by
 rw [J79 hj]
 by_cases c : i ≤ k ∧ k < j
 ·rw [if_pos c,h _ (by omega) (by omega),h k c.1 c.2]
 ·rw [if_neg c]
theorem StR.mir {st : SortSt} {l r i j : Nat} (h1 : l ≤ i) (h2 : j ≤ r) (hj : j ≤ (arrOf st).size) : StR st (setArr st (mirror (arrOf st) i j ((j - i) / 2))) l r :=
 ⟨rfl,rfl,rfl,Array.perm_iff_toList_perm.mp (mirror_perm _ _ _ _),fun k hk=>by
  show (mirror (arrOf st) i j ((j - i) / 2))[k]? = _
  rw [getElem?_mirror_all hj,if_neg (by omega)]⟩
end
section
variable {prog : Program} {w : World} {A : Around} {E : Value → Shared → Prop} {s : Shared} {κ : PyProof.Rows.KeyKind}
theorem J22 {i j : Nat} {st : SortSt} {Q : Option Bool → SortSt → Prop} (hO : κ.OneLt) (hk : kindOf st = oneType') (ka : ∀ x ∈ (arrOf st).toList,Kd κ x) (hi : i < (arrOf st).size) (hj : j < (arrOf st).size) (q : Q (some (κ.blt (KK κ (arrOf st) i) (KK κ (arrOf st) j))) st) : wpS (model prog w) A E s (ltAt' i j) Q st:=by
 obtain ⟨x,ex⟩:=Jp hi
 obtain ⟨y,ey⟩:=Jp hj
 rw [J4o ex,J4o ey] at q
 rw [ltAt'_eq]
 exact wpS_bind (wpS_get (wpS_bind (Js ex (wpS_bind (Js ey (J2F hO hk (ka _ (J09 ex)) (ka _ (J09 ey)) q))))))
theorem J3b {i j : Nat} {st : SortSt} {Q : Unit → SortSt → Prop} (q : Q () (setArr st (mirror (arrOf st) i j ((j - i) / 2)))) : wpS (model prog w) A E s (reverseSlice' i j) Q st:=by
 rw [reverseSlice'_eq]
 exact wpS_modify q
noncomputable def goUp (b n0 n1 : Nat) : SM (Option Nat):=do
 let mut m:=n0
 for _ in [m:n1] do
  let some lt1 ← ltAt' (b + m) (b + m - 1) | return none
  if lt1 then break
  m:=m + 1
 return some m
noncomputable def goDn (b n0 n1 : Nat) : SM (Option Nat):=do
 rule "list.sort.descending-run"
 let mut m:=n0 + 1
 let mut q:=0
 for _ in [m:n1] do
  let some lt1 ← ltAt' (b + m) (b + m - 1) | return none
  if lt1 then
   if q > 0 then reverseSlice' (b + m - (q + 1)) (b + m)
   q:=0
  else
   let some gt1 ← ltAt' (b + m - 1) (b + m) | return none
   if gt1 then break
   q:=q + 1
  m:=m + 1
 if q > 0 then reverseSlice' (b + m - (q + 1)) (b + m)
 reverseSlice' b (b + m)
 for _ in [m:n1] do
  let some lt1 ← ltAt' (b + m) (b + m - 1) | return none
  if lt1 then break
  m:=m + 1
 return some m
theorem J9Q {b n0 n1 : Nat} {st : SortSt} {Q : Option Nat → SortSt → Prop} (hO : κ.OneLt) (hk : kindOf st = oneType') (ka : ∀ x ∈ (arrOf st).toList,Kd κ x) (hb : b + n1 ≤ (arrOf st).size) (h0 : 1 ≤ n0) (h1 : n0 ≤ n1) (u : Up κ (arrOf st) b n0)
  (q : ∀ m,n0 ≤ m → m ≤ n1 → Up κ (arrOf st) b m → Q (some m) st) : wpS (model prog w) A E s (goUp b n0 n1) Q st:=by
 unfold goUp
 refine wpS_bind (wpS_mono (wpS_forRange (I:=fun x c st'=>st' = st ∧ c = (none,x) ∧ Up κ (arrOf st) b x) (Q:=fun c st'=>st' = st ∧ ∃ m,c = (none,m) ∧ n0 ≤ m ∧ m ≤ n1 ∧ Up κ (arrOf st) b m) ?_ ?_ ⟨rfl,rfl,u⟩) ?_)
 ·rintro x c st' hx1 hx2 ⟨rfl,rfl,ux⟩
  dsimp only
  refine wpS_bind (J22 hO hk ka (by omega) (by omega) ?_)
  dsimp only
  cases hl : κ.blt (KK κ (arrOf st') (b + x)) (KK κ (arrOf st') (b + x - 1))
  ·rw [if_neg Bool.false_ne_true]
   exact wpS_pure ⟨rfl,rfl,ux.more (by omega) hl⟩
  ·rw [if_pos rfl]
   exact wpS_pure ⟨rfl,x,rfl,hx1,by omega,ux⟩
 ·rintro c st' ⟨rfl,rfl,ux⟩
  rw [show max n0 n1 = n1 by omega] at ux ⊢
  exact ⟨rfl,n1,rfl,h1,Nat.le_refl _,ux⟩
 ·rintro c st' ⟨rfl,m,rfl,m1,m2,um⟩
  exact wpS_pure (q m m1 m2 um)
theorem J6e {b n0 n1 : Nat} {st : SortSt} {Q : Option Nat → SortSt → Prop} (hO : κ.OneLt) (hk : kindOf st = oneType') (ka : ∀ x ∈ (arrOf st).toList,Kd κ x) (hb : b + n1 ≤ (arrOf st).size) (h1 : n0 + 1 ≤ n1) (u : Dn κ (arrOf st) b (n0 + 1))
  (q : ∀ m st',StR st st' b (b + n1) → 1 ≤ m → m ≤ n1 → Up κ (arrOf st') b m → Q (some m) st') : wpS (model prog w) A E s (goDn b n0 n1) Q st:=by
 have kp : ∀ {st'},StR st st' b (b + n1) → kindOf st' = oneType' ∧ (∀ x ∈ (arrOf st').toList,Kd κ x) ∧ (arrOf st').size = (arrOf st).size:=fun h=>⟨h.k.trans hk,fun x hx=>ka x (h.perm.subset hx),h.size⟩
 unfold goDn
 refine wpS_bind (wpS_lift (wpAny_rule ⟨rfl,?_⟩))
 refine wpS_bind (wpS_mono (wpS_forRange
  (I:=fun x c st'=>StR st st' b (b + n1) ∧ ∃ e,c = (none,x,e) ∧ Dn κ (arrOf st') b x ∧ e + 1 ≤ x ∧ ∀ i,b + x - (e + 1) ≤ i → i < b + x → KK κ (arrOf st') i = KK κ (arrOf st') (b + x - 1))
  (Q:=fun c st'=>StR st st' b (b + n1) ∧ ∃ m e,c = (none,m,e) ∧ n0 + 1 ≤ m ∧ m ≤ n1 ∧ Dn κ (arrOf st') b m ∧ e + 1 ≤ m ∧ ∀ i,b + m - (e + 1) ≤ i → i < b + m → KK κ (arrOf st') i = KK κ (arrOf st') (b + m - 1)) ?_ ?_ ⟨StR.refl _ _ _,0,rfl,u,by omega,fun i a1 a2=>by rw [show i = b + (n0 + 1) - 1 by omega]⟩) ?_)
 ·rintro x c st' hx1 hx2 ⟨hS,e,rfl,d,e1,eq⟩
  obtain ⟨k1,k2,k3⟩:=kp hS
  dsimp only
  refine wpS_bind (J22 hO k1 k2 (by omega) (by omega) ?_)
  dsimp only
  cases hl : κ.blt (KK κ (arrOf st') (b + x)) (KK κ (arrOf st') (b + x - 1))
  ·rw [if_neg Bool.false_ne_true]
   refine wpS_bind (J22 hO k1 k2 (by omega) (by omega) ?_)
   dsimp only
   cases hg : κ.blt (KK κ (arrOf st') (b + x - 1)) (KK κ (arrOf st') (b + x))
   ·rw [if_neg Bool.false_ne_true]
    have ex : KK κ (arrOf st') (b + x) = KK κ (arrOf st') (b + x - 1):=KeyOrd.kle_antisymm hg hl
    refine wpS_pure ⟨hS,e + 1,rfl,d.more (by omega) hg,by omega,fun i a1 a2=>?_⟩
    rw [show b + (x + 1) - 1 = b + x by omega]
    by_cases c : i = b + x
    ·rw [c]
    ·rw [ex]; exact eq i (by omega) (by omega)
   ·rw [if_pos rfl]
    exact wpS_pure ⟨hS,x,e,rfl,hx1,by omega,d,e1,eq⟩
  ·rw [if_pos rfl]
   have nx : ∀ xs : Array Keyed,(∀ k,KK κ xs k = KK κ (arrOf st') k) → Dn κ xs b (x + 1):=fun xs hx i j hij hj=>by
    rw [hx,hx]
    exact d.more (by omega) (KeyOrd.kle_of_klt hl) i j hij hj
   by_cases ce : e > 0
   ·rw [if_pos ce]
    refine wpS_bind (J3b (wpS_pure ⟨hS.trans (StR.mir (by omega) (by omega) (by omega)),0,rfl,nx _ (J2B (by omega) eq),by omega,fun i a1 a2=>by rw [show i = b + (x + 1) - 1 by omega]⟩))
   ·rw [if_neg ce]
    exact wpS_pure ⟨hS,0,rfl,nx _ (fun _=>rfl),by omega,fun i a1 a2=>by rw [show i = b + (x + 1) - 1 by omega]⟩
 ·rintro c st' ⟨hS,e,rfl,d,e1,eq⟩
  rw [show max (n0 + 1) n1 = n1 by omega] at d e1 eq ⊢
  exact ⟨hS,n1,e,rfl,h1,Nat.le_refl _,d,e1,eq⟩
 ·rintro c st' ⟨hS,m,e,rfl,m1,m2,d,e1,eq⟩
  have rest : ∀ st2,StR st st2 b (b + n1) → Dn κ (arrOf st2) b m → wpS (model prog w) A E s (do
    reverseSlice' b (b + m)
    goUp b m n1) Q st2:=fun st2 h2 d2=>by
   obtain ⟨k1,k2,k3⟩:=kp h2
   refine wpS_bind (J3b ?_)
   have h3 : StR st (setArr st2 (mirror (arrOf st2) b (b + m) ((b + m - b) / 2))) b (b + n1):=h2.trans (StR.mir (Nat.le_refl _) (by omega) (by omega))
   obtain ⟨q1,q2,q3⟩:=kp h3
   refine J9Q hO q1 q2 (by omega) (by omega) m2 (fun i j hij hj=>?_) fun m' a1 a2 a3=>q m' _ h3 (by omega) a2 a3
   show κ.kle (KK κ (mirror (arrOf st2) b (b + m) ((b + m - b) / 2)) (b + i)) (KK κ (mirror (arrOf st2) b (b + m) ((b + m - b) / 2)) (b + j))
   rw [J79 (by omega),J79 (by omega),if_pos (by omega),if_pos (by omega)]
   have:=d2 (m - 1 - j) (m - 1 - i) (by omega) (by omega)
   rw [show b + (m - 1 - j) = b + (b + m) - 1 - (b + j) by omega,show b + (m - 1 - i) = b + (b + m) - 1 - (b + i) by omega] at this
   exact this
  obtain ⟨k1,k2,k3⟩:=kp hS
  dsimp only
  by_cases ce : e > 0
  ·rw [if_pos ce]
   refine wpS_bind (J3b ?_)
   have h3 : StR st (setArr st' (mirror (arrOf st') (b + m - (e + 1)) (b + m) ((b + m - (b + m - (e + 1))) / 2))) b (b + n1):=hS.trans (StR.mir (by omega) (by omega) (by omega))
   exact rest _ h3 fun i j hij hj=>by
    show κ.kle (KK κ (mirror (arrOf st') _ _ _) (b + j)) (KK κ (mirror (arrOf st') _ _ _) (b + i))
    rw [J2B (by omega) eq,J2B (by omega) eq]
    exact d i j hij hj
  ·rw [if_neg ce]
   exact rest st' hS d
theorem J6y {b n1 : Nat} {st : SortSt} {Q : Option Nat → SortSt → Prop} (hO : κ.OneLt) (hk : kindOf st = oneType') (ka : ∀ x ∈ (arrOf st).toList,Kd κ x) (hb : b + n1 ≤ (arrOf st).size) (h1 : 1 ≤ n1)
  (q : ∀ m st',StR st st' b (b + n1) → 1 ≤ m → m ≤ n1 → Up κ (arrOf st') b m → Q (some m) st') : wpS (model prog w) A E s (countRun' b n1) Q st:=by
 rw [countRun'_eq]
 refine wpS_bind (wpS_mono (wpS_forRange (I:=fun x c st'=>st' = st ∧ c = (none,x) ∧ Up κ (arrOf st) b x) (Q:=fun c st'=>st' = st ∧ ∃ m,c = (none,m) ∧ 1 ≤ m ∧ m ≤ n1 ∧ Up κ (arrOf st) b m ∧ (m = n1 ∨ κ.klt (KK κ (arrOf st) (b + m)) (KK κ (arrOf st) (b + m - 1)))) ?_ ?_ ⟨rfl,rfl,Up.one b⟩) ?_)
 ·rintro x c st' hx1 hx2 ⟨rfl,rfl,ux⟩
  dsimp only
  refine wpS_bind (J22 hO hk ka (by omega) (by omega) ?_)
  dsimp only
  cases hl : κ.blt (KK κ (arrOf st') (b + x)) (KK κ (arrOf st') (b + x - 1))
  ·rw [if_neg Bool.false_ne_true]
   exact wpS_pure ⟨rfl,rfl,ux.more (by omega) hl⟩
  ·rw [if_pos rfl]
   exact wpS_pure ⟨rfl,x,rfl,hx1,by omega,ux,.inr hl⟩
 ·rintro c st' ⟨rfl,rfl,ux⟩
  rw [show max 1 n1 = n1 by omega] at ux ⊢
  exact ⟨rfl,n1,rfl,h1,Nat.le_refl _,ux,.inl rfl⟩
 ·rintro c st' ⟨rfl,m,rfl,m1,m2,um,or⟩
  dsimp only
  by_cases c1 : m = n1
  ·rw [if_pos (by simpa using c1)]
   exact wpS_pure (q m st' (StR.refl _ _ _) m1 m2 um)
  ·rw [if_neg (by simpa using c1)]
   have hl : κ.klt (KK κ (arrOf st') (b + m)) (KK κ (arrOf st') (b + m - 1)):=or.resolve_left c1
   by_cases c2 : m > 1
   ·rw [if_pos c2]
    refine wpS_bind (J22 hO hk ka (by omega) (by omega) ?_)
    dsimp only
    cases hr : κ.blt (KK κ (arrOf st') b) (KK κ (arrOf st') (b + m - 1))
    ·rw [if_neg Bool.false_ne_true]
     refine wpS_bind (J3b ?_)
     have fl : ∀ k,b ≤ k → k < b + m → KK κ (arrOf st') k = KK κ (arrOf st') (b + m - 1):=fun k a1 a2=>by
      have x1:=um 0 (k - b) (by omega) (by omega)
      have x2:=um (k - b) (m - 1) (by omega) (by omega)
      rw [show b + (k - b) = k by omega] at x1 x2
      rw [show b + (m - 1) = b + m - 1 by omega] at x2
      exact KeyOrd.kle_antisymm x2 (KeyOrd.kle_trans (show κ.kle (KK κ (arrOf st') (b + m - 1)) (KK κ (arrOf st') b) from hr) x1)
     have h3 : StR st' (setArr st' (mirror (arrOf st') b (b + m) ((b + m - b) / 2))) b (b + n1):=StR.mir (Nat.le_refl _) (by omega) (by omega)
     show wpS _ _ _ _ (goDn b m n1) Q _
     refine J6e hO (h3.k.trans hk) (fun x hx=>ka x (h3.perm.subset hx)) (by rw [h3.size]; exact hb) (by omega) (fun i j hij hj=>?_) fun m' st2 a1 a2 a3 a4=>q m' st2 (h3.trans a1) a2 a3 a4
     show κ.kle (KK κ (mirror (arrOf st') _ _ _) (b + j)) (KK κ (mirror (arrOf st') _ _ _) (b + i))
     rw [J2B (by omega) fl,J2B (by omega) fl]
     by_cases cj : j < m
     ·rw [fl (b + i) (by omega) (by omega),fl (b + j) (by omega) (by omega)]
      exact KeyOrd.kle_refl _
     ·have ej : j = m:=by omega
      subst ej
      by_cases ci : i = j
      ·rw [ci]; exact KeyOrd.kle_refl _
      ·rw [fl (b + i) (by omega) (by omega)]
       exact KeyOrd.kle_of_klt hl
    ·rw [if_pos rfl]
     exact wpS_pure (q m st' (StR.refl _ _ _) m1 m2 um)
   ·rw [if_neg c2]
    have em : m = 1:=by omega
    subst em
    show wpS _ _ _ _ (goDn b 1 n1) Q _
    refine J6e hO hk ka hb (by omega) (fun i j hij hj=>?_) q
    by_cases ci : i = j
    ·rw [ci]; exact KeyOrd.kle_refl _
    ·rw [show i = 0 by omega,show j = 1 by omega]
     exact KeyOrd.kle_of_klt hl
end
section
variable {prog : Program} {w : World} {A : Around} {E : Value → Shared → Prop} {s : Shared} {κ : PyProof.Rows.KeyKind}
theorem StR.bub {st : SortSt} {l r i d : Nat} (h1 : l ≤ i - d) (h2 : i < r) (hi : i < (arrOf st).size) (hd : d ≤ i) : StR st (setArr st (bubble (arrOf st) i d)) l r :=
 ⟨rfl,rfl,rfl,Array.perm_iff_toList_perm.mp (bubble_perm _ _ _),fun k hk=>by
  show (bubble (arrOf st) i d)[k]? = _
  rw [getElem?_bubble hi d hd,if_neg (by omega),if_neg (by omega)]⟩
theorem J8w {b n ok : Nat} {st : SortSt} {Q : Bool → SortSt → Prop} (hO : κ.OneLt) (hk : kindOf st = oneType') (ka : ∀ x ∈ (arrOf st).toList,Kd κ x) (hb : b + n ≤ (arrOf st).size) (h0 : 1 ≤ ok) (h1 : ok ≤ n) (u : Up κ (arrOf st) b ok)
  (q : ∀ st',StR st st' b (b + n) → Up κ (arrOf st') b n → Q true st') : wpS (model prog w) A E s (binarySort' b n ok) Q st:=by
 rw [binarySort'_eq,show max ok 1 = ok by omega]
 refine wpS_bind (wpS_mono (wpS_forRange (I:=fun k c st'=>c = (none,()) ∧ StR st st' b (b + n) ∧ Up κ (arrOf st') b k) (Q:=fun c st'=>c = (none,()) ∧ StR st st' b (b + n) ∧ Up κ (arrOf st') b n) ?_ ?_ ⟨rfl,StR.refl _ _ _,u⟩) ?_)
 ·rintro k c st' hk1 hk2 ⟨rfl,hS,uk⟩
  have k1 : kindOf st' = oneType':=hS.k.trans hk
  have k2 : ∀ x ∈ (arrOf st').toList,Kd κ x:=fun x hx=>ka x (hS.perm.subset hx)
  have k3:=hS.size
  refine wpS_bind (wpS_mono (wpS_forRange
   (I:=fun x c st2=>st2 = st' ∧ ∃ l r,c = (none,l,r) ∧ l ≤ r ∧ r ≤ k ∧ r - l ≤ k - x ∧ (∀ i,i < l → κ.kle (KK κ (arrOf st') (b + i)) (KK κ (arrOf st') (b + k))) ∧ ∀ i,r ≤ i → i < k → κ.klt (KK κ (arrOf st') (b + k)) (KK κ (arrOf st') (b + i)))
   (Q:=fun c st2=>st2 = st' ∧ ∃ l r,c = (none,l,r) ∧ l ≤ k ∧ (∀ i,i < l → κ.kle (KK κ (arrOf st') (b + i)) (KK κ (arrOf st') (b + k))) ∧ ∀ i,l ≤ i → i < k → κ.klt (KK κ (arrOf st') (b + k)) (KK κ (arrOf st') (b + i))) ?_ ?_ ⟨rfl,0,k,rfl,by omega,by omega,by omega,fun i hi=>by omega,fun i a1 a2=>by omega⟩) ?_)
  ·rintro x c st2 _ hx ⟨rfl,l,r,rfl,a1,a2,a3,a4,a5⟩
   dsimp only
   by_cases cg : l ≥ r
   ·rw [if_pos cg]
    have e : l = r:=by omega
    subst e
    exact wpS_pure ⟨rfl,l,l,rfl,a2,a4,a5⟩
   ·rw [if_neg cg]
    refine wpS_bind (J22 hO k1 k2 (by omega) (by omega) ?_)
    dsimp only
    cases hl : κ.blt (KK κ (arrOf st2) (b + k)) (KK κ (arrOf st2) (b + (l + r) / 2))
    ·rw [if_neg Bool.false_ne_true]
     exact wpS_pure ⟨rfl,_,r,rfl,by omega,by omega,by omega,fun i hi=>KeyOrd.kle_trans (uk i ((l + r) / 2) (by omega) (by omega)) hl,a5⟩
    ·rw [if_pos rfl]
     exact wpS_pure ⟨rfl,l,_,rfl,by omega,by omega,by omega,a4,fun i b1 b2=>KeyOrd.klt_of_klt_of_kle hl (uk _ i b1 b2)⟩
  ·rintro c st2 ⟨rfl,l,r,rfl,a1,a2,a3,a4,a5⟩
   have e : l = r:=by omega
   subst e
   exact ⟨rfl,l,l,rfl,a2,a4,a5⟩
  ·rintro c st2 ⟨rfl,l,r,rfl,a2,a4,a5⟩
   show wpS _ _ _ _ (moveDown' (b + k) (b + l) >>= fun _=>pure (ForInStep.yield (none,()))) _ _
   rw [moveDown'_eq]
   have hsz : b + k < (arrOf st2).size:=by omega
   have ed : b + k - (b + l) = k - l:=by omega
   rw [ed]
   refine wpS_bind (wpS_modify (wpS_pure ⟨rfl,hS.trans (StR.bub (by omega) (by omega) hsz (by omega)),fun i j hij hj=>?_⟩))
   have kb : ∀ z,KK κ (bubble (arrOf st2) (b + k) (k - l)) (b + z) = if z = l then KK κ (arrOf st2) (b + k) else if l < z ∧ z ≤ k then KK κ (arrOf st2) (b + (z - 1)) else KK κ (arrOf st2) (b + z):=fun z=>by
    rw [KK_bubble hsz (by omega)]
    by_cases c1 : z = l
    ·rw [if_pos c1,if_pos (by omega)]
    ·rw [if_neg c1,if_neg (by omega)]
     by_cases c2 : l < z ∧ z ≤ k
     ·rw [if_pos c2,if_pos (by omega),show b + z - 1 = b + (z - 1) by omega]
     ·rw [if_neg c2,if_neg (by omega)]
   show κ.kle (KK κ (bubble (arrOf st2) (b + k) (k - l)) (b + i)) (KK κ (bubble (arrOf st2) (b + k) (k - l)) (b + j))
   rw [kb,kb]
   repeat' split
   all_goals first
    | (exfalso; omega)
    | exact KeyOrd.kle_refl _
    | exact a4 _ (by omega)
    | exact KeyOrd.kle_of_klt (a5 _ (by omega) (by omega))
    | exact uk _ _ (by omega) (by omega)
 ·rintro c st' ⟨rfl,hS,uk⟩
  rw [show max ok n = n by omega] at uk
  exact ⟨rfl,hS,uk⟩
 ·rintro c st' ⟨rfl,hS,uk⟩
  exact wpS_pure (q st' hS uk)
noncomputable def JY (κ : PyProof.Rows.KeyKind) (L : List Keyed) : List (Nat × Nat × Nat) → Nat → Nat → Prop
 | [],a,b=>a = b
 | (u,n,_) :: r,a,b=>u = a ∧ 1 ≤ n ∧ (seg L u n).Pairwise (leKy κ) ∧ JY κ L r (u + n) b
theorem JY.le {L : List Keyed} : ∀ {ps : List (Nat × Nat × Nat)} {a b : Nat},JY κ L ps a b → a + ps.length ≤ b
 | [],a,b,h=>Nat.le_of_eq h
 | (u,n,p) :: r,a,b,h=>by
  have:=JY.le h.2.2.2
  have:=h.1
  have:=h.2.1
  rw [List.length_cons]
  omega
theorem JY.app {L : List Keyed} : ∀ {xs ys : List (Nat × Nat × Nat)} {a b : Nat},JY κ L (xs ++ ys) a b → ∃ c,JY κ L xs a c ∧ JY κ L ys c b
 | [],ys,a,b,h=>⟨a,rfl,h⟩
 | (u,n,p) :: xs,ys,a,b,h=>by
  obtain ⟨c,h1,h2⟩:=JY.app h.2.2.2
  exact ⟨c,⟨h.1,h.2.1,h.2.2.1,h1⟩,h2⟩
theorem JY.cat {L : List Keyed} : ∀ {xs ys : List (Nat × Nat × Nat)} {a c b : Nat},JY κ L xs a c → JY κ L ys c b → JY κ L (xs ++ ys) a b
 | [],ys,a,c,b,h,h2=>by
  have e : a = c:=h
  subst e
  exact h2
 | (u,n,p) :: xs,ys,a,c,b,h,h2=>⟨h.1,h.2.1,h.2.2.1,JY.cat h.2.2.2 h2⟩
theorem J7G {L L' : List Keyed} {e u n : Nat} (h : L'.take e = L.take e) (hn : u + n ≤ e) : seg L' u n = seg L u n:=by
 have key : ∀ M : List Keyed,seg M u n = ((M.take e).drop u).take n:=fun M=>by
  unfold seg
  rw [List.drop_take,List.take_take,Nat.min_eq_left (by omega)]
 rw [key,key,h]
theorem J60 {L L' : List Keyed} {e u n : Nat} (h : L'.drop e = L.drop e) (hn : e ≤ u) : seg L' u n = seg L u n:=by
 have key : ∀ M : List Keyed,M.drop u = (M.drop e).drop (u - e):=fun M=>by rw [List.drop_drop,show e + (u - e) = u by omega]
 unfold seg
 rw [key L',key L,h]
theorem JY.of {L L' : List Keyed} : ∀ {ps : List (Nat × Nat × Nat)} {a b : Nat},JY κ L ps a b → (∀ u n,a ≤ u → u + n ≤ b → seg L' u n = seg L u n) → JY κ L' ps a b
 | [],_,_,h,_=>h
 | (u,n,p) :: r,a,b,h,hs=>by
  have h1:=h.1
  have h2:=JY.le h.2.2.2
  exact ⟨h.1,h.2.1,by rw [hs u n (by omega) (by omega)]; exact h.2.2.1,JY.of h.2.2.2 fun u' n' a1 a2=>hs u' n' (by omega) a2⟩
structure J14 (κ : PyProof.Rows.KeyKind) (a₀ : List Keyed) (st : SortSt) (e : Nat) : Prop where
 k : kindOf st = oneType'
 f : failedOf st = none
 perm : (arrOf st).toList.Perm a₀
 po : JY κ (arrOf st).toList (pendingOf st).toList 0 e
 le : e ≤ (arrOf st).size
theorem J4w {α : Type} : ∀ (pre : List α) (x y z : α) (post : List α),((pre ++ x :: y :: post).set pre.length z).eraseIdx (pre.length + 1) = pre ++ z :: post
 | [],x,y,z,post=>rfl
 | p :: pre,x,y,z,post=>by
  show p :: (((pre ++ x :: y :: post).set pre.length z).eraseIdx (pre.length + 1)) = _
  rw [J4w pre x y z post]
  rfl
theorem Jbq {α : Type} {l : List α} {i : Nat} (h : i + 1 < l.length) : ∃ pre x y post,l = pre ++ x :: y :: post ∧ pre.length = i:=by
 refine ⟨l.take i,l[i],l[i + 1],l.drop (i + 2),?_,by rw [List.length_take]; omega⟩
 rw [← List.drop_eq_getElem_cons (by omega),← List.drop_eq_getElem_cons (by omega),List.take_append_drop]
theorem J3T {a₀ : List Keyed} {e i : Nat} {st : SortSt} {Q : Bool → SortSt → Prop} (hO : κ.OneLt) (ka : ∀ x ∈ a₀,Kd κ x) (h : J14 κ a₀ st e) (hi : i + 1 < (pendingOf st).size)
  (q : ∀ st',J14 κ a₀ st' e → (pendingOf st').size + 1 = (pendingOf st).size → (arrOf st').toList.drop e = (arrOf st).toList.drop e → Q true st') : wpS (model prog w) A E s (mergeAt' i) Q st:=by
 obtain ⟨pre,⟨u,m,pw⟩,⟨v,n,pv⟩,post,el,ei⟩:=Jbq (l:=(pendingOf st).toList) (i:=i) (by rw [Array.length_toList]; exact hi)
 have po:=h.po
 rw [el] at po
 obtain ⟨c,p1,p2⟩:=po.app
 obtain ⟨e1,m1,s1,e2,n1,s2,p3⟩:=p2
 subst e1
 have e2' : v = u + m:=e2
 subst e2'
 have le3:=p3.le
 have gl : ∀ j x,(pendingOf st).toList[j]? = some x → (pendingOf st)[j]? = some x:=fun j x hx=>by rwa [Array.getElem?_toList] at hx
 have le:=h.le
 refine J6m hO h.k h.f (fun x hx=>ka x (h.perm.subset hx)) (u:=u) (m:=m) (n:=n) (pw:=pw) (pv:=pv) (gl _ _ ?_) (gl _ _ ?_) m1 n1 (by omega) s1 s2 fun st' k1 k2 k3 ma=>?_
 ·rw [el,← ei,List.getElem?_append_right (Nat.le_refl _),Nat.sub_self]
  rfl
 ·rw [el,← ei,List.getElem?_append_right (by omega),show pre.length + 1 - pre.length = 1 by omega]
  rfl
 ·have tl : (pendingOf st').toList = pre ++ (u,m + n,pw) :: post:=by
   rw [k3]
   have : (((pendingOf st).setIfInBounds i (u,m + n,pw)).eraseIdxIfInBounds (i + 1)).toList = ((pendingOf st).toList.set i (u,m + n,pw)).eraseIdx (i + 1):=by simp
   rw [this,el,← ei,J4w]
  have sz : (pendingOf st').size + 1 = (pendingOf st).size:=by
   rw [← Array.length_toList,← Array.length_toList,tl,el]
   simp
   omega
  have len : (arrOf st').size = (arrOf st).size:=by
   have:=ma.perm.length_eq
   rwa [Array.length_toList,Array.length_toList] at this
  have dr : ∀ z,u + (m + n) ≤ z → (arrOf st').toList.drop z = (arrOf st).toList.drop z:=fun z hz=>by
   have:=congrArg (List.drop (z - (u + (m + n)))) ma.post
   rwa [List.drop_drop,List.drop_drop,show u + (m + n) + (z - (u + (m + n))) = z by omega] at this
  refine q st' ⟨k1,k2,ma.perm.trans h.perm,?_,by omega⟩ sz (dr e (by omega))
  rw [tl]
  refine (p1.of fun u' n' a1 a2=>J7G ma.pre a2).cat ⟨rfl,by omega,ma.srt,?_⟩
  rw [show u + (m + n) = u + m + n by omega]
  exact p3.of fun u' n' a1 a2=>J60 (dr (u + m + n) (by omega)) a1
end
section
variable {prog : Program} {w : World} {A : Around} {E : Value → Shared → Prop} {s : Shared} {κ : PyProof.Rows.KeyKind}
theorem JY.mod {L : List Keyed} {g : Nat} : ∀ {ps : List (Nat × Nat × Nat)} {i a b : Nat},JY κ L ps a b → JY κ L (ps.modify i fun x=>(x.fst,x.2.fst,g)) a b
 | [],i,a,b,h=>by cases i <;> exact h
 | (u,n,p) :: r,0,a,b,h=>h
 | (u,n,p) :: r,i + 1,a,b,h=>⟨h.1,h.2.1,h.2.2.1,JY.mod h.2.2.2⟩
theorem J14.push {a₀ : List Keyed} {st : SortSt} {lo n : Nat} (S : J14 κ a₀ st lo) (h1 : 1 ≤ n) (h2 : lo + n ≤ (arrOf st).size) (h3 : (seg (arrOf st).toList lo n).Pairwise (leKy κ)) : J14 κ a₀ (setPending st ((pendingOf st).push (lo,n,0))) (lo + n) :=
 ⟨S.k,S.f,S.perm,by
  show JY κ (arrOf st).toList ((pendingOf st).push (lo,n,0)).toList 0 (lo + n)
  rw [Array.toList_push]
  exact S.po.cat ⟨rfl,h1,h3,rfl⟩,h2⟩
theorem StR.runs {a₀ : List Keyed} {st st' : SortSt} {lo r : Nat} (S : J14 κ a₀ st lo) (h : StR st st' lo r) : J14 κ a₀ st' lo:=by
 refine ⟨h.k.trans S.k,h.f.trans S.f,h.perm.trans S.perm,?_,by rw [h.size]; exact S.le⟩
 rw [h.p]
 have e : (arrOf st').toList.take lo = (arrOf st).toList.take lo:=by
  refine List.ext_getElem? fun j=>?_
  rw [List.getElem?_take,List.getElem?_take]
  split
  ·rw [Array.getElem?_toList,Array.getElem?_toList]
   exact h.out j (.inl (by assumption))
  ·rfl
 exact S.po.of fun u n _ hn=>J7G e hn
theorem J67 {st : SortSt} {Q : Unit → SortSt → Prop} (hO : κ.OneLt) (ka : ∀ x ∈ (arrOf st).toList,Kd κ x) (hk : kindOf st = oneType') (hf : failedOf st = none) (hp : pendingOf st = #[]) (h2 : 2 ≤ (arrOf st).size)
  (q : ∀ st',(arrOf st').toList.Perm (arrOf st).toList → failedOf st' = none → (arrOf st').toList.Pairwise (leKy κ) → Q () st') : wpS (model prog w) A E s sortRuns' Q st:=by
 rw [sortRuns'_eq]
 refine wpS_bind (wpS_get ?_)
 dsimp only
 have S0 : J14 κ (arrOf st).toList st 0:=⟨hk,hf,List.Perm.refl _,by rw [hp]; rfl,Nat.zero_le _⟩
 obtain ⟨size,es⟩ : ∃ z,z = (arrOf st).size:=⟨_,rfl⟩
 rw [← es] at h2 ⊢
 have sz : ∀ {st' e},J14 κ (arrOf st).toList st' e → (arrOf st').size = size:=fun h=>by
  have:=h.perm.length_eq
  rwa [Array.length_toList,Array.length_toList,← es] at this
 refine wpS_bind (wpS_mono (wpS_forRange (I:=fun x c st'=>∃ lo,c = (none,lo) ∧ J14 κ (arrOf st).toList st' lo ∧ x ≤ lo) (Q:=fun c st'=>∃ lo,c = (none,lo) ∧ J14 κ (arrOf st).toList st' size) ?step ?fin ⟨0,rfl,S0,Nat.le_refl _⟩) ?post)
 case fin =>
  rintro c st' ⟨lo,rfl,S,hl⟩
  have:=S.le
  rw [sz S] at this
  have e : lo = size:=by omega
  subst e
  exact ⟨_,rfl,S⟩
 case step =>
  rintro x c st' _ hx ⟨lo,rfl,S,hl⟩
  dsimp only
  have sl:=S.le
  have zz:=sz S
  have ka' : ∀ x ∈ (arrOf st').toList,Kd κ x:=fun x hx=>ka x (S.perm.subset hx)
  by_cases cl : lo ≥ size
  ·rw [if_pos cl]
   have e : lo = size:=by omega
   subst e
   exact wpS_pure ⟨_,rfl,S⟩
  rw [if_neg cl]
  refine wpS_bind (J6y hO S.k ka' (by omega) (by omega) fun m st2 R2 m1 m2 u2=>?_)
  dsimp only
  have S2:=R2.runs S
  have z2:=R2.size
  by_cases cm : m < minRun' size size 0
  case' pos =>
   rw [if_pos cm]
   refine wpS_bind (wpS_lift (wpAny_rule ⟨rfl,?_⟩))
   refine wpS_bind (J8w hO S2.k (fun x hx=>ka x (S2.perm.subset hx)) (by omega) m1 (by omega) u2 fun st3 R3 u3=>?_)
   rw [if_neg (by decide)]
   have S3:=R3.runs S2
   have h1 : 1 ≤ min (size - lo) (minRun' size size 0):=by omega
   have h2 : lo + min (size - lo) (minRun' size size 0) ≤ (arrOf st3).size:=by rw [R3.size]; omega
   have h3:=u3.seg
   clear R3 u3 cm
   generalize min (size - lo) (minRun' size size 0) = n at h1 h2 h3 ⊢
  case' neg =>
   rw [if_neg cm]
   have S3:=S2
   have h1:=m1
   have h2 : lo + m ≤ (arrOf st2).size:=by omega
   have h3:=u2.seg
   clear u2 R2 S2 cm
   generalize st2 = st3 at S3 h2 h3 ⊢
   generalize m = n at h1 h2 h3 ⊢
  all_goals
    refine wpS_bind (wpS_get ?_)
    cases hb : (pendingOf st3).back? with
    | none=>exact wpS_bind (wpS_modify (wpS_pure ⟨_,rfl,S3.push h1 h2 h3,by omega⟩))
    | some z =>
     obtain ⟨s1,n1,p1⟩:=z
     dsimp only
     have keep : ∀ {st'},J14 κ (arrOf st).toList st' lo → (arrOf st').toList.drop lo = (arrOf st3).toList.drop lo → lo + n ≤ (arrOf st').size ∧ (seg (arrOf st').toList lo n).Pairwise (leKy κ):=fun {st'} S' e=>by
      have l1:=S'.perm.length_eq
      have l2:=S3.perm.length_eq
      rw [Array.length_toList] at l1 l2
      exact ⟨by omega,by rw [J60 e (Nat.le_refl _)]; exact h3⟩
     refine wpS_bind (wpS_mono (wpS_forRange (I:=fun _ c st'=>c = (none,()) ∧ J14 κ (arrOf st).toList st' lo ∧ (arrOf st').toList.drop lo = (arrOf st3).toList.drop lo) (Q:=fun c st'=>c = (none,()) ∧ J14 κ (arrOf st).toList st' lo ∧ (arrOf st').toList.drop lo = (arrOf st3).toList.drop lo) ?_ (fun c st' h=>h) ⟨rfl,S3,rfl⟩) ?_)
     ·rintro x c st' _ _ ⟨rfl,S',e'⟩
      refine wpS_bind (wpS_get ?_)
      by_cases c1 : (pendingOf st').size > 1
      ·rw [if_pos c1]
       cases hg : (pendingOf st')[(pendingOf st').size - 2]? with
       | none=>exact wpS_pure ⟨rfl,S',e'⟩
       | some y =>
        obtain ⟨y1,y2,y3⟩:=y
        dsimp only
        split
        ·exact wpS_pure ⟨rfl,S',e'⟩
        ·refine wpS_bind (J3T hO ka S' (by omega) fun st2 S2 _ d2=>?_)
         rw [if_neg (by decide)]
         exact wpS_pure ⟨rfl,S2,d2.trans e'⟩
      ·rw [if_neg c1]
       exact wpS_pure ⟨rfl,S',e'⟩
     ·rintro c st' ⟨rfl,S',e'⟩
      obtain ⟨k1,k2⟩:=keep S' e'
      dsimp only
      refine wpS_bind (wpS_modify (wpS_bind (wpS_modify (wpS_pure ⟨_,rfl,?_,by omega⟩))))
      have S2 : J14 κ (arrOf st).toList (setPending st' ((pendingOf st').modify ((pendingOf st').size - 1) fun x=>(x.fst,x.2.fst,power' size (2 * s1 + n1) (2 * s1 + n1 + n1 + n) size))) lo:=⟨S'.k,S'.f,S'.perm,by
       show JY κ (arrOf st').toList ((pendingOf st').modify _ _).toList 0 lo
       rw [Array.toList_modify]
       exact S'.po.mod,S'.le⟩
      exact S2.push h1 k1 k2
 case post =>
  rintro c st' ⟨lo,rfl,S⟩
  dsimp only
  have p1:=S.po.le
  rw [Array.length_toList] at p1
  refine wpS_bind (wpS_mono (wpS_forRange (I:=fun x c st'=>c = (none,()) ∧ J14 κ (arrOf st).toList st' size ∧ ((pendingOf st').size + x ≤ size ∨ (pendingOf st').size ≤ 1)) (Q:=fun c st'=>c = (none,()) ∧ J14 κ (arrOf st).toList st' size ∧ (pendingOf st').size ≤ 1) ?_ ?_ ⟨rfl,S,.inl (by omega)⟩) ?_)
  ·rintro x c st2 _ hx ⟨rfl,S2,hs⟩
   refine wpS_bind (wpS_get ?_)
   by_cases c1 : (pendingOf st2).size ≤ 1
   ·rw [if_pos c1]
    exact wpS_pure ⟨rfl,S2,c1⟩
   ·rw [if_neg c1]
    refine wpS_bind (J3T hO ka S2 ?_ fun st3 S3 z3 _=>?_)
    ·have hle : ∀ (c : Prop) [Decidable c],(if c then (pendingOf st2).size - 2 - 1 else (pendingOf st2).size - 2) ≤ (pendingOf st2).size - 2:=fun c _=>by split <;> omega
     exact Nat.lt_of_le_of_lt (Nat.succ_le_succ (hle _)) (by omega)
    ·rw [if_neg (by decide)]
     exact wpS_pure ⟨rfl,S3,by omega⟩
  ·rintro c st2 ⟨rfl,S2,hs⟩
   exact ⟨rfl,S2,by omega⟩
  ·rintro c st2 ⟨rfl,S2,hs⟩
   refine wpS_pure (q st2 S2.perm S2.f ?_)
   have po:=S2.po
   have zz:=sz S2
   cases hl : (pendingOf st2).toList with
   | nil =>
    rw [hl] at po
    have : 0 = size:=po
    omega
   | cons y r =>
    have : r = []:=by
     have e:=congrArg List.length hl
     rw [Array.length_toList,List.length_cons] at e
     exact List.length_eq_zero_iff.mp (by omega)
    subst this
    obtain ⟨u,n,p⟩:=y
    rw [hl] at po
    obtain ⟨e1,_,e2,e3⟩:=po
    subst e1
    have e3' : 0 + n = size:=e3
    have en : n = (arrOf st2).toList.length:=by rw [Array.length_toList]; omega
    unfold seg at e2
    rw [en,List.drop_zero,List.take_length] at e2
    exact e2
end
section
variable {prog : Program} {w : World} {A : Around} {E : Value → Shared → Prop} {s : Shared} {κ : PyProof.Rows.KeyKind}
theorem J4j (hO : κ.OneLt) {l : Addr} {us : List Value} {z : Nat} {F : Fin → Shared → Prop} (hl : s.heap.get? l = some (seqObj "list" us.toArray z)) (ks : KeysOf κ (pairsOf us))
  (one : ∀ x y r,us = x :: y :: r → keyKind' (x :: y :: r).toArray = pure oneType') (few : us.length ≤ 100000)
  (q : ∀ xs : Array Keyed,xs.Perm (pairsOf us) → xs.toList.Pairwise (leKy κ) → F (.done (.ret .none)) { s with heap:=sortedHeap s.heap l us (xs.map (·.2)) }) :
  wpAny (model prog w) A (Builtin.«list.sort» ⟨[.ref l],[]⟩) F E s:=by
 have lt : l < s.heap.objs.size:=Heap.lt_size hl
 have big : (100000 : Nat) ≤ sizeLine:=by decide
 obtain ⟨y1,hl1⟩ : ∃ y1,(s.heap.update l (Obj.mapSeq fun _=>#[])).get? l = some (seqObj "list" #[] y1):=⟨_,get?_update_seq hl fun _=>#[]⟩
 have hl2 : (((s.heap.update l (Obj.mapSeq fun _=>#[])).push (seqObj "tuple" us.toArray 0)).push (seqObj "list" #[] 0)).get? l = some (seqObj "list" #[] y1):=by
  have n1 : l ≠ (s.heap.update l (Obj.mapSeq fun _=>#[])).objs.size:=by rw [Heap.size_update]; exact Nat.ne_of_lt lt
  have n2 : l ≠ ((s.heap.update l (Obj.mapSeq fun _=>#[])).push (seqObj "tuple" us.toArray 0)).objs.size:=by rw [size_push',Heap.size_update]; exact Nat.ne_of_lt (Nat.lt_succ_of_lt lt)
  rw [Heap.get?_push_ne _ _ _ n2,Heap.get?_push_ne _ _ _ n1,hl1]
 rw [list_sort_plain]
 refine wpAny_bind (listItems_at hl rfl (wpAny_bind (listUpdate_at hl rfl (wpAny_bind (seqEpoch_at hl1 rfl (wpAny_bind (wpAny_newTuple (wpAny_bind (wpAny_newList (wpAny_holding ?_))))))))))
 dsimp only
 show wpAny (model prog w) A _ F E { s with heap:=((s.heap.update l (Obj.mapSeq fun _=>#[])).push (seqObj "tuple" us.toArray 0)).push (seqObj "list" #[] 0) }
 by_cases c : us.toArray.size < 2
 ·have c' : us.length < 2:=by simpa using c
  rw [if_pos c,if_pos c]
  refine wpAny_bind (wpAny_pure ?_)
  rw [StateT.run_pure]
  refine wpAny_bind (wpAny_pure (wpAny_bind (seqEpoch_at hl2 rfl (wpAny_bind (listUpdate_at hl2 rfl ?_ (hsz2:=?_))))))
  ·simp only [bne_self_eq_false,Bool.false_eq_true,if_false]
   refine wpAny_pure (q (us.toArray.zip us.toArray) (Array.Perm.refl _) ?_)
   have : (us.toArray.zip us.toArray).toList.length < 2:=by rw [Array.length_toList,Array.size_zip]; omega
   match h : (us.toArray.zip us.toArray).toList,this with
   | [],_=>exact .nil
   | [x],_=>exact List.pairwise_singleton _ _
   | _ :: _ :: _,hh=>exact absurd hh (by simp only [List.length_cons]; omega)
  ·have e : (us.toArray.zip us.toArray).size = us.length:=by rw [Array.size_zip]; simp
   rw [Array.size_map]
   show (us.toArray.zip us.toArray).size ≤ _
   omega
 ·rw [if_neg c,if_neg c]
  obtain ⟨x,y,r,rfl⟩ : ∃ x y r,us = x :: y :: r:=by
   match us,c with
   | [],c=>exact absurd (by simp) c
   | [_],c=>exact absurd (by simp) c
   | x :: y :: r,_=>exact ⟨x,y,r,rfl⟩
  rw [one _ _ _ rfl]
  refine wpAny_bind (wpAny_pure ?_)
  have kd : ∀ p ∈ (arrOf (SortSt.mk' oneType' ((x :: y :: r).toArray.zip (x :: y :: r).toArray) #[] 7 none)).toList,Kd κ p:=fun p hp=>ks p hp
  have s2 : 2 ≤ (arrOf (SortSt.mk' oneType' ((x :: y :: r).toArray.zip (x :: y :: r).toArray) #[] 7 none)).size:=by
   show 2 ≤ ((x :: y :: r).toArray.zip (x :: y :: r).toArray).size
   rw [Array.size_zip]
   simp
  refine wpAny_bind (wpAny_mono (J67 (κ:=κ) (Q:=fun _ t=>(arrOf t).toList.Perm ((x :: y :: r).toArray.zip (x :: y :: r).toArray).toList ∧ failedOf t = none ∧ (arrOf t).toList.Pairwise (leKy κ)) hO kd rfl rfl rfl s2 fun t b1 b2 b3=>⟨b1,b2,b3⟩) ?_ fun _ _ h=>h)
  rintro ⟨⟨⟩,t⟩ s' ⟨rfl,b1,b2,b3⟩
  have pm : (arrOf t).Perm (pairsOf (x :: y :: r)):=Array.perm_iff_toList_perm.mpr b1
  have ps : (arrOf t).size = (x :: y :: r).length:=pm.size_eq.trans (pairsOf_size _)
  dsimp only
  refine wpAny_bind (seqEpoch_at hl2 rfl (wpAny_bind (listUpdate_at hl2 rfl ?_ (hsz2:=?_))))
  ·rw [b2]
   simp only [bne_self_eq_false,Bool.false_eq_true,if_false]
   exact wpAny_pure (q (arrOf t) pm b3)
  ·rw [Array.size_map]
   show (arrOf t).size ≤ _
   omega
end
theorem J9I {us : List Value} {ss : List Str} (hS : StrsAre us ss) {xs : Array Keyed} (hp : xs.Perm (pairsOf us)) (hs : xs.toList.Pairwise (leKy strKind)) :
  ∃ ss',StrsAre (xs.map (·.2)).toList ss' ∧ ss'.Perm ss ∧ sortedS ss' = true:=by
 refine sorted_out_str hS hp fun i j hij hj=>?_
 rw [← hp.size_eq] at hj
 obtain ⟨x,ex⟩:=Jp (a:=xs) (i:=i) (by omega)
 obtain ⟨y,ey⟩:=Jp (a:=xs) (i:=j) hj
 rw [J4o ex,J4o ey]
 exact J1S hs hij (Jf ex) (Jf ey)
section
variable {X : Cx}
theorem J4k (hc : X.calm = true) : J1h X (.builtin "sorted") (fun xs H Q=>∃ (a : Addr) (kvs : List (Key × V)) (ss : List Str),xs = [.ref a] ∧ H a = some (.dK kvs) ∧ kvs.map (·.1) = ss.map Sum.inr ∧ ss.length ≤ 100000 ∧ ∀ D ss',H D = none → ss'.Perm ss → sortedS ss' = true → Q (.ref D) (upd H D (.lst (ss'.map V.str)))):=by
 intro pins s σ H xs us Q I r h
 obtain ⟨a,kvs,ss,rfl,ha,hk,hl,q⟩:=h
 obtain ⟨u,rfl,ru⟩:=J7D r
 cases ru
 obtain ⟨z,hsm,vs,kv,hd⟩:=J9E I.hok ha
 have hkl:=kv.length
 have hkk:=kv.keys
 have hsl : kvs.length = ss.length:=by have:=congrArg List.length hk; simpa using this
 have big : (100000 : Nat) ≤ sizeLine:=by decide
 refine Calls.call_function_entry kind_sorted plain_sorted entry_sorted (args_sorted1 _) ?_
 unfold Builtin.«sorted»
 refine wpAny_bind (m:=checkCount "sorted" 1 1 _) (wpAny_pure ?_)
 refine wpAny_bind (J5e (I.ok.hd hc) hsm hd (by omega) fun s1 acc keep g1 d1 o1 hz1 items=>?_)
 obtain ⟨h1,gg,dd,tk,oo⟩:=s1
 simp only at keep g1 d1 o1
 subst g1 d1 o1
 have hS : StrsAre acc.toList ss:=by
  refine J32 (by rw [Array.length_toList,items.1]; omega) fun i v hv=>?_
  obtain ⟨k,x,e1,e2⟩:=items.2 i v (by simpa using hv)
  have e3 : (ss.map (Sum.inr : Str → Key))[i]? = some k:=by rw [← hk,hkk,List.getElem?_map,e1]; rfl
  rw [List.getElem?_map] at e3
  cases hs : ss[i]? with
  | none=>rw [hs] at e3; cases e3
  | some y =>
   rw [hs] at e3
   cases e3
   obtain ⟨t,e⟩:=Value.isStrOf_shape (x:=y) (v:=v) e2
   exact ⟨y,t,rfl,e⟩
 refine wpAny_bind (wpAny_newList ?_)
 have hoL : (h1.push (seqObj "list" acc.toList.toArray 0)).get? h1.objs.size = some (seqObj "list" acc.toList.toArray 0):=Heap.get?_push_size _ rfl
 show wpAny _ _ _ _ _ (⟨h1.push (seqObj "list" acc.toList.toArray 0),s.gens,s.drawn,tk,s.os⟩ : Shared)
 have hal : acc.toList.length ≤ 100000:=by rw [Array.length_toList,items.1]; omega
 refine wpAny_bind (wpAny_holding (wpAny_call_entry slot_list_sort ⟨_,hoL,rfl⟩ entry_list_sort (J4j strKind_oneLt hoL hS.keysOf (fun v₁ v₂ rest e=>keyKind_strs (by rw [← e]; exact hS)) hal fun arr a1 a2=>⟨_,rfl,?_⟩) (args_list_sort _)))
 refine wpAny_pure ⟨_,rfl,?_⟩
 obtain ⟨ss',b1,b2,b3⟩:=J9I hS a1 a2
 obtain ⟨e,he⟩:=sortedHeap_at (out:=arr.map (·.2)) hoL
 have hsz : s.heap.objs.size ≤ h1.objs.size:=Nat.le_of_lt hz1
 have hfr : H h1.objs.size = none:=I.hok.fresh hsz
 refine ⟨.ref h1.objs.size,_,I.laid (o:=.lst (ss'.map V.str)) (t':=tk) (fun b o eb=>?_) hsz ⟨?_,(arr.map (·.2)).toList,e,J4B b1,?_⟩,rfl,q _ ss' hfr b2 b3⟩
 ·have hlt:=Heap.lt_size (keep b o eb)
  show (sortedHeap (h1.push (seqObj "list" acc.toList.toArray 0)) h1.objs.size acc.toList (arr.map (·.2))).get? b = some o
  rw [sortedHeap_old (Nat.ne_of_lt hlt) (by rw [size_push']; exact Nat.lt_succ_of_lt hlt)]
  exact Heap.get?_push_of_some _ (keep b o eb)
 ·rw [List.length_map,b2.length_eq]
  omega
 ·rw [Array.toArray_toList]
  exact he
end
end L2
set_option linter.all false
set_option maxRecDepth 100000
set_option maxHeartbeats 4000000
namespace L2
open PySem PySem.Spec PyProof.Rows
section
variable {X : Cx}
end
end L2
set_option maxHeartbeats 4000000
namespace K14
open PySem L2
noncomputable def top (i : Nat) : Stmt:=PySem.Challenge.pw_rotafair_k14_too_wide.main.body.getD i (.Pass ⟨0,0,0,0⟩)
noncomputable abbrev J2N : Stmt:=top 6
noncomputable abbrev J0o : Stmt:=top 7
noncomputable abbrev J1g : Stmt:=top 8
noncomputable abbrev JU : Stmt:=top 9
noncomputable abbrev J0m : Stmt:=J03 (top 11) 0
noncomputable abbrev J07 : Stmt:=J03 (top 11) 1
noncomputable abbrev J0d : Stmt:=J03 (top 11) 2
noncomputable abbrev J0A : Stmt:=J03 (top 12) 0
noncomputable abbrev J0k : Stmt:=J03 (top 12) 1
noncomputable abbrev J0Q : Stmt:=J03 (top 12) 2
noncomputable abbrev J0n : Stmt:=J03 (top 13) 0
noncomputable abbrev J04 : Stmt:=J03 (top 13) 1
noncomputable abbrev J0D : Stmt:=J03 (top 13) 2
noncomputable abbrev J0z : Stmt:=J03 (top 14) 0
noncomputable abbrev J0j : Stmt:=J03 (top 14) 1
noncomputable abbrev J0U : Stmt:=J03 (top 14) 2
noncomputable abbrev J0P : Stmt:=J03 (top 15) 0
noncomputable abbrev J0E : Stmt:=J03 (top 15) 1
noncomputable abbrev J1c : Stmt:=J03 (top 15) 2
noncomputable abbrev J06 : Stmt:=top 22
noncomputable abbrev JV : Stmt:=top 19
noncomputable abbrev JA : Stmt:=top 20
noncomputable abbrev J1T : Stmt:=top 18
noncomputable abbrev J0G : Stmt:=top 23
noncomputable abbrev J0R : Stmt:=top 24
noncomputable abbrev J0S : Stmt:=top 25
noncomputable abbrev J0l : Stmt:=top 26
noncomputable abbrev J0O : Stmt:=top 27
noncomputable abbrev J1b : Stmt:=top 28
noncomputable abbrev J05 : Stmt:=top 29
noncomputable abbrev J0C : Stmt:=top 30
noncomputable abbrev J0T : Stmt:=top 31
noncomputable abbrev J1J : Stmt:=top 32
theorem J9R : Jl ["sign","mark"] ["sign","mark"] (J3 J2N):=⟨rfl,rfl,rfl,by decide +kernel,rfl,by decide +kernel,by decide +kernel⟩
theorem J4f : Jl ["marks","many"] ["marks","many"] (J3 J0o):=⟨rfl,rfl,rfl,by decide +kernel,rfl,by decide +kernel,by decide +kernel⟩
theorem J83 : Jl ["signs","mark"] ["signs","mark"] (J3 J1g):=⟨rfl,rfl,rfl,by decide +kernel,rfl,by decide +kernel,by decide +kernel⟩
theorem J3j : Jl ["signs","marks"] ["signs","marks"] (J3 JU):=⟨rfl,rfl,rfl,by decide +kernel,rfl,by decide +kernel,by decide +kernel⟩
theorem J49 : Jl ["self","word"] ["self","word"] (J3 J0m):=⟨rfl,rfl,rfl,by decide +kernel,rfl,by decide +kernel,by decide +kernel⟩
theorem J3o : Jl ["self"] ["self"] (J3 J07):=⟨rfl,rfl,rfl,by decide +kernel,rfl,by decide +kernel,by decide +kernel⟩
theorem J2x : Jl ["self","marks","nearest"] ["self","marks"] (J3 J0d):=⟨rfl,rfl,rfl,by decide +kernel,rfl,by decide +kernel,by decide +kernel⟩
theorem J4S : Jl ["self","many","marks","days"] ["self","many","marks","days"] (J3 J0A):=⟨rfl,rfl,rfl,by decide +kernel,rfl,by decide +kernel,by decide +kernel⟩
theorem J4c : Jl ["self"] ["self"] (J3 J0k):=⟨rfl,rfl,rfl,by decide +kernel,rfl,by decide +kernel,by decide +kernel⟩
theorem J5F : Jl ["self","marks"] ["self","marks"] (J3 J0Q):=⟨rfl,rfl,rfl,by decide +kernel,rfl,by decide +kernel,by decide +kernel⟩
theorem J47 : Jl ["self","many","marks","days"] ["self","many","marks","days"] (J3 J0n):=⟨rfl,rfl,rfl,by decide +kernel,rfl,by decide +kernel,by decide +kernel⟩
theorem J3g : Jl ["self"] ["self"] (J3 J04):=⟨rfl,rfl,rfl,by decide +kernel,rfl,by decide +kernel,by decide +kernel⟩
theorem J56 : Jl ["self","marks"] ["self","marks"] (J3 J0D):=⟨rfl,rfl,rfl,by decide +kernel,rfl,by decide +kernel,by decide +kernel⟩
theorem J4W : Jl ["self","left","right"] ["self","left","right"] (J3 J0z):=⟨rfl,rfl,rfl,by decide +kernel,rfl,by decide +kernel,by decide +kernel⟩
theorem J46 : Jl ["self"] ["self"] (J3 J0j):=⟨rfl,rfl,rfl,by decide +kernel,rfl,by decide +kernel,by decide +kernel⟩
theorem J5D : Jl ["self","marks"] ["self","marks"] (J3 J0U):=⟨rfl,rfl,rfl,by decide +kernel,rfl,by decide +kernel,by decide +kernel⟩
theorem J5B : Jl ["self","inner"] ["self","inner"] (J3 J0P):=⟨rfl,rfl,rfl,by decide +kernel,rfl,by decide +kernel,by decide +kernel⟩
theorem J53 : Jl ["self"] ["self"] (J3 J0E):=⟨rfl,rfl,rfl,by decide +kernel,rfl,by decide +kernel,by decide +kernel⟩
theorem J6Z : Jl ["self","marks"] ["self","marks"] (J3 J1c):=⟨rfl,rfl,rfl,by decide +kernel,rfl,by decide +kernel,by decide +kernel⟩
theorem J3r : Jl ["_law_script","_law_k"] ["_law_script","_law_k"] (J3 J06):=⟨rfl,rfl,rfl,by decide +kernel,rfl,by decide +kernel,by decide +kernel⟩
theorem J0L : Jl ["rows","marks","longer","row"] ["rows","marks"] (J3 JV):=⟨rfl,rfl,rfl,by decide +kernel,rfl,by decide +kernel,by decide +kernel⟩
theorem JP : Jl ["rows","kept","tails","new","row","tail"] ["rows","kept","tails"] (J3 JA):=⟨rfl,rfl,rfl,by decide +kernel,rfl,by decide +kernel,by decide +kernel⟩
theorem J11 : Jl ["rule","other","marks","kept","tails","rows","good","row","bad"] ["rule","other","marks"] (J3 J1T):=⟨rfl,rfl,rfl,by decide +kernel,rfl,by decide +kernel,by decide +kernel⟩
theorem JQ : Jl ["_law_cell","_law_many","_law_left","_law_found","_law_k","_law_at"] ["_law_cell","_law_many"] (J3 J0G):=⟨rfl,rfl,rfl,by decide +kernel,rfl,by decide +kernel,by decide +kernel⟩
theorem J5H : Jl ["_law_cell","_law_days","_law_strange"] ["_law_cell","_law_days","_law_strange"] (J3 J0R):=⟨rfl,rfl,rfl,by decide +kernel,rfl,by decide +kernel,by decide +kernel⟩
theorem J10 : Jl ["_law_cell","_law_marks_here","_law_word_here","_law_k","_law_at"] ["_law_cell","_law_marks_here"] (J3 J0S):=⟨rfl,rfl,rfl,by decide +kernel,rfl,by decide +kernel,by decide +kernel⟩
theorem J2a : Jl ["_law_word_here","_law_mark","_law_gap","_law_k"] ["_law_word_here","_law_mark","_law_gap"] (J3 J0l):=⟨rfl,rfl,rfl,by decide +kernel,rfl,by decide +kernel,by decide +kernel⟩
theorem J0B : Jl ["_law_many","_law_gap","_law_days","_law_found","_law_n","_law_ways","_law_k"] ["_law_many","_law_gap","_law_days"] (J3 J0O):=⟨rfl,rfl,rfl,by decide +kernel,rfl,by decide +kernel,by decide +kernel⟩
theorem J1A : Jl ["_law_rows_here","_law_reach","_law_length","_law_ends","_law_n"] ["_law_rows_here","_law_reach","_law_length"] (J3 J1b):=⟨rfl,rfl,rfl,by decide +kernel,rfl,by decide +kernel,by decide +kernel⟩
theorem J1K : Jl ["_law_one","_law_other","_law_marks_here","e"] ["_law_one","_law_other","_law_marks_here"] (J3 J05):=⟨rfl,rfl,rfl,by decide +kernel,rfl,by decide +kernel,by decide +kernel⟩
theorem J1y : Jl ["_law_script","_law_many","_law_gap"] ["_law_script"] (J3 J0C):=⟨rfl,rfl,rfl,by decide +kernel,rfl,by decide +kernel,by decide +kernel⟩
theorem J2Y : Jl ["_law_one","_law_other","_law_marks_here","_law_due_here","_law_word_here","_law_found"] ["_law_one","_law_other","_law_marks_here","_law_due_here","_law_word_here"] (J3 J0T):=⟨rfl,rfl,rfl,by decide +kernel,rfl,by decide +kernel,by decide +kernel⟩
theorem JG : Jl ["_law_script","_law_many","_law_reach","_law_gap","_law_way","_law_marks_here","_law_strange","_law_mark","_law_one","_law_other","_law_word_here","_law_length","_law_at","_law_sign","_law_due_here"] ["_law_script"] (J3 J1J):=⟨rfl,rfl,rfl,by decide +kernel,rfl,by decide +kernel,by decide +kernel⟩
structure Tx (K : PySem.W.Frag) (mg : Str → Option Value) (J5 J9 J4 Jb Je J2 J1 J8 : Addr) : Prop where
 JaM : GF K mg "fits" J2N
 J4M : GF K mg "last_marks" J0o
 J8S : GF K mg "let_by" J1g
 J4b : GF K mg "count_among" JU
 J5c : MF K J5 "__init__" "Never.__init__" J0m
 J4d : MF K J5 "reach" "Never.reach" J07
 J5N : MF K J5 "bad" "Never.bad" J0d
 J5G : MF K J9 "__init__" "Most.__init__" J0A
 J58 : MF K J9 "reach" "Most.reach" J0k
 J6E : MF K J9 "bad" "Most.bad" J0Q
 J57 : MF K J4 "__init__" "Least.__init__" J0n
 J4a : MF K J4 "reach" "Least.reach" J04
 J5R : MF K J4 "bad" "Least.bad" J0D
 J5K : MF K Jb "__init__" "Both.__init__" J0z
 J4P : MF K Jb "reach" "Both.reach" J0j
 J6Q : MF K Jb "bad" "Both.bad" J0U
 J6P : MF K Je "__init__" "Not.__init__" J0P
 J5E : MF K Je "reach" "Not.reach" J0E
 J85 : MF K Je "bad" "Not.bad" J1c
 J4e : GF K mg "_law_cell_at" J06
 J45 : GF K mg "longer_rows" JV
 J26 : GF K mg "rows_of_new_tails" JA
 J9U : GF K mg "alike" J1T
 J5L : GF K mg "_law_marks" J0G
 J6S : GF K mg "_law_free" J0R
 J6T : GF K mg "_law_word" J0S
 J59 : GF K mg "_law_spaced" J0l
 J6G : GF K mg "_law_rows" J0O
 J8a : GF K mg "_law_due" J1b
 J44 : GF K mg "_law_refused" J05
 J5U : GF K mg "_law_shape" J0C
 J6J : GF K mg "_law_told" J0T
 JbU : GF K mg "law" J1J
 J0X : CF K mg "Never" J5
 J16 : CF K mg "Most" J9
 J0w : CF K mg "Least" J4
 J1s : CF K mg "Both" Jb
 J3z : CF K mg "Not" Je
 J5A : mg "RotaError" = some (.ref J2)
 J4n : mg "TooWide" = some (.ref J1)
 J8U : mg "NoRule" = some (.ref J8)
 J1f : XCls K J1
 J2k : XIs K J1
 JE : PySem.W.exmOne K (.ref J1) (.ref J2) = some true
 JB : PySem.W.kitOne K (.ref J1) (.type "ValueError") = some true
 JL : PySem.W.kitOne K (.ref J1) (.ref J1) = some true
 JO : PySem.W.kitOne K (.ref J1) (.ref J8) = some false
 JF : J0s K J5 "word"
 J0F : J0s K J9 "many"
 J0i : J0s K J9 "marks"
 J0e : J0s K J9 "days"
 J0h : J0s K J4 "many"
 J08 : J0s K J4 "marks"
 JS : J0s K J4 "days"
 J0f : J0s K Jb "left"
 J00 : J0s K Jb "right"
 J0c : J0s K Je "inner"
 J0J : mg "ValueError" = none
 J5O : mg "all" = none
 J5P : mg "any" = none
 JR : mg "isinstance" = none
 J0q : mg "len" = none
 J3i : mg "list" = none
 J1L : mg "max" = none
 J5Q : mg "min" = none
 J0Y : mg "range" = none
 J1N : mg "sorted" = none
 J5C : mg "zip" = none
 J0K : ∃ t,mg "MOST_TAILS" = some (.int 400 t)
theorem J2s {n : Nat} (h : n ≤ 1000) : n ≤ sizeLine:=Nat.le_trans h (by decide)
theorem J3Z {α : Type} (l : List α) (k : Int) (h0 : 0 ≤ k) : cutN l (some k) none = l.drop k.toNat:=by
 unfold cutN
 have e : HT.sIx l.length 0 (some k) = min k.toNat l.length:=by
  show (if k < 0 then _ else min k.toNat l.length) = _
  rw [if_neg (by omega)]
 rw [e,HT.sIx_none]
 by_cases h : k.toNat ≤ l.length
 ·rw [Nat.min_eq_left h]
  exact List.take_of_length_le (by rw [List.length_drop]; omega)
 ·rw [Nat.min_eq_right (by omega),List.drop_eq_nil_of_le (Nat.le_refl _),List.drop_eq_nil_of_le (by omega),List.take_nil]
theorem J8X {α : Type} (l : List α) (k : Int) (h0 : 0 ≤ k) : cutN l none (some k) = l.take k.toNat:=by
 unfold cutN
 have e : HT.sIx l.length l.length (some k) = min k.toNat l.length:=by
  show (if k < 0 then _ else min k.toNat l.length) = _
  rw [if_neg (by omega)]
 rw [e,HT.sIx_none,List.drop_zero,Nat.sub_zero]
 by_cases h : k.toNat ≤ l.length
 ·rw [Nat.min_eq_left h]
 ·rw [Nat.min_eq_right (by omega),List.take_of_length_le (Nat.le_refl _),List.take_of_length_le (by omega)]
theorem J3f {α : Type} (l : List α) (lo hi : Option Int) : (cutN l lo hi).length ≤ l.length:=by
 unfold cutN
 rw [List.length_take,List.length_drop]
 omega
theorem J1o {α : Type} (l : List α) (i : Int) (h0 : 0 ≤ i) (h : i < l.length) : ∃ c,atI l i = some c ∧ l[i.toNat]? = some c:=by
 have hi : i.toNat < l.length:=by omega
 have e : i = ((i.toNat : Nat) : Int):=by omega
 have q : atI l ((i.toNat : Nat) : Int) = some l[i.toNat]:=J7U (by simp [hi])
 rw [← e] at q
 exact ⟨l[i.toNat],q,List.getElem?_eq_getElem hi⟩
noncomputable def J0N (x y : V) : Bool:=if decide (x = T [63]) = true then true else if decide (x = T [35]) = true then !decide (y = T [45]) else decide (x = y)
noncomputable def J9S : Sp:=fun vs H Q _=>∃ a b,vs = [T a,T b] ∧ Q (.bl (J0N (T a) (T b))) H
noncomputable def J9W : Sp:=fun vs H Q _=>∃ l n,vs = [T l,.int n] ∧ l.length ≤ 1000 ∧ 0 ≤ n ∧ Q (T (l.drop (l.length - n.toNat))) H
noncomputable def J9V (K : PySem.W.Frag) : Sp:=fun vs H Q _=>∃ (a : Addr) (ns : List Int) (k : Int),vs = [.ref a,.int k] ∧ SqL K H a (ns.map V.int) ∧ 0 ≤ k ∧ ∀ v,Q (.int v) H
noncomputable def sp_law (K : PySem.W.Frag) : Sp:=fun vs H Q _=>∃ (a : Addr) (ns : List Int),vs = [.ref a] ∧ SqL K H a (ns.map V.int) ∧ ns.length ≤ 63 ∧ ∀ H',Q (.bl true) H'
theorem Jbl {p : (Nat → Nat → St → Hp → Prop) → Prop} (h : ∃ W,p W) : ∃ W,p W:=h
theorem Ja4 {p : (Nat → St → Hp → Prop) → Prop} (h : ∃ W,p W) : ∃ W,p W:=h
theorem JbQ {A B : Prop} (h : B) : if (!true) = true then A else B:=h
theorem JbB {A B : Prop} (h : A) : if (!false) = true then A else B:=h
theorem Ja8 {i j : Int} (h1 : 0 < j) (h2 : j < 1073741824) : CDiv i j:=⟨h1,h2⟩
theorem JbK {i j : Int} (h1 : -(2 ^ 64) < i) (h2 : i < 2 ^ 64) : CMul i j:=.inl ⟨h1,h2⟩
theorem JbD {i j : Int} (h1 : -(2 ^ 64) < j) (h2 : j < 2 ^ 64) : CMul i j:=.inr ⟨h1,h2⟩
theorem Jbp {n : Int} (h : 0 < n) : 0 < n:=h
@[irreducible] def Here (p : Prop) : Prop:=p
theorem Here.mk {p : Prop} (h : p) : Here p:=by unfold Here; exact h
theorem Here.out {p : Prop} (h : Here p) : p:=by unfold Here at h; exact h
theorem J9x {i : Nat} {v : V} {σ σ' : St} {H : Hp} {Q : St → Hp → Prop} (e : σ.set i (some v) = σ') (h : Q σ' H) : J2d i v σ H Q:=by subst e; exact h
theorem J99 {n : Nat} (h : n ≤ 100000) : n ≤ sizeLine:=Nat.le_trans h (by decide)
theorem J97 {n : Nat} (h : n ≤ 100000) : n < sizeLine:=Nat.lt_of_le_of_lt h (by decide)
local macro_rules | `(tactic| walk_at "len")=>`(tactic| (simp only [List.length_append,List.length_cons,List.length_nil,List.length_singleton,List.length_take,List.length_drop,List.length_map,List.length_reverse,List.length_range] <;> omega))
local macro_rules | `(tactic| walk_at "st")=>`(tactic| (try simp only [L2.start,List.map_cons,List.map_nil,List.length_cons,List.length_nil,Nat.reduceAdd,Nat.reduceSub,List.replicate_succ,List.replicate_zero,List.cons_append,List.nil_append]))
local macro_rules | `(tactic| walk_at "lk")=>`(tactic| fail)
local macro_rules | `(tactic| walk_at "cl")=>`(tactic| first
 | (with_reducible assumption) | rfl
 | (with_reducible show @LE.le Nat _ _ _; first | omega | (walk_at "len") | exact J99 (by omega) | exact J99 (by walk_at "len"))
 | (with_reducible show @LT.lt Nat _ _ _; first | omega | (walk_at "len") | exact J97 (by omega) | exact J97 (by walk_at "len"))
 | (with_reducible show @LE.le Int _ _ _; omega) | (with_reducible show @LT.lt Int _ _ _; omega)
 | ((with_reducible refine Ja8 ?_ ?_) <;> omega) | ((with_reducible refine JbK ?_ ?_) <;> omega) | ((with_reducible refine JbD ?_ ?_) <;> omega) | ((with_reducible refine Jbp ?_) <;> omega)
 | exact Jd | exact Jz (by with_reducible assumption) _ _ _ Jd | exact SqL.of (by with_reducible assumption) | exact SqL.of Jd | exact SqT.of Jd | exact SqT.of (by with_reducible assumption) | exact Or.inl (by with_reducible assumption) | exact Or.inl (SqL.of (by with_reducible assumption)) | exact Or.inl (SqL.of Jd)
 | exact Or.inl ⟨rfl,_,SqL.of (by with_reducible assumption)⟩ | exact Or.inl ⟨rfl,_,SqL.of Jd⟩ | exact Or.inl ⟨rfl,_,by with_reducible assumption⟩ | exact ⟨_,by with_reducible assumption⟩ | exact ⟨_,SqL.of (by with_reducible assumption)⟩ | exact ⟨_,SqL.of Jd⟩
 | exact ⟨by omega,by omega⟩ | assumption | walk_at "lk")
local macro_rules | `(tactic| walk_at "rd1")=>`(tactic| first
 | (with_reducible refine J9x (by first | (simp only [List.set_cons_zero,List.set_cons_succ]; done) | (simp only [List.set_cons_zero,List.set_cons_succ]; rfl)) ?_)
 | (with_reducible refine iteT ?_) | (with_reducible refine iteF ?_) | (with_reducible refine JbQ ?_) | (with_reducible refine JbB ?_)
 | ((fail_if_success apply Jbl); (fail_if_success apply Ja4); apply Exists.intro)
 | (apply And.intro; (· walk_at "cl"))
 | (refine Or.inl ⟨_,rfl,?_⟩) | (refine Or.inr (Or.inl ⟨_,rfl,?_⟩)) | (refine Or.inr (Or.inr (Or.inl ⟨_,rfl,?_⟩))) | (refine Or.inr (Or.inr (Or.inr (Or.inl ⟨_,rfl,?_⟩)))) | (refine Or.inr (Or.inr (Or.inr (Or.inr ⟨_,_,rfl,by with_reducible assumption,?_⟩)))))
local macro_rules | `(tactic| walk_at "rd")=>`(tactic| repeat (walk_at "rd1"))
noncomputable def letV (m : List Nat) (c : Nat) : Bool:=(m.map fun s=>J0N (T [s]) (T [c])).any id
noncomputable def cntV (m l : List Nat) : Nat:=(l.filter (letV m)).length
noncomputable def J2J (n : Int) (m : List Nat) (d : Int) (l : List Nat) : Bool:=decide (n < (cntV m (l.drop (l.length - d.toNat)) : Int))
noncomputable def J1k (n : Int) (m : List Nat) (d : Int) (l : List Nat) : Bool:=if (l.length : Int) < d then false else decide ((cntV m (l.drop (l.length - d.toNat)) : Int) < n)
noncomputable def J3Y (C : Addr) (H : Hp) (p : Addr) (n : Int) (m : List Nat) (d : Int) : Prop:=∃ dx,H p = some (.ins C dx [("many",.int n),("marks",T m),("days",.int d)])
theorem J3Y.same {C : Addr} {H H' : Hp} {p : Addr} {n d : Int} {m : List Nat} (h : J3Y C H p n m d) (s : Same H H') : J3Y C H' p n m d:=let ⟨dx,e⟩:=h; ⟨dx,s _ _ e⟩
theorem J7V (x y z : V) : List.lookup ("many" : Str) [(("many" : Str),x),("marks",y),("days",z)] = some x:=by rw [List.lookup_cons,beq_self_eq_true]
theorem J6o (x y z : V) : List.lookup ("marks" : Str) [(("many" : Str),x),("marks",y),("days",z)] = some y:=by
 rw [List.lookup_cons,beq_eq_false_iff_ne.mpr (by decide +kernel),List.lookup_cons,beq_self_eq_true]
theorem J2K (x y z : V) : List.lookup ("days" : Str) [(("many" : Str),x),("marks",y),("days",z)] = some z:=by
 rw [List.lookup_cons,beq_eq_false_iff_ne.mpr (by decide +kernel),List.lookup_cons,beq_eq_false_iff_ne.mpr (by decide +kernel),List.lookup_cons,beq_self_eq_true]
theorem put3 (n : Int) (m : List Nat) (d : Int) : putF "days" (.int d) (putF "marks" (T m) (putF "many" (.int n) [])) = ([("many",.int n),("marks",T m),("days",.int d)] : List (Str × V)):=by
 have h1 : ¬ (("many" : Str) = "marks"):=by decide +kernel
 have h2 : ¬ (("many" : Str) = "days"):=by decide +kernel
 have h3 : ¬ (("marks" : Str) = "days"):=by decide +kernel
 simp [putF,h1,h2,h3]
noncomputable def JaO : Sp:=fun vs H Q _=>∃ m c,vs = [T m,T [c]] ∧ m.length ≤ 1000 ∧ ∀ H',Same H H' → Q (.bl (letV m c)) H'
noncomputable def J8P : Sp:=fun vs H Q _=>∃ m l,vs = [T m,T l] ∧ m.length ≤ 1000 ∧ l.length ≤ 1000 ∧ ∀ H',Same H H' → Q (.int (cntV m l)) H'
noncomputable def J2v (C : Addr) : Sp:=fun vs H Q _=>∃ p dx n m d,vs = [.ref p,.int n,T m,.int d] ∧ H p = some (.ins C dx []) ∧ Q .non (upd (upd (upd H p (.ins C dx (putF "many" (.int n) []))) p (.ins C dx (putF "marks" (T m) (putF "many" (.int n) [])))) p (.ins C dx [("many",.int n),("marks",T m),("days",.int d)]))
noncomputable def J4m (C : Addr) : Sp:=fun vs H Q _=>∃ p n m d,vs = [.ref p] ∧ J3Y C H p n m d ∧ Q (.int d) H
noncomputable def J7w (C : Addr) (B : Int → List Nat → Int → List Nat → Bool) : Sp:=fun vs H Q _=>∃ p n m d l,vs = [.ref p,T l] ∧ J3Y C H p n m d ∧ m.length ≤ 1000 ∧ 0 ≤ d ∧ l.length ≤ 1000 ∧ ∀ H',Same H H' → Q (.bl (B n m d l)) H'
noncomputable def nevB (w l : List Nat) : Bool:=if l.length < w.length then false else ((w.zip (l.drop (l.length - w.length))).map fun p=>J0N (T [p.1]) (T [p.2])).all id
noncomputable def J4I (C : Addr) (H : Hp) (p : Addr) (w : List Nat) : Prop:=∃ dx,H p = some (.ins C dx [("word",T w)])
theorem J4I.same {C : Addr} {H H' : Hp} {p : Addr} {w : List Nat} (h : J4I C H p w) (s : Same H H') : J4I C H' p w:=let ⟨dx,e⟩:=h; ⟨dx,s _ _ e⟩
theorem wl (v : V) : List.lookup ("word" : Str) [(("word" : Str),v)] = some v:=by rw [List.lookup_cons,beq_self_eq_true]
theorem J7R (x y : V) : List.lookup ("left" : Str) [(("left" : Str),x),("right",y)] = some x:=by rw [List.lookup_cons,beq_self_eq_true]
theorem J6i (x y : V) : List.lookup ("right" : Str) [(("left" : Str),x),("right",y)] = some y:=by
 rw [List.lookup_cons,beq_eq_false_iff_ne.mpr (by decide +kernel),List.lookup_cons,beq_self_eq_true]
theorem J66 (x : V) : List.lookup ("inner" : Str) [(("inner" : Str),x)] = some x:=by rw [List.lookup_cons,beq_self_eq_true]
theorem put2 (x y : V) : putF "right" y (putF "left" x []) = ([("left",x),("right",y)] : List (Str × V)):=by
 have h1 : ¬ (("left" : Str) = "right"):=by decide +kernel
 simp [putF,h1]
noncomputable def J7y (C : Addr) : Sp:=fun vs H Q _=>∃ p dx w,vs = [.ref p,T w] ∧ H p = some (.ins C dx []) ∧ Q .non (upd H p (.ins C dx [("word",T w)]))
noncomputable def J8K (C : Addr) : Sp:=fun vs H Q _=>∃ p w,vs = [.ref p] ∧ J4I C H p w ∧ w.length ≤ 1000 ∧ Q (.int w.length) H
noncomputable def JaN (C : Addr) : Sp:=fun vs H Q _=>∃ p w l,vs = [.ref p,T l] ∧ J4I C H p w ∧ w.length ≤ 1000 ∧ l.length ≤ 1000 ∧ ∀ H',Same H H' → Q (.bl (nevB w l)) H'
noncomputable def J5V (C : Addr) : Sp:=fun vs H Q _=>∃ p dx a b,vs = [.ref p,.ref a,.ref b] ∧ H p = some (.ins C dx []) ∧ Q .non (upd (upd H p (.ins C dx (putF "left" (.ref a) []))) p (.ins C dx [("left",.ref a),("right",.ref b)]))
noncomputable def J5J (C : Addr) : Sp:=fun vs H Q _=>∃ p dx a,vs = [.ref p,.ref a] ∧ H p = some (.ins C dx []) ∧ Q .non (upd H p (.ins C dx [("inner",.ref a)]))
inductive R where
 | nev (w : List Nat)
 | most (n : Int) (m : List Nat) (d : Int)
 | least (n : Int) (m : List Nat) (d : Int)
 | both (l r : R)
 | either (l r : R)
 | neg (i : R)
noncomputable def R.depth : R → Nat
 | .nev _=>0
 | .most _ _ _=>0
 | .least _ _ _=>0
 | .both l r=>max l.depth r.depth + 1
 | .either l r=>max l.depth r.depth + 1
 | .neg i=>i.depth + 1
noncomputable def R.bad : R → List Nat → Bool
 | .nev w,x=>nevB w x
 | .most n m d,x=>J2J n m d x
 | .least n m d,x=>J1k n m d x
 | .both l r,x=>l.bad x || r.bad x
 | .either l r,x=>l.bad x && r.bad x
 | .neg i,x=>!i.bad x
noncomputable def R.reach : R → Int
 | .nev w=>w.length
 | .most _ _ d=>d
 | .least _ _ d=>d
 | .both l r=>if r.reach > l.reach then r.reach else l.reach
 | .either l r=>if r.reach > l.reach then r.reach else l.reach
 | .neg i=>i.reach
structure Cs where
 nev : Addr
 most : Addr
 least : Addr
 both : Addr
 either : Addr
 neg : Addr
noncomputable def R.cls (c : Cs) : R → Addr
 | .nev _=>c.nev
 | .most _ _ _=>c.most
 | .least _ _ _=>c.least
 | .both _ _=>c.both
 | .either _ _=>c.either
 | .neg _=>c.neg
noncomputable def Jr (c : Cs) (H : Hp) : R → Addr → Prop
 | .nev w,p=>J4I c.nev H p w ∧ w.length ≤ 1000
 | .most n m d,p=>J3Y c.most H p n m d ∧ m.length ≤ 1000 ∧ 0 ≤ d
 | .least n m d,p=>J3Y c.least H p n m d ∧ m.length ≤ 1000 ∧ 0 ≤ d
 | .both l r,p=>∃ dx a b,H p = some (.ins c.both dx [("left",.ref a),("right",.ref b)]) ∧ Jr c H l a ∧ Jr c H r b
 | .either l r,p=>∃ dx a b,H p = some (.ins c.either dx [("left",.ref a),("right",.ref b)]) ∧ Jr c H l a ∧ Jr c H r b
 | .neg i,p=>∃ dx a,H p = some (.ins c.neg dx [("inner",.ref a)]) ∧ Jr c H i a
theorem Jr.same {c : Cs} {H H' : Hp} (s : Same H H') : ∀ {r : R} {p : Addr},Jr c H r p → Jr c H' r p
 | .nev _,_,h=>⟨h.1.same s,h.2⟩
 | .most _ _ _,_,h=>⟨h.1.same s,h.2⟩
 | .least _ _ _,_,h=>⟨h.1.same s,h.2⟩
 | .both _ _,_,⟨dx,a,b,e,h1,h2⟩=>⟨dx,a,b,s _ _ e,Jr.same s h1,Jr.same s h2⟩
 | .either _ _,_,⟨dx,a,b,e,h1,h2⟩=>⟨dx,a,b,s _ _ e,Jr.same s h1,Jr.same s h2⟩
 | .neg _,_,⟨dx,a,e,h1⟩=>⟨dx,a,s _ _ e,Jr.same s h1⟩
theorem Jr.obj {c : Cs} {H : Hp} {r : R} {p : Addr} (h : Jr c H r p) : ∃ dx fs,H p = some (.ins (r.cls c) dx fs) ∧ fs.lookup ("bad" : Str) = none ∧ fs.lookup ("reach" : Str) = none ∧ fs.lookup ("text" : Str) = none:=by
 have no1 : ∀ (x m : Str) (v : V),m ≠ x → List.lookup m [(x,v)] = none:=fun x m v hm=>by rw [List.lookup_cons,beq_eq_false_iff_ne.mpr hm]; rfl
 have no2 : ∀ (x y m : Str) (v u : V),m ≠ x → m ≠ y → List.lookup m [(x,v),(y,u)] = none:=fun x y m v u h1 h2=>by rw [List.lookup_cons,beq_eq_false_iff_ne.mpr h1]; exact no1 _ _ _ h2
 have no3 : ∀ (x y z m : Str) (v u t : V),m ≠ x → m ≠ y → m ≠ z → List.lookup m [(x,v),(y,u),(z,t)] = none:=fun x y z m v u t h1 h2 h3=>by rw [List.lookup_cons,beq_eq_false_iff_ne.mpr h1]; exact no2 _ _ _ _ _ h2 h3
 cases r with
 | nev w =>
  obtain ⟨⟨dx,e⟩,_⟩:=h
  exact ⟨dx,_,e,no1 _ _ _ (by decide +kernel),no1 _ _ _ (by decide +kernel),no1 _ _ _ (by decide +kernel)⟩
 | most n m d =>
  obtain ⟨⟨dx,e⟩,_⟩:=h
  exact ⟨dx,_,e,no3 _ _ _ _ _ _ _ (by decide +kernel) (by decide +kernel) (by decide +kernel),no3 _ _ _ _ _ _ _ (by decide +kernel) (by decide +kernel) (by decide +kernel),no3 _ _ _ _ _ _ _ (by decide +kernel) (by decide +kernel) (by decide +kernel)⟩
 | least n m d =>
  obtain ⟨⟨dx,e⟩,_⟩:=h
  exact ⟨dx,_,e,no3 _ _ _ _ _ _ _ (by decide +kernel) (by decide +kernel) (by decide +kernel),no3 _ _ _ _ _ _ _ (by decide +kernel) (by decide +kernel) (by decide +kernel),no3 _ _ _ _ _ _ _ (by decide +kernel) (by decide +kernel) (by decide +kernel)⟩
 | both l r =>
  obtain ⟨dx,a,b,e,_⟩:=h
  exact ⟨dx,_,e,no2 _ _ _ _ _ (by decide +kernel) (by decide +kernel),no2 _ _ _ _ _ (by decide +kernel) (by decide +kernel),no2 _ _ _ _ _ (by decide +kernel) (by decide +kernel)⟩
 | either l r =>
  obtain ⟨dx,a,b,e,_⟩:=h
  exact ⟨dx,_,e,no2 _ _ _ _ _ (by decide +kernel) (by decide +kernel),no2 _ _ _ _ _ (by decide +kernel) (by decide +kernel),no2 _ _ _ _ _ (by decide +kernel) (by decide +kernel)⟩
 | neg i =>
  obtain ⟨dx,a,e,_⟩:=h
  exact ⟨dx,_,e,no1 _ _ _ (by decide +kernel),no1 _ _ _ (by decide +kernel),no1 _ _ _ (by decide +kernel)⟩
noncomputable def JbT (c : Cs) (r : R) : Sp:=fun vs H Q _=>∃ p l,vs = [.ref p,T l] ∧ Jr c H r p ∧ l.length ≤ 1000 ∧ ∀ H',Same H H' → Q (.bl (r.bad l)) H'
noncomputable def JaL (c : Cs) (r : R) : Sp:=fun vs H Q _=>∃ p,vs = [.ref p] ∧ Jr c H r p ∧ Q (.int r.reach) H
noncomputable def R.fine : R → Prop
 | .nev w=>1 ≤ w.length ∧ w.length ≤ 7
 | .most _ _ d=>1 ≤ d ∧ d ≤ 7
 | .least _ _ d=>1 ≤ d ∧ d ≤ 7
 | .both l r=>l.fine ∧ r.fine
 | .either l r=>l.fine ∧ r.fine
 | .neg i=>i.fine
theorem R.far17 : ∀ {r : R},r.fine → 1 ≤ r.reach ∧ r.reach ≤ 7
 | .nev w,h=>by
  have:=h.1
  have:=h.2
  show (1 : Int) ≤ (w.length : Int) ∧ (w.length : Int) ≤ 7
  omega
 | .most _ _ _,h=>h
 | .least _ _ _,h=>h
 | .both l r,h=>by
  have a:=R.far17 h.1
  have b:=R.far17 h.2
  show 1 ≤ (if r.reach > l.reach then r.reach else l.reach) ∧ (if r.reach > l.reach then r.reach else l.reach) ≤ 7
  split <;> omega
 | .either l r,h=>by
  have a:=R.far17 h.1
  have b:=R.far17 h.2
  show 1 ≤ (if r.reach > l.reach then r.reach else l.reach) ∧ (if r.reach > l.reach then r.reach else l.reach) ≤ 7
  split <;> omega
 | .neg i,h=>R.far17 (r:=i) h
theorem J2Q {α : Type} (l : List α) (k d : Nat) (h1 : d ≤ k) (h2 : k ≤ l.length) : (l.drop (l.length - k)).drop ((l.drop (l.length - k)).length - d) = l.drop (l.length - d):=by
 rw [List.drop_drop,List.length_drop]
 congr 1
 omega
theorem R.bad_last : ∀ (r : R),r.fine → ∀ (l : List Nat) (k : Nat),r.reach ≤ (k : Int) → k ≤ l.length → r.bad l = r.bad (l.drop (l.length - k))
 | .nev w,_,l,k,h1,h2=>by
  have h1' : w.length ≤ k:=by
   have : (w.length : Int) ≤ (k : Int):=h1
   omega
  show nevB w l = nevB w (l.drop (l.length - k))
  unfold nevB
  rw [if_neg (by omega),if_neg (by rw [List.length_drop]; omega),J2Q l k w.length h1' h2]
 | .most n m d,hf,l,k,h1,h2=>by
  have h1' : d ≤ (k : Int):=h1
  have:=hf.1
  show J2J n m d l = J2J n m d (l.drop (l.length - k))
  unfold J2J
  rw [J2Q l k d.toNat (by omega) h2]
 | .least n m d,hf,l,k,h1,h2=>by
  have h1' : d ≤ (k : Int):=h1
  have:=hf.1
  show J1k n m d l = J1k n m d (l.drop (l.length - k))
  unfold J1k
  rw [if_neg (by omega),if_neg (by rw [List.length_drop]; omega),J2Q l k d.toNat (by omega) h2]
 | .both x y,hf,l,k,h1,h2=>by
  have h1' : (if y.reach > x.reach then y.reach else x.reach) ≤ (k : Int):=h1
  have a : x.reach ≤ (k : Int):=by split at h1' <;> omega
  have b : y.reach ≤ (k : Int):=by split at h1' <;> omega
  show (x.bad l || y.bad l) = (x.bad _ || y.bad _)
  rw [R.bad_last x hf.1 l k a h2,R.bad_last y hf.2 l k b h2]
 | .either x y,hf,l,k,h1,h2=>by
  have h1' : (if y.reach > x.reach then y.reach else x.reach) ≤ (k : Int):=h1
  have a : x.reach ≤ (k : Int):=by split at h1' <;> omega
  have b : y.reach ≤ (k : Int):=by split at h1' <;> omega
  show (x.bad l && y.bad l) = (x.bad _ && y.bad _)
  rw [R.bad_last x hf.1 l k a h2,R.bad_last y hf.2 l k b h2]
 | .neg i,hf,l,k,h1,h2=>by
  show (!i.bad l) = (!i.bad _)
  rw [R.bad_last i hf l k h1 h2]
theorem Ja0 {α : Type} (l : List α) (a b : Int) (h0 : 0 ≤ a) (h1 : 0 ≤ b) : cutN l (some a) (some b) = (l.take b.toNat).drop a.toNat:=by
 unfold cutN
 have e1 : HT.sIx l.length 0 (some a) = min a.toNat l.length:=by
  show (if a < 0 then (a + (l.length : Int)).toNat else min a.toNat l.length) = _
  rw [if_neg (by omega)]
 have e2 : HT.sIx l.length l.length (some b) = min b.toNat l.length:=by
  show (if b < 0 then (b + (l.length : Int)).toNat else min b.toNat l.length) = _
  rw [if_neg (by omega)]
 rw [e1,e2]
 refine List.ext_getElem? fun i=>?_
 rw [List.getElem?_take,List.getElem?_drop,List.getElem?_drop,List.getElem?_take]
 by_cases h : a.toNat ≤ l.length
 ·rw [Nat.min_eq_left h]
  by_cases h2 : a.toNat + i < l.length
  ·by_cases h3 : a.toNat + i < b.toNat
   ·rw [if_pos (by omega),if_pos h3]
   ·rw [if_neg (by omega),if_neg h3]
  ·rw [List.getElem?_eq_none (by omega)]
   split <;> split <;> rfl
 ·rw [Nat.min_eq_right (show l.length ≤ a.toNat by omega),List.getElem?_eq_none (i:=l.length + i) (by omega),List.getElem?_eq_none (i:=a.toNat + i) (by omega)]
  split <;> split <;> rfl
noncomputable def rNev (c6 : Cs) : List V → Hp → VK → Prop:=fun vs H Q=>∃ w,vs = [T w] ∧ w.length ≤ 1000 ∧ ∀ p H',Same H H' → Jr c6 H' (.nev w) p → Q (.ref p) H'
noncomputable def J6x (c6 : Cs) : List V → Hp → VK → Prop:=fun vs H Q=>∃ n m d,vs = [.int n,T m,.int d] ∧ m.length ≤ 1000 ∧ 0 ≤ d ∧ ∀ p H',Same H H' → Jr c6 H' (.most n m d) p → Q (.ref p) H'
noncomputable def J9a (c6 : Cs) : List V → Hp → VK → Prop:=fun vs H Q=>∃ n m d,vs = [.int n,T m,.int d] ∧ m.length ≤ 1000 ∧ 0 ≤ d ∧ ∀ p H',Same H H' → Jr c6 H' (.least n m d) p → Q (.ref p) H'
noncomputable def J9o (c6 : Cs) : List V → Hp → VK → Prop:=fun vs H Q=>∃ a b x y,vs = [.ref a,.ref b] ∧ Jr c6 H x a ∧ Jr c6 H y b ∧ ∀ p dx H',Same H H' → Jr c6 H' (.both x y) p → H' p = some (.ins c6.both dx [("left",.ref a),("right",.ref b)]) → Q (.ref p) H'
noncomputable def rNot (c6 : Cs) : List V → Hp → VK → Prop:=fun vs H Q=>∃ a x,vs = [.ref a] ∧ Jr c6 H x a ∧ ∀ p dx H',Same H H' → Jr c6 H' (.neg x) p → H' p = some (.ins c6.neg dx [("inner",.ref a)]) → Q (.ref p) H'
theorem J9k {c6 : Cs} : ∀ vs H Q,rNev c6 vs H Q → ∀ x dx,H x = none → H dx = none → dx ≠ x → J7y c6.nev (.ref x :: (vs ++ [])) (upd (upd H dx (.own x)) x (.ins c6.nev dx [])) (fun v H2=>v = .non ∧ Q (.ref x) H2) E0:=by
 rintro _ H Q ⟨w,rfl,hw,q⟩ x dx nx ndx _
 exact ⟨x,dx,w,rfl,Jd,rfl,q x _ (((Jz ndx _).upd nx).upd nx) ⟨⟨dx,Jd⟩,hw⟩⟩
theorem J39 {c6 : Cs} : ∀ vs H Q,J6x c6 vs H Q → ∀ x dx,H x = none → H dx = none → dx ≠ x → J2v c6.most (.ref x :: (vs ++ [])) (upd (upd H dx (.own x)) x (.ins c6.most dx [])) (fun v H2=>v = .non ∧ Q (.ref x) H2) E0:=by
 rintro _ H Q ⟨n,m,d,rfl,hm,hd,q⟩ x dx nx ndx _
 exact ⟨x,dx,n,m,d,rfl,Jd,rfl,q x _ (((((Jz ndx _).upd nx).upd nx).upd nx).upd nx) ⟨⟨dx,Jd⟩,hm,hd⟩⟩
theorem J9g {c6 : Cs} : ∀ vs H Q,J9a c6 vs H Q → ∀ x dx,H x = none → H dx = none → dx ≠ x → J2v c6.least (.ref x :: (vs ++ [])) (upd (upd H dx (.own x)) x (.ins c6.least dx [])) (fun v H2=>v = .non ∧ Q (.ref x) H2) E0:=by
 rintro _ H Q ⟨n,m,d,rfl,hm,hd,q⟩ x dx nx ndx _
 exact ⟨x,dx,n,m,d,rfl,Jd,rfl,q x _ (((((Jz ndx _).upd nx).upd nx).upd nx).upd nx) ⟨⟨dx,Jd⟩,hm,hd⟩⟩
theorem J7W {c6 : Cs} : ∀ vs H Q,J9o c6 vs H Q → ∀ x dx,H x = none → H dx = none → dx ≠ x → J5V c6.both (.ref x :: (vs ++ [])) (upd (upd H dx (.own x)) x (.ins c6.both dx [])) (fun v H2=>v = .non ∧ Q (.ref x) H2) E0:=by
 rintro _ H Q ⟨a,b,y,z,rfl,ha,hb,q⟩ x dx nx ndx _
 have ss:=((((Jz ndx (.own x)).upd nx (o:=.ins c6.both dx [])).upd nx (o:=.ins c6.both dx (putF "left" (.ref a) []))).upd nx (o:=.ins c6.both dx [("left",.ref a),("right",.ref b)]))
 exact ⟨x,dx,a,b,rfl,Jd,rfl,q x dx _ ss ⟨dx,a,b,Jd,ha.same ss,hb.same ss⟩ Jd⟩
theorem J9s {c6 : Cs} : ∀ vs H Q,rNot c6 vs H Q → ∀ x dx,H x = none → H dx = none → dx ≠ x → J5J c6.neg (.ref x :: (vs ++ [])) (upd (upd H dx (.own x)) x (.ins c6.neg dx [])) (fun v H2=>v = .non ∧ Q (.ref x) H2) E0:=by
 rintro _ H Q ⟨a,y,rfl,ha,q⟩ x dx nx ndx _
 have ss:=(((Jz ndx (.own x)).upd nx (o:=.ins c6.neg dx [])).upd nx (o:=.ins c6.neg dx [("inner",.ref a)]))
 exact ⟨x,dx,a,rfl,Jd,rfl,q x dx _ ss ⟨dx,a,Jd,ha.same ss⟩ Jd⟩
section
variable {P : Program} {w : World} {K : PySem.W.Frag} {mg : Str → Option Value} {base : Heap} {J5 J9 J4 Jb Je J2 J1 J8 : Addr}
theorem J8V (tx : Tx K mg J5 J9 J4 Jb Je J2 J1 J8) : FnG P w K mg base "fits" 1 ["sign","mark"] J9S:=by
 refine tx.JaM.g J9R (fun _ _ _ _ _ _ us hl=>match us,hl with | [_,_],_=>rfl) (fun vs H Q E h=>?_) (fun f cdv A outer s H vs Q E hr h=>?_)
 ·obtain ⟨a,b,rfl,_⟩:=h
  rfl
 ·obtain ⟨a,b,rfl,q⟩:=h
  refine ⟨_,(J6 (JZ (Ju J13 (pv 0) (JM (l:=[63]) (by decide +kernel)) (Jy _)) (Jc (Jn J33)) Jx)
   (J6 (JZ (Ju J13 (pv 0) (JM (l:=[35]) (by decide +kernel)) (Jy _)) (Jc (Jn (J1C JaE (pv 1) (JM (l:=[45]) (by decide +kernel)) (Jy _)))) Jx)
   (Jc (Jn (J1C J13 (pv 0) (pv 1) (Jy _)))))),?_⟩
  walk_at "st"
  refine ⟨_,rfl,rfl,_,rfl,?_⟩
  refine ite2 (fun c=>?_) (fun c=>?_)
  ·have e : J0N (T a) (T b) = true:=by unfold J0N; rw [if_pos c]
   rw [e] at q
   exact q
  ·refine ⟨_,rfl,rfl,_,rfl,?_⟩
   refine ite2 (fun c2=>?_) (fun c2=>?_)
   ·have e : J0N (T a) (T b) = !decide (T b = T [45]):=by unfold J0N; rw [if_neg c,if_pos c2]
    rw [e] at q
    exact ⟨_,rfl,rfl,q⟩
   ·have e : J0N (T a) (T b) = decide (T a = T b):=by unfold J0N; rw [if_neg c,if_neg c2]
    rw [e] at q
    exact ⟨_,rfl,_,rfl,rfl,q⟩
theorem J19 (tx : Tx K mg J5 J9 J4 Jb Je J2 J1 J8) : FnG P w K mg base "last_marks" 1 ["marks","many"] J9W:=by
 refine tx.J4M.g J4f (fun _ _ _ _ _ _ us hl=>match us,hl with | [_,_],_=>rfl) (fun vs H Q E h=>?_) (fun f cdv A outer s H vs Q E hr h=>?_)
 ·obtain ⟨a,b,rfl,_⟩:=h
  rfl
 ·obtain ⟨l,n,rfl,hl,hn,q⟩:=h
  refine ⟨_,(Jc (Jn (J1i J2q (pv 0) (J1n (Jk (J0W rfl) rfl tx.J1L J2r (J0 Ja (J0 (Jh J1t (Jk JN rfl tx.J0q PySem.boot_len (J0 (pv 0) J7)) (pv 1)) J7)))) J23))),?_⟩
  walk_at "st"
  refine ⟨_,rfl,_,rfl,l,rfl,J2s hl,_,rfl,_,_,rfl,rfl,_,_,rfl,_,rfl,l,rfl,J2s hl,?_⟩
  have e : cutN l (some (if (l.length : Int) - n > 0 then (l.length : Int) - n else 0)) none = l.drop (l.length - n.toNat):=by
   rw [J3Z _ _ (by split <;> omega)]
   congr 1
   split <;> omega
  rw [e]
  exact q
theorem J8R (tx : Tx K mg J5 J9 J4 Jb Je J2 J1 J8) : FnG P w K mg base "let_by" 2 ["signs","mark"] JaO:=by
 have J6V:=J8V (P:=P) (w:=w) (base:=base) tx
 refine tx.J8S.g J83 (fun _ _ _ _ _ _ us hl=>match us,hl with | [_,_],_=>rfl) (fun vs H Q E h=>?_) (fun f cdv A outer s H vs Q E hr h=>?_)
 ·obtain ⟨m,c,rfl,_⟩:=h
  rfl
 ·obtain ⟨m,c,rfl,hm,q⟩:=h
  refine ⟨_,(Jc (Jn (Jk (J7b (K:=K) rfl rfl) rfl tx.J5P Jbf (J0 (J3d (osc:=J3 J1g) (ON:=["signs","mark"]) (N:=["sign","mark"]) (js:=[none,some 1]) ⟨rfl,by decide +kernel,by decide +kernel,by decide +kernel,rfl,by decide +kernel⟩ rfl rfl rfl (J5s (pv 0)) (fun _ _ _ _ _=>JH (i:=0) (show List.Nodup (["sign","mark"] : List Str) from by decide +kernel) rfl (Or.inl rfl)) (fun _ _ _ _ _=>J3V) (fun _ _ _ _ _=>(JD J6V (hr.mono (by decide)) (J0 (pv 0) (J0 (pv 1) J7))))) J7)))),?_⟩
  walk_at "st"
  refine ⟨_,rfl,m,rfl,?_⟩
  refine J69 (fun x=>match x with | .str z=>.bl (J0N (.str z) (T [c])) | v=>v) (J24 m) ?_ (fun x hx H' s' R hR=>?_) (fun D H' hD s' hDD=>?_)
  ·rw [List.length_map]; omega
  ·obtain ⟨k,_,rfl⟩:=List.mem_map.mp hx
   exact ⟨_,rfl,_,rfl,[k],[c],rfl,hR H' (Same.refl _)⟩
  refine ⟨D,m.map fun s=>J0N (T [s]) (T [c]),rfl,SqL.of ?_,?_⟩
  ·rw [hDD,List.map_map,List.map_map]
   rfl
  ·exact q H' s'
theorem J28 (tx : Tx K mg J5 J9 J4 Jb Je J2 J1 J8) : FnG P w K mg base "count_among" 3 ["signs","marks"] J8P:=by
 have J8M:=J8R (P:=P) (w:=w) (base:=base) tx
 refine tx.J4b.g J3j (fun _ _ _ _ _ _ us hl=>match us,hl with | [_,_],_=>rfl) (fun vs H Q E h=>?_) (fun f cdv A outer s H vs Q E hr h=>?_)
 ·obtain ⟨m,c,rfl,_⟩:=h
  rfl
 ·obtain ⟨m,l,rfl,hm,hl,q⟩:=h
  refine ⟨_,(Jc (Jn (Jk (J0v (K:=K) rfl) rfl tx.J0q PySem.boot_len (J0 (J3d (osc:=J3 JU) (ON:=["signs","marks"]) (N:=["mark","signs"]) (js:=[none,some 0]) ⟨rfl,by decide +kernel,by decide +kernel,by decide +kernel,rfl,by decide +kernel⟩ rfl rfl rfl (J5s (pv 1)) (fun _ _ _ _ _=>JH (i:=0) (show List.Nodup (["mark","signs"] : List Str) from by decide +kernel) rfl (Or.inl rfl)) (fun _ _ _ _ _=>J5Y (J7g (JD J8M (hr.mono (by decide)) (J0 (pv 1) (J0 (pv 0) J7))))) (fun _ _ _ _ _=>(pv 0))) J7)))),?_⟩
  walk_at "st"
  refine ⟨_,rfl,l,rfl,?_⟩
  refine J5n (fun x=>match x with | .str ⟨⟨[c]⟩⟩=>letV m c | _=>false) (fun x=>x) (J24 l) ?_ (fun x hx H' s' R hR=>?_) (fun x hx hp H' s' R hR=>?_) (fun D H' hD s' hDD=>?_)
  ·rw [List.length_map]; omega
  ·obtain ⟨k,_,rfl⟩:=List.mem_map.mp hx
   exact ⟨_,rfl,_,rfl,m,k,rfl,hm,fun H2 s2=>⟨_,rfl,hR H2 s2⟩⟩
  ·exact ⟨_,rfl,hR H' (Same.refl _)⟩
  refine ⟨D,_,rfl,.inl (SqL.of hDD),?_⟩
  have e : ((((l.map fun c=>T [c]).filter (fun x=>match x with | .str ⟨⟨[c]⟩⟩=>letV m c | _=>false)).map (fun x=>x)).length : Int) = (cntV m l : Int):=by
   rw [List.length_map,List.filter_map,List.length_map]
   rfl
  rw [e]
  exact q H' s'
theorem J2A (tx : Tx K mg J5 J9 J4 Jb Je J2 J1 J8) : MtG P w K mg base J5 "__init__" 1 ["self","word"] (J7y J5):=by
 refine tx.J5c.g tx.J0X.cl J49 (fun _ _ _ _ _ _ us hl=>match us,hl with | [_,_],_=>rfl) (fun vs H Q E h=>?_) (fun f cdv A outer s H vs Q E hr h=>?_)
 ·obtain ⟨p,dx,w,rfl,_⟩:=h
  rfl
 ·obtain ⟨p,dx,w,rfl,hp,q⟩:=h
  refine ⟨_,(Jc (J1u (pv 0) (pv 1) rfl)),?_⟩
  walk_at "st"
  exact ⟨_,rfl,_,rfl,p,J5,dx,[],rfl,hp,tx.J0X.cl,tx.JF,by decide,q⟩
theorem J4i (tx : Tx K mg J5 J9 J4 Jb Je J2 J1 J8) : MtG P w K mg base J5 "reach" 1 ["self"] (J8K J5):=by
 refine tx.J4d.g tx.J0X.cl J3o (fun _ _ _ _ _ _ us hl=>match us,hl with | [_],_=>rfl) (fun vs H Q E h=>?_) (fun f cdv A outer s H vs Q E hr h=>?_)
 ·obtain ⟨p,w,rfl,_⟩:=h
  rfl
 ·obtain ⟨p,w,rfl,⟨dx,hp⟩,hw,q⟩:=h
  refine ⟨_,(Jc (Jn (Jk JN rfl tx.J0q PySem.boot_len (J0 (JI (K:=K) rfl (pv 0) rfl) J7)))),?_⟩
  walk_at "st"
  exact ⟨_,rfl,p,J5,dx,_,_,rfl,hp,tx.J0X.cl,tx.JF,wl _,w,rfl,J2s hw,q⟩
theorem J5T (tx : Tx K mg J5 J9 J4 Jb Je J2 J1 J8) : MtG P w K mg base J5 "bad" 2 ["self","marks"] (JaN J5):=by
 have J6V:=J8V (P:=P) (w:=w) (base:=base) tx
 have J01:=J19 (P:=P) (w:=w) (base:=base) tx
 refine tx.J5N.g tx.J0X.cl J2x (fun _ _ _ _ _ _ us hl=>match us,hl with | [_,_],_=>rfl) (fun vs H Q E h=>?_) (fun f cdv A outer s H vs Q E hr h=>?_)
 ·obtain ⟨p,w,l,rfl,_⟩:=h
  rfl
 ·obtain ⟨p,w,l,rfl,⟨dx,hp⟩,hw,hl,q⟩:=h
  refine ⟨_,(J6 (JZ (Ju J68 (Jk JN rfl tx.J0q PySem.boot_len (J0 (pv 1) J7)) (Jk JN rfl tx.J0q PySem.boot_len (J0 (JI (K:=K) rfl (pv 0) rfl) J7)) (Jy _)) (Jc (Jn J33)) Jx)
   (J6 (Jm (i:=2) J2x.nd rfl (Or.inl rfl) (JD J01 (hr.mono (by decide)) (J0 (pv 1) (J0 (Jk JN rfl tx.J0q PySem.boot_len (J0 (JI (K:=K) rfl (pv 0) rfl) J7)) J7))))
   (Jc (Jn (Jk (J7s (K:=K) rfl rfl) rfl tx.J5O JaS (J0 (J3d (osc:=J3 J0d) (ON:=["self","marks","nearest"]) (N:=["sign","mark"]) (js:=[none,none]) ⟨rfl,by decide +kernel,by decide +kernel,by decide +kernel,rfl,by decide +kernel⟩ rfl rfl rfl (Jak rfl tx.J5C (J0 (JI (K:=K) rfl (pv 0) rfl) (J0 (pv 2) J7))) (fun _ _ _ _ _=>Jbg (K:=K) (i:=0) (j:=1) rfl rfl (show List.Nodup (["sign","mark"] : List Str) from by decide +kernel) rfl rfl (Or.inl rfl) (Or.inl rfl)) (fun _ _ _ _ _=>J3V) (fun _ _ _ _ _=>(JD J6V (hr.mono (by decide)) (J0 (pv 0) (J0 (pv 1) J7))))) J7)))))),?_⟩
  walk_at "st"
  refine ⟨_,rfl,l,rfl,J2s hl,_,rfl,p,J5,dx,_,_,rfl,hp,tx.J0X.cl,tx.JF,wl _,w,rfl,J2s hw,_,_,rfl,rfl,_,rfl,?_⟩
  refine ite2 (fun c=>?_) (fun c=>?_)
  ·have c':=of_decide_eq_true c
   have e : nevB w l = false:=by unfold nevB; rw [if_pos (by omega)]
   have q':=q H (Same.refl _)
   rw [e] at q'
   exact q'
  ·have c' : ¬ ((l.length : Int) < (w.length : Int)):=of_decide_eq_false (Bool.eq_false_iff.mpr c)
   refine ⟨_,rfl,_,rfl,p,J5,dx,_,_,rfl,hp,tx.J0X.cl,tx.JF,wl _,w,rfl,J2s hw,l,_,rfl,hl,by omega,?_⟩
   refine ⟨_,rfl,p,J5,dx,_,_,rfl,hp,tx.J0X.cl,tx.JF,wl _,_,rfl,w,_,rfl,?_⟩
   refine J8x (fun c d=>.bl (J0N (T [c]) (T [d]))) ?_ (fun c d H' s' R hR=>?_) (fun D H' hD s' hDD=>?_)
   ·omega
   ·exact ⟨_,rfl,_,rfl,_,_,rfl,hR H' (Same.refl _)⟩
   refine ⟨D,((w.zip (l.drop (l.length - (w.length : Int).toNat))).map fun p=>J0N (T [p.1]) (T [p.2])),rfl,SqL.of ?_,?_⟩
   ·rw [hDD,List.map_map]
    rfl
   ·have e : nevB w l = ((w.zip (l.drop (l.length - (w.length : Int).toNat))).map fun p=>J0N (T [p.1]) (T [p.2])).all id:=by
     unfold nevB
     rw [if_neg (by omega),Int.toNat_natCast]
    have q':=q H' s'
    rw [e] at q'
    exact q'
theorem J2Z (tx : Tx K mg J5 J9 J4 Jb Je J2 J1 J8) : MtG P w K mg base J9 "__init__" 1 ["self","many","marks","days"] (J2v J9):=by
 refine tx.J5G.g tx.J16.cl J4S (fun _ _ _ _ _ _ us hl=>match us,hl with | [_,_,_,_],_=>rfl) (fun vs H Q E h=>?_) (fun f cdv A outer s H vs Q E hr h=>?_)
 ·obtain ⟨p,dx,n,m,d,rfl,_⟩:=h
  rfl
 ·obtain ⟨p,dx,n,m,d,rfl,hp,q⟩:=h
  refine ⟨_,(J6 (J1u (pv 0) (pv 1) rfl)
   (J6 (J1u (pv 0) (pv 2) rfl)
   (Jc (J1u (pv 0) (pv 3) rfl)))),?_⟩
  walk_at "st"
  refine ⟨_,rfl,_,rfl,p,J9,dx,[],rfl,hp,tx.J16.cl,tx.J0F,by decide,?_⟩
  refine ⟨_,rfl,_,rfl,p,J9,dx,_,rfl,Jd,tx.J16.cl,tx.J0i,by show 1 < 1000; decide,?_⟩
  refine ⟨_,rfl,_,rfl,p,J9,dx,_,rfl,Jd,tx.J16.cl,tx.J0e,?_,?_⟩
  ·have:=J0I "marks" (T m) (putF "many" (.int n) [])
   have h2:=J0I "many" (V.int n) []
   have h3 : ([] : List (Str × V)).length = 0:=rfl
   omega
  rw [put3]
  exact q
theorem J4V (tx : Tx K mg J5 J9 J4 Jb Je J2 J1 J8) : MtG P w K mg base J9 "reach" 1 ["self"] (J4m J9):=by
 refine tx.J58.g tx.J16.cl J4c (fun _ _ _ _ _ _ us hl=>match us,hl with | [_],_=>rfl) (fun vs H Q E h=>?_) (fun f cdv A outer s H vs Q E hr h=>?_)
 ·obtain ⟨p,n,m,d,rfl,_⟩:=h
  rfl
 ·obtain ⟨p,n,m,d,rfl,⟨dx,hp⟩,q⟩:=h
  refine ⟨_,(Jc (Jn (JI (K:=K) rfl (pv 0) rfl))),?_⟩
  walk_at "st"
  exact ⟨_,rfl,p,J9,dx,_,_,rfl,hp,tx.J16.cl,tx.J0e,J2K _ _ _,q⟩
theorem J6H (tx : Tx K mg J5 J9 J4 Jb Je J2 J1 J8) : MtG P w K mg base J9 "bad" 4 ["self","marks"] (J7w J9 J2J):=by
 have J1r:=J28 (P:=P) (w:=w) (base:=base) tx
 have J01:=J19 (P:=P) (w:=w) (base:=base) tx
 refine tx.J6E.g tx.J16.cl J5F (fun _ _ _ _ _ _ us hl=>match us,hl with | [_,_],_=>rfl) (fun vs H Q E h=>?_) (fun f cdv A outer s H vs Q E hr h=>?_)
 ·obtain ⟨p,n,m,d,l,rfl,_⟩:=h
  rfl
 ·obtain ⟨p,n,m,d,l,rfl,⟨dx,hp⟩,hm,hd,hl,q⟩:=h
  refine ⟨_,(Jc (Jn (J1C J4F (JD J1r (hr.mono (by decide)) (J0 (JI (K:=K) rfl (pv 0) rfl) (J0 (JD J01 (hr.mono (by decide)) (J0 (pv 1) (J0 (JI (K:=K) rfl (pv 0) rfl) J7))) J7))) (JI (K:=K) rfl (pv 0) rfl) (Jy _)))),?_⟩
  walk_at "st"
  refine ⟨_,rfl,p,J9,dx,_,_,rfl,hp,tx.J16.cl,tx.J0i,J6o _ _ _,_,rfl,_,rfl,p,J9,dx,_,_,rfl,hp,tx.J16.cl,tx.J0e,J2K _ _ _,l,d,rfl,hl,hd,m,_,rfl,hm,?_,fun H' s'=>?_⟩
  ·rw [List.length_drop]; omega
  exact ⟨_,rfl,p,J9,dx,_,_,rfl,s' _ _ hp,tx.J16.cl,tx.J0F,J7V _ _ _,_,_,rfl,rfl,q H' s'⟩
theorem J54 (tx : Tx K mg J5 J9 J4 Jb Je J2 J1 J8) : MtG P w K mg base J4 "__init__" 1 ["self","many","marks","days"] (J2v J4):=by
 refine tx.J57.g tx.J0w.cl J47 (fun _ _ _ _ _ _ us hl=>match us,hl with | [_,_,_,_],_=>rfl) (fun vs H Q E h=>?_) (fun f cdv A outer s H vs Q E hr h=>?_)
 ·obtain ⟨p,dx,n,m,d,rfl,_⟩:=h
  rfl
 ·obtain ⟨p,dx,n,m,d,rfl,hp,q⟩:=h
  refine ⟨_,(J6 (J1u (pv 0) (pv 1) rfl)
   (J6 (J1u (pv 0) (pv 2) rfl)
   (Jc (J1u (pv 0) (pv 3) rfl)))),?_⟩
  walk_at "st"
  refine ⟨_,rfl,_,rfl,p,J4,dx,[],rfl,hp,tx.J0w.cl,tx.J0h,by decide,?_⟩
  refine ⟨_,rfl,_,rfl,p,J4,dx,_,rfl,Jd,tx.J0w.cl,tx.J08,by show 1 < 1000; decide,?_⟩
  refine ⟨_,rfl,_,rfl,p,J4,dx,_,rfl,Jd,tx.J0w.cl,tx.JS,?_,?_⟩
  ·have:=J0I "marks" (T m) (putF "many" (.int n) [])
   have h2:=J0I "many" (V.int n) []
   have h3 : ([] : List (Str × V)).length = 0:=rfl
   omega
  rw [put3]
  exact q
theorem J4h (tx : Tx K mg J5 J9 J4 Jb Je J2 J1 J8) : MtG P w K mg base J4 "reach" 1 ["self"] (J4m J4):=by
 refine tx.J4a.g tx.J0w.cl J3g (fun _ _ _ _ _ _ us hl=>match us,hl with | [_],_=>rfl) (fun vs H Q E h=>?_) (fun f cdv A outer s H vs Q E hr h=>?_)
 ·obtain ⟨p,n,m,d,rfl,_⟩:=h
  rfl
 ·obtain ⟨p,n,m,d,rfl,⟨dx,hp⟩,q⟩:=h
  refine ⟨_,(Jc (Jn (JI (K:=K) rfl (pv 0) rfl))),?_⟩
  walk_at "st"
  exact ⟨_,rfl,p,J4,dx,_,_,rfl,hp,tx.J0w.cl,tx.JS,J2K _ _ _,q⟩
theorem J5M (tx : Tx K mg J5 J9 J4 Jb Je J2 J1 J8) : MtG P w K mg base J4 "bad" 4 ["self","marks"] (J7w J4 J1k):=by
 have J1r:=J28 (P:=P) (w:=w) (base:=base) tx
 have J01:=J19 (P:=P) (w:=w) (base:=base) tx
 refine tx.J5R.g tx.J0w.cl J56 (fun _ _ _ _ _ _ us hl=>match us,hl with | [_,_],_=>rfl) (fun vs H Q E h=>?_) (fun f cdv A outer s H vs Q E hr h=>?_)
 ·obtain ⟨p,n,m,d,l,rfl,_⟩:=h
  rfl
 ·obtain ⟨p,n,m,d,l,rfl,⟨dx,hp⟩,hm,hd,hl,q⟩:=h
  refine ⟨_,(J6 (JZ (Ju J68 (Jk JN rfl tx.J0q PySem.boot_len (J0 (pv 1) J7)) (JI (K:=K) rfl (pv 0) rfl) (Jy _)) (Jc (Jn J33)) Jx)
   (Jc (Jn (J1C J68 (JD J1r (hr.mono (by decide)) (J0 (JI (K:=K) rfl (pv 0) rfl) (J0 (JD J01 (hr.mono (by decide)) (J0 (pv 1) (J0 (JI (K:=K) rfl (pv 0) rfl) J7))) J7))) (JI (K:=K) rfl (pv 0) rfl) (Jy _))))),?_⟩
  walk_at "st"
  refine ⟨_,rfl,l,rfl,J2s hl,_,rfl,p,J4,dx,_,_,rfl,hp,tx.J0w.cl,tx.JS,J2K _ _ _,_,_,rfl,rfl,_,rfl,?_⟩
  refine ite2 (fun c=>?_) (fun c=>?_)
  ·have c':=of_decide_eq_true c
   have e : J1k n m d l = false:=by unfold J1k; rw [if_pos c']
   have q':=q H (Same.refl _)
   rw [e] at q'
   exact q'
  have c' : ¬ ((l.length : Int) < d):=of_decide_eq_false (Bool.eq_false_iff.mpr c)
  have e : J1k n m d l = decide ((cntV m (l.drop (l.length - d.toNat)) : Int) < n):=by unfold J1k; rw [if_neg c']
  refine ⟨_,rfl,p,J4,dx,_,_,rfl,hp,tx.J0w.cl,tx.J08,J6o _ _ _,_,rfl,_,rfl,p,J4,dx,_,_,rfl,hp,tx.J0w.cl,tx.JS,J2K _ _ _,l,d,rfl,hl,hd,m,_,rfl,hm,?_,fun H' s'=>?_⟩
  ·rw [List.length_drop]; omega
  have q':=q H' s'
  rw [e] at q'
  exact ⟨_,rfl,p,J4,dx,_,_,rfl,s' _ _ hp,tx.J0w.cl,tx.J0h,J7V _ _ _,_,_,rfl,rfl,q'⟩
theorem J5S (tx : Tx K mg J5 J9 J4 Jb Je J2 J1 J8) : MtG P w K mg base Jb "__init__" 1 ["self","left","right"] (J5V Jb):=by
 refine tx.J5K.g tx.J1s.cl J4W (fun _ _ _ _ _ _ us hl=>match us,hl with | [_,_,_],_=>rfl) (fun vs H Q E h=>?_) (fun f cdv A outer s H vs Q E hr h=>?_)
 ·obtain ⟨p,dx,a,b,rfl,_⟩:=h
  rfl
 ·obtain ⟨p,dx,a,b,rfl,hp,q⟩:=h
  refine ⟨_,(J6 (J1u (pv 0) (pv 1) rfl)
   (Jc (J1u (pv 0) (pv 2) rfl))),?_⟩
  walk_at "st"
  refine ⟨_,rfl,_,rfl,p,Jb,dx,[],rfl,hp,tx.J1s.cl,tx.J0f,by decide,?_⟩
  refine ⟨_,rfl,_,rfl,p,Jb,dx,_,rfl,Jd,tx.J1s.cl,tx.J00,by show 1 < 1000; decide,?_⟩
  rw [put2]
  exact q
theorem J6L (tx : Tx K mg J5 J9 J4 Jb Je J2 J1 J8) : MtG P w K mg base Je "__init__" 1 ["self","inner"] (J5J Je):=by
 refine tx.J6P.g tx.J3z.cl J5B (fun _ _ _ _ _ _ us hl=>match us,hl with | [_,_],_=>rfl) (fun vs H Q E h=>?_) (fun f cdv A outer s H vs Q E hr h=>?_)
 ·obtain ⟨p,dx,a,rfl,_⟩:=h
  rfl
 ·obtain ⟨p,dx,a,rfl,hp,q⟩:=h
  refine ⟨_,(Jc (J1u (pv 0) (pv 1) rfl)),?_⟩
  walk_at "st"
  exact ⟨_,rfl,_,rfl,p,Je,dx,[],rfl,hp,tx.J3z.cl,tx.J0c,by decide,q⟩
noncomputable def R.noE : R → Prop
 | .both x y=>x.noE ∧ y.noE
 | .either _ _=>False
 | .neg x=>x.noE
 | _=>True
noncomputable abbrev cs6 (J5 J9 J4 Jb Je _RotaError _TooWide _NoRule : Addr) : Cs:=⟨J5,J9,J4,Jb,Je,Je⟩
theorem J5W (tx : Tx K mg J5 J9 J4 Jb Je J2 J1 J8) : ∀ r : R,r.noE → MtG P w K mg base (r.cls (cs6 J5 J9 J4 Jb Je J2 J1 J8)) "bad" (5 + r.depth) ["self","marks"] (JbT (cs6 J5 J9 J4 Jb Je J2 J1 J8) r)
 | .nev w,_=>(J5T tx).imp (fun vs H Q E ⟨p,l,e,h,hl,q⟩=>⟨p,w,l,e,h.1,h.2,hl,q⟩) |>.mono (by show 2 ≤ 5 + _; omega)
 | .most n m d,_=>(J6H tx).imp (fun vs H Q E ⟨p,l,e,h,hl,q⟩=>⟨p,n,m,d,l,e,h.1,h.2.1,h.2.2,hl,q⟩) |>.mono (by show 4 ≤ 5 + _; omega)
 | .least n m d,_=>(J5M tx).imp (fun vs H Q E ⟨p,l,e,h,hl,q⟩=>⟨p,n,m,d,l,e,h.1,h.2.1,h.2.2,hl,q⟩) |>.mono (by show 4 ≤ 5 + _; omega)
 | .both x y,hno=>by
  have Gx:=J5W tx x hno.1
  have Gy:=J5W tx y hno.2
  refine MtG.mono (j:=(5 + max x.depth y.depth) + 1) (tx.J6Q.g tx.J1s.cl J5D (fun _ _ _ _ _ _ us hl=>match us,hl with | [_,_],_=>rfl) (fun vs H Q E h=>?_) (fun f cdv A outer s H vs Q E hr h=>?_)) (by show _ ≤ 5 + (max x.depth y.depth + 1); omega)
  ·obtain ⟨p,l,rfl,_⟩:=h
   rfl
  ·obtain ⟨p,l,rfl,⟨dx,a,b,e,ha,hb⟩,hl,q⟩:=h
   refine ⟨_,(Jc (Jn (JbJ (J3O (P:=P) (w:=w) (K:=K) (mg:=mg) (base:=base) hr (JI (K:=K) rfl (pv 0) rfl) (J0 (pv 1) J7) rfl rfl rfl rfl rfl) (J7q (J3O (P:=P) (w:=w) (K:=K) (mg:=mg) (base:=base) hr (JI (K:=K) rfl (pv 0) rfl) (J0 (pv 1) J7) rfl rfl rfl rfl rfl))))),?_⟩
   walk_at "st"
   obtain ⟨dx1,fs1,o1,n1,_⟩:=ha.obj
   refine ⟨_,rfl,p,Jb,dx,_,_,rfl,e,tx.J1s.cl,tx.J0f,J7R _ _,a,_,dx1,fs1,_,_,_,rfl,o1,n1,Gx,by omega,_,rfl,a,l,rfl,ha,hl,fun H1 s1=>⟨_,rfl,?_⟩⟩
   refine ite2 (fun c=>?_) (fun c=>?_)
   ·have q':=q H1 s1
    rw [show (R.both x y).bad l = true by show (x.bad l || y.bad l) = true; rw [c,Bool.true_or]] at q'
    exact q'
   ·obtain ⟨dx2,fs2,o2,n2,_⟩:=(hb.same s1).obj
    refine ⟨_,rfl,p,Jb,dx,_,_,rfl,s1 _ _ e,tx.J1s.cl,tx.J00,J6i _ _,b,_,dx2,fs2,_,_,_,rfl,o2,n2,Gy,by omega,_,rfl,b,l,rfl,hb.same s1,hl,fun H2 s2=>?_⟩
    have q':=q H2 (s1.trans s2)
    rw [show (R.both x y).bad l = y.bad l by show (x.bad l || y.bad l) = y.bad l; rw [Bool.eq_false_iff.mpr c,Bool.false_or]] at q'
    exact q'
 | .either _ _,h=>h.elim
 | .neg x,hno=>by
  have Gx:=J5W tx x hno
  refine MtG.mono (j:=(5 + x.depth) + 1) (tx.J85.g tx.J3z.cl J6Z (fun _ _ _ _ _ _ us hl=>match us,hl with | [_,_],_=>rfl) (fun vs H Q E h=>?_) (fun f cdv A outer s H vs Q E hr h=>?_)) (by show _ ≤ 5 + (x.depth + 1); omega)
  ·obtain ⟨p,l,rfl,_⟩:=h
   rfl
  ·obtain ⟨p,l,rfl,⟨dx,a,e,ha⟩,hl,q⟩:=h
   refine ⟨_,(Jc (Jn (J9i (J3O (P:=P) (w:=w) (K:=K) (mg:=mg) (base:=base) hr (JI (K:=K) rfl (pv 0) rfl) (J0 (pv 1) J7) rfl rfl rfl rfl rfl)))),?_⟩
   walk_at "st"
   obtain ⟨dx1,fs1,o1,n1,_⟩:=ha.obj
   exact ⟨_,rfl,p,Je,dx,_,_,rfl,e,tx.J3z.cl,tx.J0c,J66 _,a,_,dx1,fs1,_,_,_,rfl,o1,n1,Gx,Nat.le_refl _,_,rfl,a,l,rfl,ha,hl,fun H1 s1=>⟨_,rfl,q H1 s1⟩⟩
theorem J5z (tx : Tx K mg J5 J9 J4 Jb Je J2 J1 J8) : ∀ r : R,r.noE → MtG P w K mg base (r.cls (cs6 J5 J9 J4 Jb Je J2 J1 J8)) "reach" (1 + r.depth) ["self"] (JaL (cs6 J5 J9 J4 Jb Je J2 J1 J8) r)
 | .nev w,_=>(J4i tx).imp (fun vs H Q E ⟨p,e,h,q⟩=>⟨p,w,e,h.1,h.2,q⟩) |>.mono (by show 1 ≤ 1 + _; omega)
 | .most n m d,_=>(J4V tx).imp (fun vs H Q E ⟨p,e,h,q⟩=>⟨p,n,m,d,e,h.1,q⟩) |>.mono (by show 1 ≤ 1 + _; omega)
 | .least n m d,_=>(J4h tx).imp (fun vs H Q E ⟨p,e,h,q⟩=>⟨p,n,m,d,e,h.1,q⟩) |>.mono (by show 1 ≤ 1 + _; omega)
 | .both x y,hno=>by
  have Gx:=J5z tx x hno.1
  have Gy:=J5z tx y hno.2
  refine MtG.mono (j:=(1 + max x.depth y.depth) + 1) (tx.J4P.g tx.J1s.cl J46 (fun _ _ _ _ _ _ us hl=>match us,hl with | [_],_=>rfl) (fun vs H Q E h=>?_) (fun f cdv A outer s H vs Q E hr h=>?_)) (by show _ ≤ 1 + (max x.depth y.depth + 1); omega)
  ·obtain ⟨p,rfl,_⟩:=h
   rfl
  ·obtain ⟨p,rfl,⟨dx,a,b,e,ha,hb⟩,q⟩:=h
   refine ⟨_,(Jc (Jn (Jk (J0W rfl) rfl tx.J1L J2r (J0 (J2L (P:=P) (w:=w) (K:=K) (mg:=mg) (base:=base) hr (JI (K:=K) rfl (pv 0) rfl) rfl rfl rfl rfl rfl) (J0 (J2L (P:=P) (w:=w) (K:=K) (mg:=mg) (base:=base) hr (JI (K:=K) rfl (pv 0) rfl) rfl rfl rfl rfl rfl) J7))))),?_⟩
   walk_at "st"
   obtain ⟨dx1,fs1,o1,_,n1,_⟩:=ha.obj
   obtain ⟨dx2,fs2,o2,_,n2,_⟩:=hb.obj
   exact ⟨_,rfl,p,Jb,dx,_,_,rfl,e,tx.J1s.cl,tx.J0f,J7R _ _,a,_,dx1,fs1,_,_,_,rfl,o1,n1,Gx,by omega,a,rfl,ha,
    _,rfl,p,Jb,dx,_,_,rfl,e,tx.J1s.cl,tx.J00,J6i _ _,b,_,dx2,fs2,_,_,_,rfl,o2,n2,Gy,by omega,b,rfl,hb,_,_,rfl,q⟩
 | .either _ _,h=>h.elim
 | .neg x,hno=>by
  have Gx:=J5z tx x hno
  refine MtG.mono (j:=(1 + x.depth) + 1) (tx.J5E.g tx.J3z.cl J53 (fun _ _ _ _ _ _ us hl=>match us,hl with | [_],_=>rfl) (fun vs H Q E h=>?_) (fun f cdv A outer s H vs Q E hr h=>?_)) (by show _ ≤ 1 + (x.depth + 1); omega)
  ·obtain ⟨p,rfl,_⟩:=h
   rfl
  ·obtain ⟨p,rfl,⟨dx,a,e,ha⟩,q⟩:=h
   refine ⟨_,(Jc (Jn (J2L (P:=P) (w:=w) (K:=K) (mg:=mg) (base:=base) hr (JI (K:=K) rfl (pv 0) rfl) rfl rfl rfl rfl rfl))),?_⟩
   walk_at "st"
   obtain ⟨dx1,fs1,o1,_,n1,_⟩:=ha.obj
   exact ⟨_,rfl,p,Je,dx,_,_,rfl,e,tx.J3z.cl,tx.J0c,J66 _,a,_,dx1,fs1,_,_,_,rfl,o1,n1,Gx,Nat.le_refl _,a,rfl,ha,q⟩
end
section
variable {P : Program} {w : World} {K : PySem.W.Frag} {mg : Str → Option Value} {base : Heap} {J5 J9 J4 Jb Je J2 J1 J8 : Addr}
theorem J29 (tx : Tx K mg J5 J9 J4 Jb Je J2 J1 J8) : FnG P w K mg base "_law_cell_at" 1 ["_law_script","_law_k"] (J9V K):=by
 refine tx.J4e.g J3r (fun _ _ _ _ _ _ us hl=>match us,hl with | [_,_],_=>rfl) (fun vs H Q E h=>?_) (fun f cdv A outer s H vs Q E hr h=>?_)
 ·obtain ⟨a,ns,k,rfl,_⟩:=h
  rfl
 ·obtain ⟨a,ns,k,rfl,hS,h0,q⟩:=h
  refine ⟨_,(J6 (JZ (Ju J68 (pv 1) (Jk (J0v (K:=K) rfl) rfl tx.J0q PySem.boot_len (J0 (pv 0) J7)) (Jy _)) (Jc (Jn (J15 (J1l (K:=K) rfl) (pv 0) (pv 1) (fun _ _=>rfl)))) Jx)
   (Jc (Jn Ja))),?_⟩
  walk_at "st"
  refine ⟨_,rfl,_,rfl,a,_,rfl,.inl hS,_,_,rfl,rfl,_,rfl,?_⟩
  refine ite2 (fun c=>?_) (fun c=>?_)
  ·have c' : k < ((ns.map V.int).length : Int):=of_decide_eq_true c
   rw [List.length_map] at c'
   obtain ⟨v,hv,_⟩:=J1o (ns.map V.int) k h0 (by rw [List.length_map]; exact c')
   have hv' : ∃ z,v = .int z:=by
    obtain ⟨_,hm⟩:=J1o (ns.map V.int) k h0 (by rw [List.length_map]; exact c')
    rw [hv] at hm
    obtain ⟨e1,e2⟩:=hm
    cases e1
    rw [List.getElem?_map] at e2
    cases h : ns[k.toNat]? with
    | none=>rw [h] at e2; cases e2
    | some z=>rw [h] at e2; exact ⟨z,(Option.some.inj e2).symm⟩
   obtain ⟨z,rfl⟩:=hv'
   exact ⟨_,rfl,_,rfl,a,_,_,_,rfl,rfl,hS,hv,q z⟩
  ·exact q 0
end
theorem newl {H : Hp} {l : Addr} {xs : List V} (h : H l = none) : ∃ H',H' = upd H l (.lst xs) ∧ H' l = some (.lst xs) ∧ Same H H':=⟨_,rfl,Jd,Jz h _⟩
theorem newt {H : Hp} {l : Addr} {xs : List V} (h : H l = none) : ∃ H',H' = upd H l (.tup xs) ∧ H' l = some (.tup xs) ∧ Same H H':=⟨_,rfl,Jd,Jz h _⟩
noncomputable def But (p : Addr) (H H' : Hp) : Prop:=∀ a u,a ≠ p → H a = some u → H' a = some u
noncomputable def JC (ms : List Nat) (rows : List (List Nat)) : List (List Nat):=rows.flatMap fun r=>ms.map fun c=>r ++ [c]
noncomputable def Jw (k : Nat) (l : List Nat) : List Nat:=l.drop (l.length - k)
noncomputable def newF (k : Nat) (st : List (List Nat) × List (List Nat)) (r : List Nat) : List (List Nat) × List (List Nat):=if Jw k r ∈ st.2 then st else (st.1 ++ [r],st.2 ++ [Jw k r])
noncomputable def newS (k : Nat) (rows ts : List (List Nat)) : List (List Nat) × List (List Nat):=rows.foldl (newF k) ([],ts)
noncomputable def J1j (f : List Nat → Bool) (ms : List Nat) (k : Nat) (st : List (List Nat) × List (List Nat)) : List (List Nat) × List (List Nat):=newS k ((JC ms st.1).filter fun r=>!f r) st.2
noncomputable def itA (f : List Nat → Bool) (ms : List Nat) (k : Nat) : Nat → List (List Nat) × List (List Nat)
 | 0=>([[]],[[]])
 | n + 1=>J1j f ms k (itA f ms k n)
noncomputable def kvT (ts : List (List Nat)) : List (Key × V):=ts.map fun t=>(Sum.inr ⟨t.toArray⟩,V.bl true)
theorem J8n (k : Nat) (rows ts : List (List Nat)) (r : List Nat) : newS k (rows ++ [r]) ts = newF k (newS k rows ts) r:=by
 unfold newS
 rw [List.foldl_append]
 rfl
theorem J5g {a b : List Nat} (h : (⟨a.toArray⟩ : Str) = ⟨b.toArray⟩) : a = b:=by
 injection h with h
 simpa using congrArg Array.toList h
theorem J7K (ts : List (List Nat)) (t : List Nat) : (valV (kvT ts) (Sum.inr ⟨t.toArray⟩)).isSome = decide (t ∈ ts):=by
 induction ts with
 | nil=>rfl
 | cons x r ih =>
  by_cases e : x = t
  ·subst e
   rw [show kvT (x :: r) = ((Sum.inr ⟨x.toArray⟩ : Key),V.bl true) :: kvT r from rfl,J2M rfl]
   simp
  ·have ne : ¬ (Sum.inr (⟨x.toArray⟩ : Str) : Key) = Sum.inr ⟨t.toArray⟩:=fun z=>e (J5g (Sum.inr.inj z))
   rw [show kvT (x :: r) = ((Sum.inr ⟨x.toArray⟩ : Key),V.bl true) :: kvT r from rfl,J2G ne,ih]
   have : (t ∈ x :: r) ↔ t ∈ r:=⟨fun h=>(List.mem_cons.mp h).resolve_left fun z=>e z.symm,List.mem_cons_of_mem _⟩
   exact decide_eq_decide.mpr this.symm
theorem Jat {ts : List (List Nat)} {t : List Nat} (h : ¬ t ∈ ts) : putK (kvT ts) (Sum.inr ⟨t.toArray⟩) (V.bl true) = kvT (ts ++ [t]):=by
 have hn : valV (kvT ts) (Sum.inr ⟨t.toArray⟩) = none:=by
  cases hv : valV (kvT ts) (Sum.inr ⟨t.toArray⟩) with
  | none=>rfl
  | some v =>
   have:=J7K ts t
   rw [hv,decide_eq_false h] at this
   cases this
 rw [J9J _ hn]
 unfold kvT
 rw [List.map_append]
 rfl
noncomputable def JW (ms : List Nat) (l : List Nat) : Prop:=∀ c ∈ l,c ∈ ms
theorem J1W (k : Nat) (P : List (List Nat) × List (List Nat) → Prop) (hs : ∀ st r,P st → P (newF k st r)) : ∀ (rows : List (List Nat)) (st : List (List Nat) × List (List Nat)),P st → P (rows.foldl (newF k) st)
 | [],_,h=>h
 | r :: rs,st,h=>J1W k P hs rs _ (hs st r h)
theorem J2p (k : Nat) (P : List (List Nat) × List (List Nat) → Prop) : ∀ (rows : List (List Nat)) (st : List (List Nat) × List (List Nat)),(∀ st r,r ∈ rows → P st → P (newF k st r)) → P st → P (rows.foldl (newF k) st)
 | [],_,_,h=>h
 | r :: rs,st,hs,h=>J2p k P rs _ (fun st x hx=>hs st x (List.mem_cons_of_mem _ hx)) (hs st r List.mem_cons_self h)
theorem J3W {ms : List Nat} {k : Nat} {l : List Nat} (h : JW ms l) : JW ms (Jw k l):=fun c hc=>h c (List.mem_of_mem_drop hc)
theorem J8e (k : Nat) (l : List Nat) : (Jw k l).length ≤ k:=by unfold Jw; rw [List.length_drop]; omega
theorem J3R {α β : Type} (f : α → List β) (n : Nat) : ∀ l : List α,(∀ x ∈ l,(f x).length ≤ n) → (l.flatMap f).length ≤ l.length * n
 | [],_=>Nat.zero_le _
 | x :: l,h=>by
  rw [List.flatMap_cons,List.length_append,List.length_cons,Nat.add_mul,Nat.one_mul]
  have:=J3R f n l fun y hy=>h y (List.mem_cons_of_mem _ hy)
  have:=h x List.mem_cons_self
  omega
theorem J4s {α : Type} [DecidableEq α] : ∀ {l m : List α},l.Nodup → (∀ x ∈ l,x ∈ m) → l.length ≤ m.length
 | [],_,_,_=>Nat.zero_le _
 | x :: l,m,hn,h=>by
  obtain ⟨h1,h2⟩:=List.nodup_cons.mp hn
  have hx:=h x List.mem_cons_self
  have:=J4s (l:=l) (m:=m.erase x) h2 fun y hy=>(List.mem_erase_of_ne (fun z=>h1 (by rw [← z]; exact hy))).mpr (h y (List.mem_cons_of_mem _ hy))
  rw [List.length_erase_of_mem hx] at this
  have : 0 < m.length:=List.length_pos_of_mem hx
  rw [List.length_cons]
  omega
structure ItOk (ms : List Nat) (k : Nat) (st : List (List Nat) × List (List Nat)) : Prop where
 nd : st.2.Nodup
 tl : ∀ t ∈ st.2,JW ms t ∧ t.length ≤ k
 rw : ∀ r ∈ st.1,JW ms r ∧ r.length ≤ st.2.length
 ln : st.1.length ≤ st.2.length
theorem J92 (k : Nat) (st : List (List Nat) × List (List Nat)) (r : List Nat) : (newF k st r).2.length + st.1.length = st.2.length + (newF k st r).1.length:=by
 unfold newF
 split
 ·exact Nat.add_comm _ _ ▸ rfl
 ·simp only [List.length_append,List.length_singleton]; omega
theorem J3F (k : Nat) (rows ts : List (List Nat)) : (newS k rows ts).2.length = ts.length + (newS k rows ts).1.length:=by
 unfold newS
 refine J1W k (fun st=>st.2.length = ts.length + st.1.length) (fun st r h=>?_) rows ([],ts) rfl
 have:=J92 k st r
 omega
theorem ItOk.step {f : List Nat → Bool} {ms : List Nat} {k : Nat} {st : List (List Nat) × List (List Nat)} (h : ItOk ms k st) : ItOk ms k (J1j f ms k st):=by
 have hr : ∀ r ∈ (JC ms st.1).filter fun r=>!f r,JW ms r ∧ r.length ≤ st.2.length + 1:=fun r hr=>by
  have hr:=(List.mem_filter.mp hr).1
  unfold JC at hr
  obtain ⟨r0,h0,hr⟩:=List.mem_flatMap.mp hr
  obtain ⟨c,hc,rfl⟩:=List.mem_map.mp hr
  obtain ⟨o,l⟩:=h.rw r0 h0
  refine ⟨fun x hx=>?_,by rw [List.length_append,List.length_singleton]; omega⟩
  rcases List.mem_append.mp hx with hx | hx
  ·exact o x hx
  ·rw [List.mem_singleton.mp hx]; exact hc
 have key:=J2p k (fun s=>s.2.Nodup ∧ (∀ t ∈ s.2,JW ms t ∧ t.length ≤ k) ∧ (∀ r ∈ s.1,JW ms r ∧ r.length ≤ st.2.length + 1)) ((JC ms st.1).filter fun r=>!f r) ([],st.2) (fun s r hm ⟨a1,a2,a3⟩=>?_) ⟨h.nd,h.tl,fun r hr=>by cases hr⟩
 ·obtain ⟨a1,a2,a3⟩:=key
  have hl:=J3F k ((JC ms st.1).filter fun r=>!f r) st.2
  refine ⟨a1,a2,fun r hr=>?_,?_⟩
  ·obtain ⟨o,l⟩:=a3 r hr
   refine ⟨o,?_⟩
   have hp : 0 < (J1j f ms k st).1.length:=List.length_pos_of_mem hr
   have hl' : (J1j f ms k st).2.length = st.2.length + (J1j f ms k st).1.length:=hl
   omega
  ·have hl' : (J1j f ms k st).2.length = st.2.length + (J1j f ms k st).1.length:=hl
   omega
 ·unfold newF
  obtain ⟨o,l⟩:=hr r hm
  by_cases ht : Jw k r ∈ s.2
  ·rw [if_pos ht]; exact ⟨a1,a2,a3⟩
  ·rw [if_neg ht]
   refine ⟨?_,fun t hx=>?_,fun x hx=>?_⟩
   ·rw [List.nodup_append]
    refine ⟨a1,List.nodup_cons.mpr ⟨by simp,List.nodup_nil⟩,fun a ha b hb=>?_⟩
    rw [List.mem_singleton.mp hb]
    exact fun z=>ht (z ▸ ha)
   ·rcases List.mem_append.mp hx with hx | hx
    ·exact a2 t hx
    ·rw [List.mem_singleton.mp hx]; exact ⟨J3W o,J8e k r⟩
   ·rcases List.mem_append.mp hx with hx | hx
    ·exact a3 x hx
    ·rw [List.mem_singleton.mp hx]; exact ⟨o,l⟩
theorem J7t (f : List Nat → Bool) (ms : List Nat) (k : Nat) : ∀ n,ItOk ms k (itA f ms k n)
 | 0=>⟨List.nodup_cons.mpr ⟨by simp,List.nodup_nil⟩,fun t ht=>by rw [List.mem_singleton.mp ht]; exact ⟨fun c hc=>(by cases hc),Nat.zero_le _⟩,fun r hr=>by rw [List.mem_singleton.mp hr]; exact ⟨fun c hc=>(by cases hc),Nat.zero_le _⟩,Nat.le_refl _⟩
 | n + 1=>(J7t f ms k n).step
theorem J1R {f : List Nat → Bool} {ms : List Nat} {k n : Nat} (h : (itA f ms k n).1 = []) : ∀ m,itA f ms k (n + m) = itA f ms k n
 | 0=>rfl
 | m + 1=>by
  show J1j f ms k (itA f ms k (n + m)) = _
  rw [J1R h m]
  generalize itA f ms k n = st at h
  obtain ⟨a,b⟩:=st
  simp only at h
  subst h
  rfl
theorem J95 {f : List Nat → Bool} {ms : List Nat} {k n m : Nat} (h1 : (itA f ms k n).1 = []) (h2 : (itA f ms k m).1 = []) : (itA f ms k n).2 = (itA f ms k m).2:=by
 rcases Nat.le_total n m with h | h
 ·obtain ⟨d,rfl⟩:=Nat.exists_eq_add_of_le h
  rw [J1R h1 d]
 ·obtain ⟨d,rfl⟩:=Nat.exists_eq_add_of_le h
  rw [J1R h2 d]
theorem J0H {k : Nat} {l : List Nat} (h : l.length ≤ k) : Jw k l = l:=by
 unfold Jw
 rw [Nat.sub_eq_zero_of_le h,List.drop_zero]
theorem J3K {k : Nat} {l : List Nat} (c : Nat) (h : k ≤ l.length) : Jw k l ++ [c] = (l ++ [c]).drop (l.length - k):=by
 unfold Jw
 rw [List.drop_append_of_le_length (by omega)]
theorem J0x (k : Nat) (l : List Nat) (c : Nat) : Jw k (l ++ [c]) = Jw k (Jw k l ++ [c]):=by
 by_cases h : l.length ≤ k
 ·rw [J0H h]
 ·rw [J3K c (by omega)]
  unfold Jw
  rw [List.drop_drop,List.length_drop,List.length_append,List.length_singleton]
  congr 1
  omega
noncomputable def depK (k : Nat) (f : List Nat → Bool) : Prop:=∀ l c,f (l ++ [c]) = f (Jw k l ++ [c])
theorem R.dep {r : R} (hf : r.fine) {k : Nat} (h : r.reach ≤ (k : Int) + 1) : depK k r.bad:=fun l c=>by
 by_cases hl : l.length ≤ k
 ·rw [J0H hl]
 ·rw [J3K c (by omega),R.bad_last r hf (l ++ [c]) (k + 1) (by omega) (by rw [List.length_append,List.length_singleton]; omega)]
  congr 2
  rw [List.length_append,List.length_singleton]
  omega
inductive Cl (f g : List Nat → Bool) (ms : List Nat) : List Nat → Prop
 | nil : Cl f g ms []
 | snoc {l : List Nat} {c : Nat} (h : Cl f g ms l) (hc : c ∈ ms) (hf : f (l ++ [c]) = false) (hg : g (l ++ [c]) = false) : Cl f g ms (l ++ [c])
noncomputable def J1F (f g : List Nat → Bool) (ms : List Nat) (n : Nat) : Prop:=∃ l c,Cl f g ms l ∧ l.length = n ∧ c ∈ ms ∧ f (l ++ [c]) ≠ g (l ++ [c])
noncomputable def J9G (f g : List Nat → Bool) (ms : List Nat) (n : Nat) : Prop:=J1F f g ms n ∧ ∀ m < n,¬ J1F f g ms m
structure BI (f g : List Nat → Bool) (ms : List Nat) (k n : Nat) (rows ts : List (List Nat)) : Prop where
 no : ∀ m < n,¬ J1F f g ms m
 rep : ∀ r ∈ rows,∃ l,Cl f g ms l ∧ l.length = n ∧ Jw k l = Jw k r
 all : ∀ l,Cl f g ms l → l.length ≤ n → Jw k l ∈ ts
 cls : ∀ t ∈ ts,(∃ r ∈ rows,Jw k r = t) ∨ ∀ c ∈ ms,f (t ++ [c]) = g (t ++ [c]) ∧ (f (t ++ [c]) = false → Jw k (t ++ [c]) ∈ ts)
section
variable {f g : List Nat → Bool} {ms : List Nat} {k n : Nat} {rows ts : List (List Nat)}
theorem BI.zero : BI f g ms k 0 [[]] [[]]:=by
 refine ⟨fun m hm=>absurd hm (Nat.not_lt_zero _),fun r hr=>⟨[],.nil,rfl,by rw [List.mem_singleton.mp hr]⟩,fun l _ hl=>?_,fun t ht=>.inl ⟨[],List.mem_singleton_self _,?_⟩⟩
 ·obtain rfl : l = []:=List.length_eq_zero_iff.mp (by omega)
  rw [J0H (Nat.zero_le _)]
  exact List.mem_singleton_self _
 ·rw [List.mem_singleton.mp ht,J0H (Nat.zero_le _)]
theorem BI.part (h : BI f g ms k n rows ts) (df : depK k f) (dg : depK k g) {r : List Nat} {c : Nat} (hr : r ∈ rows) (hc : c ∈ ms) (hd : f (r ++ [c]) ≠ g (r ++ [c])) : J9G f g ms n:=by
 obtain ⟨l,hl,hn,e⟩:=h.rep r hr
 refine ⟨⟨l,c,hl,hn,hc,?_⟩,h.no⟩
 rw [df l c,dg l c,e,← df r c,← dg r c]
 exact hd
theorem BI.step {rows' ts' : List (List Nat)} (h : BI f g ms k n rows ts) (df : depK k f) (dg : depK k g) (hs : ∀ r ∈ rows,∀ c ∈ ms,f (r ++ [c]) = g (r ++ [c])) (hsub : ∀ t ∈ ts,t ∈ ts')
  (hal : ∀ r ∈ rows,∀ c ∈ ms,f (r ++ [c]) = false → Jw k (r ++ [c]) ∈ ts') (hfr : ∀ t ∈ ts',t ∈ ts ∨ ∃ r ∈ rows',Jw k r = t) (hin : ∀ r' ∈ rows',∃ r ∈ rows,∃ c ∈ ms,f (r ++ [c]) = false ∧ Jw k r' = Jw k (r ++ [c])) : BI f g ms k (n + 1) rows' ts':=by
 have key : ∀ l,Cl f g ms l → l.length ≤ n → ∀ c ∈ ms,f (l ++ [c]) = g (l ++ [c]) ∧ (f (l ++ [c]) = false → Jw k (l ++ [c]) ∈ ts'):=fun l hl hn c hc=>by
  rcases h.cls _ (h.all l hl hn) with ⟨r,hr,e⟩ | hcl
  ·rw [df l c,dg l c,J0x,← e,← df r c,← dg r c,← J0x]
   exact ⟨hs r hr c hc,hal r hr c hc⟩
  ·obtain ⟨h1,h2⟩:=hcl c hc
   rw [df l c,dg l c,J0x]
   exact ⟨h1,fun z=>hsub _ (h2 z)⟩
 refine ⟨fun m hm ⟨l,c,hl,hlm,hc,hd⟩=>hd (key l hl (by omega) c hc).1,fun r' hr'=>?_,fun l hl hln=>?_,fun t ht=>?_⟩
 ·obtain ⟨r,hr,c,hc,hf,e⟩:=hin r' hr'
  obtain ⟨l,hl,hn,e2⟩:=h.rep r hr
  have hf' : f (l ++ [c]) = false:=by rw [df l c,e2,← df r c]; exact hf
  refine ⟨l ++ [c],.snoc hl hc hf' ?_,by rw [List.length_append,hn]; rfl,by rw [J0x,e2,← J0x,e]⟩
  rw [← (key l hl (by omega) c hc).1]
  exact hf'
 ·cases hl with
  | nil=>exact hsub _ (h.all [] .nil (Nat.zero_le _))
  | @snoc l c hl hc hf hg=>exact (key l hl (by rw [List.length_append,List.length_singleton] at hln; omega) c hc).2 hf
 ·rcases hfr t ht with h1 | h1
  ·rcases h.cls t h1 with ⟨r,hr,e⟩ | hcl
   ·refine .inr fun c hc=>?_
    have h2:=hs r hr c hc
    have h3:=hal r hr c hc
    rw [df r c,e] at h2 h3
    rw [dg r c,e] at h2
    rw [J0x,e] at h3
    exact ⟨h2,h3⟩
   ·exact .inr fun c hc=>⟨(hcl c hc).1,fun z=>hsub _ ((hcl c hc).2 z)⟩
  ·exact .inl h1
theorem BI.done (h : BI f g ms k n [] ts) (df : depK k f) (dg : depK k g) : ∀ m,¬ J1F f g ms m:=by
 have hcl : ∀ t ∈ ts,∀ c ∈ ms,f (t ++ [c]) = g (t ++ [c]) ∧ (f (t ++ [c]) = false → Jw k (t ++ [c]) ∈ ts):=fun t ht=>(h.cls t ht).resolve_left fun ⟨r,hr,_⟩=>by cases hr
 have hal : ∀ l,Cl f g ms l → Jw k l ∈ ts:=fun l hl=>by
  induction hl with
  | nil=>exact h.all [] .nil (Nat.zero_le _)
  | @snoc l c hl hc hf hg ih =>
   rw [J0x]
   refine (hcl _ ih c hc).2 ?_
   rw [← df l c]
   exact hf
 rintro m ⟨l,c,hl,_,hc,hd⟩
 refine hd ?_
 rw [df l c,dg l c]
 exact (hcl _ (hal l hl) c hc).1
end
theorem J3H (k : Nat) : ∀ (rows : List (List Nat)) (st : List (List Nat) × List (List Nat)) (t : List Nat),t ∈ st.2 → t ∈ (rows.foldl (newF k) st).2
 | [],_,_,h=>h
 | r :: rs,st,t,h=>J3H k rs _ t (by unfold newF; split; exact h; exact List.mem_append_left _ h)
theorem J6q (k : Nat) : ∀ (rows : List (List Nat)) (st : List (List Nat) × List (List Nat)) (x : List Nat),x ∈ rows → Jw k x ∈ (rows.foldl (newF k) st).2
 | r :: rs,st,x,h=>by
  rcases List.mem_cons.mp h with rfl | h
  ·refine J3H k rs _ _ ?_
   unfold newF
   split
   ·assumption
   ·exact List.mem_append_right _ (List.mem_singleton_self _)
  ·exact J6q k rs _ x h
theorem J4G (k : Nat) (rows ts : List (List Nat)) : ∀ t ∈ (newS k rows ts).2,t ∈ ts ∨ ∃ r ∈ (newS k rows ts).1,Jw k r = t:=by
 unfold newS
 refine J1W k (fun st=>∀ t ∈ st.2,t ∈ ts ∨ ∃ r ∈ st.1,Jw k r = t) (fun st r h=>?_) rows ([],ts) fun t ht=>.inl ht
 unfold newF
 split
 ·exact h
 ·intro t ht
  rcases List.mem_append.mp ht with ht | ht
  ·rcases h t ht with z | ⟨x,hx,e⟩
   ·exact .inl z
   ·exact .inr ⟨x,List.mem_append_left _ hx,e⟩
  ·exact .inr ⟨r,List.mem_append_right _ (List.mem_singleton_self _),(List.mem_singleton.mp ht).symm⟩
theorem J3a (k : Nat) (rows ts : List (List Nat)) : ∀ r ∈ (newS k rows ts).1,r ∈ rows:=by
 unfold newS
 refine J2p k (fun st=>∀ r ∈ st.1,r ∈ rows) rows ([],ts) (fun st r hr h=>?_) (fun r hr=>by cases hr)
 unfold newF
 split
 ·exact h
 ·intro x hx
  rcases List.mem_append.mp hx with hx | hx
  ·exact h x hx
  ·rw [List.mem_singleton.mp hx]; exact hr
theorem JK {ms : List Nat} {rows : List (List Nat)} {x : List Nat} : x ∈ JC ms rows ↔ ∃ r ∈ rows,∃ c ∈ ms,x = r ++ [c]:=by
 unfold JC
 rw [List.mem_flatMap]
 refine ⟨fun ⟨r,hr,hx⟩=>?_,fun ⟨r,hr,c,hc,e⟩=>⟨r,hr,List.mem_map.mpr ⟨c,hc,e.symm⟩⟩⟩
 obtain ⟨c,hc,e⟩:=List.mem_map.mp hx
 exact ⟨r,hr,c,hc,e.symm⟩
theorem BI.go {f g : List Nat → Bool} {ms : List Nat} {k n : Nat} {rows ts : List (List Nat)} (h : BI f g ms k n rows ts) (df : depK k f) (dg : depK k g) (hs : ∀ x ∈ JC ms rows,f x = g x) : BI f g ms k (n + 1) (newS k ((JC ms rows).filter fun x=>!f x) ts).1 (newS k ((JC ms rows).filter fun x=>!f x) ts).2:=by
 refine h.step df dg (fun r hr c hc=>hs _ (JK.mpr ⟨r,hr,c,hc,rfl⟩)) (fun t ht=>J3H k _ ([],ts) t ht) (fun r hr c hc hf=>J6q k _ ([],ts) _ (List.mem_filter.mpr ⟨JK.mpr ⟨r,hr,c,hc,rfl⟩,by rw [hf]; rfl⟩)) (J4G k _ ts) fun r' hr'=>?_
 obtain ⟨h1,h2⟩:=List.mem_filter.mp (J3a k _ ts r' hr')
 obtain ⟨r,hr,c,hc,rfl⟩:=JK.mp h1
 exact ⟨r,hr,c,hc,by simpa using h2,rfl⟩
noncomputable def J84 : Sp:=fun vs H Q _=>∃ (rl : Addr) (rows : List (List Nat)) (ms : List Nat),vs = [.ref rl,T ms] ∧ H rl = some (.lst (rows.map T)) ∧ rows.length ≤ 400 ∧ (∀ r ∈ rows,r.length ≤ 400) ∧ ms.length ≤ 8 ∧ ∀ D H',H D = none → Same H H' → H' D = some (.lst ((JC ms rows).map T)) → Q (.ref D) H'
noncomputable def J9T : Sp:=fun vs H Q _=>∃ (rl D : Addr) (rows ts : List (List Nat)) (k : Nat),vs = [.ref rl,.int (k : Int),.ref D] ∧ H rl = some (.lst (rows.map T)) ∧ H D = some (.dK (kvT ts)) ∧ rows.length ≤ 3200 ∧ (∀ r ∈ rows,r.length ≤ 401) ∧ ts.length ≤ 400 ∧
 ∀ N H',H N = none → But D H H' → H' N = some (.lst ((newS k rows ts).1.map T)) → H' D = some (.dK (kvT (newS k rows ts).2)) → Q (.ref N) H'
noncomputable def kept (a b : R) : Nat:=((if b.reach > a.reach then b.reach else a.reach) - 1).toNat
noncomputable def alT : List Nat:=[97,108,105,107,101]
theorem J8g {α β : Type} (f : α → List β) (l : List α) {i : Nat} {x : α} (h : l[i]? = some x) : (l.take (i + 1)).flatMap f = (l.take i).flatMap f ++ f x:=by
 rw [List.take_add_one,h,List.flatMap_append]
 show _ ++ (f x ++ []) = _
 rw [List.append_nil]
theorem J6A {α : Type} (p : α → Bool) (l : List α) {i : Nat} {x : α} (h : l[i]? = some x) : (l.take (i + 1)).filter p = (l.take i).filter p ++ (if p x = true then [x] else []):=by
 rw [List.take_add_one,h,List.filter_append]
 show _ ++ ([x].filter p) = _
 rw [List.filter_cons,List.filter_nil]
theorem J8W {rows : List (List Nat)} {i : Nat} {x : V} (h : (rows.map T)[i]? = some x) : ∃ r,rows[i]? = some r ∧ x = T r:=by
 rw [List.getElem?_map] at h
 cases hr : rows[i]? with
 | none=>rw [hr] at h; cases h
 | some r=>rw [hr] at h; exact ⟨r,rfl,(Option.some.inj h).symm⟩
section
variable {P : Program} {w : World} {K : PySem.W.Frag} {mg : Str → Option Value} {base : Heap} {J5 J9 J4 Jb Je J2 J1 J8 : Addr}
theorem J4g (tx : Tx K mg J5 J9 J4 Jb Je J2 J1 J8) : FnG P w K mg base "longer_rows" 1 ["rows","marks"] J84:=by
 refine tx.J45.g J0L (fun _ _ _ _ _ _ us hl=>match us,hl with | [_,_],_=>rfl) (fun vs H Q E h=>?_) (fun f cdv A outer s H vs Q E hr h=>?_)
 ·obtain ⟨rl,rows,ms,rfl,_⟩:=h
  rfl
 ·obtain ⟨rl,rows,ms,rfl,h1,hl,hrl,hm,q⟩:=h
  refine ⟨_,(J6 (Jm (i:=2) J0L.nd rfl (Or.inl rfl) (J3N J7))
   (J6 (J1H PassesOwn.never rfl (J3S (K:=K) rfl (pv 0)) (JH (i:=3) J0L.nd rfl (Or.inr rfl)) (Jc (Jba (i:=2) J0L.nd rfl (Or.inl rfl) (J3d (osc:=J3 JV) (ON:=["rows","marks","longer","row"]) (N:=["mark","row"]) (js:=[none,some 3]) ⟨rfl,by decide +kernel,by decide +kernel,by decide +kernel,rfl,by decide +kernel⟩ rfl rfl rfl (J5s (pv 1)) (fun _ _ _ _ _=>JH (i:=0) (show List.Nodup (["mark","row"] : List Str) from by decide +kernel) rfl (Or.inl rfl)) (fun _ _ _ _ _=>J3V) (fun _ _ _ _ _=>(Jh J20 (pv 1) (pv 0)))) Jal)))
   (Jc (Jn (pv 2))))),?_⟩
  walk_at "st"
  walk_at "rd"
  intro D nD
  obtain ⟨H1,e1,hD,s1⟩:=newl (xs:=[]) nD
  rw [← e1]
  have h11:=s1 _ _ h1
  walk_at "rd"
  refine J3G (K:=K) (xs:=rows.map T) (fun i σ H2=>Here (∃ v,σ = [some (.ref rl),some (T ms),some (.ref D),v] ∧ H2 D = some (.lst (((rows.take i).flatMap fun r=>ms.map fun c=>r ++ [c]).map T)) ∧ Same H H2)) (Here.mk ⟨none,rfl,hD,s1⟩) (fun i σ H2 _ hv=>by obtain ⟨_,_,_,s2⟩:=hv.out; exact SqL.of (s2 _ _ h1)) ?_ ?_
  ·rintro i x σ H2 hx hv
   obtain ⟨v,rfl,hD2,s2⟩:=hv.out
   obtain ⟨r,hr1,rfl⟩:=J8W hx
   have hrr:=hrl r (List.mem_of_getElem? hr1)
   have hfl : ((((rows.take i).flatMap fun r=>ms.map fun c=>r ++ [c]).map T).length) ≤ 3200:=by
    rw [List.length_map]
    have:=J3R (fun r : List Nat=>ms.map fun c=>r ++ [c]) 8 (rows.take i) fun x _=>by rw [List.length_map]; exact hm
    rw [List.length_take] at this
    have h3 : min i rows.length * 8 ≤ 400 * 8:=Nat.mul_le_mul_right 8 (by omega)
    omega
   walk_at "rd"
   refine J69 (fun x=>match x with | .str ⟨⟨l⟩⟩=>T (r ++ l) | v=>v) (J24 ms) (by rw [List.length_map]; omega) (fun x hm' H' s' R hR=>?_) (fun D2 H3 nD2 s3 hD3=>?_)
   ·obtain ⟨c,hc,rfl⟩:=List.mem_map.mp hm'
    walk_at "rd"
    exact hR H' (Same.refl _)
   have hD2':=s3 _ _ hD2
   have e3 : ((ms.map fun c=>T [c]).map fun x=>match x with | .str ⟨⟨l⟩⟩=>T (r ++ l) | v=>v) = (ms.map fun c=>r ++ [c]).map T:=by
    rw [List.map_map,List.map_map]
    rfl
   rw [e3] at hD3
   have hl3 : ((ms.map fun c=>r ++ [c]).map T).length ≤ 8:=by rw [List.length_map,List.length_map]; exact hm
   walk_at "rd"
   refine Here.mk ⟨some (T r),rfl,?_,(s2.trans s3).upd nD⟩
   rw [Jd,J8g _ _ hr1,List.map_append]
  ·rintro σ H2 hv
   obtain ⟨v,rfl,hD2,s2⟩:=hv.out
   rw [List.length_map,List.take_of_length_le (Nat.le_refl _)] at hD2
   walk_at "rd"
   exact q D H2 nD s2 hD2
theorem J27 (tx : Tx K mg J5 J9 J4 Jb Je J2 J1 J8) : FnG P w K mg base "rows_of_new_tails" 2 ["rows","kept","tails"] J9T:=by
 have J01:=J19 (P:=P) (w:=w) (base:=base) tx
 refine tx.J26.g JP (fun _ _ _ _ _ _ us hl=>match us,hl with | [_,_,_],_=>rfl) (fun vs H Q E h=>?_) (fun f cdv A outer s H vs Q E hr h=>?_)
 ·obtain ⟨rl,D,rows,ts,k,rfl,_⟩:=h
  rfl
 ·obtain ⟨rl,D,rows,ts,k,rfl,h1,hD,hl,hrl,htl,q⟩:=h
  refine ⟨_,(J6 (Jm (i:=3) JP.nd rfl (Or.inl rfl) (J3N J7))
   (J6 (J1H PassesOwn.never rfl (J3S (K:=K) rfl (pv 0)) (JH (i:=4) JP.nd rfl (Or.inl rfl)) (J6 (Jm (i:=5) JP.nd rfl (Or.inl rfl) (JD J01 (hr.mono (by decide)) (J0 (pv 4) (J0 (pv 1) J7))))
   (Jc (JZ (JaR (J8t (JaK hr) (pv 5) (pv 2)) rfl) (J6 (Ja9 (JaK hr) (pv 2) (pv 5) J33 rfl)
   (Jc (J38 (J7C PySem.F.plainAttrs_list PySem.F.slot_list_append PySem.F.type_list_append J1d (pv 3) (J0 (pv 4) J7))))) Jx))))
   (Jc (Jn (pv 3))))),?_⟩
  walk_at "st"
  walk_at "rd"
  intro N nN
  have nDN : D ≠ N:=Jo hD nN
  obtain ⟨H1,e1,hN,s1⟩:=newl (xs:=[]) nN
  rw [← e1]
  have h11:=s1 _ _ h1
  walk_at "rd"
  refine J3G (K:=K) (xs:=rows.map T) (fun i σ H2=>Here (∃ v1 v2,σ = [some (.ref rl),some (.int (k : Int)),some (.ref D),some (.ref N),v1,v2] ∧ H2 N = some (.lst ((newS k (rows.take i) ts).1.map T)) ∧ H2 D = some (.dK (kvT (newS k (rows.take i) ts).2)) ∧ But D H H2)) (Here.mk ⟨none,none,rfl,hN,s1 _ _ hD,fun a u _ e=>s1 a u e⟩) (fun i σ H2 _ hv=>by obtain ⟨_,_,_,_,_,s2⟩:=hv.out; exact SqL.of (s2 _ _ (JaH h1 hD (fun z=>by cases z)) h1)) ?_ ?_
  ·rintro i x σ H2 hx hv
   obtain ⟨v1,v2,rfl,hN2,hD2,s2⟩:=hv.out
   obtain ⟨r,hr1,rfl⟩:=J8W hx
   have hrr:=hrl r (List.mem_of_getElem? hr1)
   have htk : newS k (rows.take (i + 1)) ts = newF k (newS k (rows.take i) ts) r:=by rw [List.take_add_one,hr1]; exact J8n _ _ _ _
   have hln:=J3F k (rows.take i) ts
   have hlk : (newS k (rows.take i) ts).1.length ≤ 3200:=by
    have h3:=J1W k (fun st=>True) (fun _ _ _=>trivial) (rows.take i) ([],ts) trivial
    have h4 : ∀ (l : List (List Nat)) (st : List (List Nat) × List (List Nat)),(l.foldl (newF k) st).1.length ≤ st.1.length + l.length:=by
     intro l
     induction l with
     | nil=>intro st; exact Nat.le_refl _
     | cons x l ih =>
      intro st
      refine Nat.le_trans (ih _) ?_
      have : (newF k st x).1.length ≤ st.1.length + 1:=by
       unfold newF
       split
       ·omega
       ·rw [List.length_append,List.length_singleton]; omega
      rw [List.length_cons]
      omega
    have:=h4 (rows.take i) ([],ts)
    rw [List.length_take] at this
    have h5 : (newS k (rows.take i) ts).1.length ≤ 0 + min i rows.length:=this
    omega
   generalize newS k (rows.take i) ts = st at htk hln hN2 hD2 hlk
   have ek : r.drop (r.length - ((k : Int)).toNat) = Jw k r:=by rw [Int.toNat_natCast]; rfl
   have hg : DGet H2 D (T (r.drop (r.length - ((k : Int)).toNat))) (valV (kvT st.2) (Sum.inr ⟨(Jw k r).toArray⟩)):=by rw [ek]; exact DGet.k (k:=Sum.inr ⟨(Jw k r).toArray⟩) hD2
   have hkl : (kvT st.2).length < sizeLine:=by
    unfold kvT
    rw [List.length_map]
    exact Nat.lt_of_lt_of_le (show st.2.length < 4000 by omega) (by decide)
   have hp : DPut H2 D (T (r.drop (r.length - ((k : Int)).toNat))) (.bl true) (upd H2 D (.dK (putK (kvT st.2) (Sum.inr ⟨(Jw k r).toArray⟩) (.bl true)))):=by rw [ek]; exact DPut.k (k:=Sum.inr ⟨(Jw k r).toArray⟩) hD2 hkl
   have hN3 : upd H2 D (.dK (putK (kvT st.2) (Sum.inr ⟨(Jw k r).toArray⟩) (.bl true))) N = some (.lst (st.1.map T)):=by rw [Jq nDN.symm]; exact hN2
   have hl3 : (st.1.map T).length ≤ 4000:=by rw [List.length_map]; omega
   walk_at "rd"
   rw [J7K]
   refine ite2 (fun z=>?_) (fun z=>?_)
   ·have z' : ¬ Jw k r ∈ st.2:=fun y=>by rw [decide_eq_true y] at z; cases z
    walk_at "rd"
    have e : newF k st r = (st.1 ++ [r],st.2 ++ [Jw k r]):=by unfold newF; rw [if_neg z']
    rw [Jat z'] at hN3 ⊢
    refine Here.mk ⟨_,_,rfl,?_,?_,fun a u na ea=>?_⟩
    ·rw [Jd,htk,e,List.map_append]; rfl
    ·rw [Jq nDN,Jd,htk,e]
    ·rw [Jq (Jo ea nN),Jq na]; exact s2 a u na ea
   ·have z' : Jw k r ∈ st.2:=Decidable.byContradiction fun y=>z (by rw [decide_eq_false y]; rfl)
    walk_at "rd"
    have e : newF k st r = st:=by unfold newF; rw [if_pos z']
    exact Here.mk ⟨_,_,rfl,by rw [htk,e]; exact hN2,by rw [htk,e]; exact hD2,s2⟩
  ·rintro σ H2 hv
   obtain ⟨v1,v2,rfl,hN2,hD2,s2⟩:=hv.out
   rw [List.length_map,List.take_of_length_le (Nat.le_refl _)] at hN2 hD2
   walk_at "rd"
   exact q N H2 nN s2 hN2 hD2
end
noncomputable def paT : List Nat:=[112,97,114,116,101,100]
structure CR (f g : List Nat → Bool) (ms : List Nat) (k : Nat) (rows ts : List (List Nat)) : Prop where
 r : ∀ r ∈ rows,Cl f g ms r
 t : ∀ t ∈ ts,∃ l,Cl f g ms l ∧ Jw k l = t
theorem CR.zero {f g : List Nat → Bool} {ms : List Nat} {k : Nat} : CR f g ms k [[]] [[]]:=by
 refine ⟨fun r hr=>?_,fun t ht=>⟨[],.nil,?_⟩⟩
 ·rw [List.mem_singleton.mp hr]; exact .nil
 ·rw [List.mem_singleton.mp ht,J0H (Nat.zero_le _)]
theorem CR.go {f g : List Nat → Bool} {ms : List Nat} {k : Nat} {rows ts : List (List Nat)} (h : CR f g ms k rows ts) (hs : ∀ x ∈ JC ms rows,f x = g x) : CR f g ms k (newS k ((JC ms rows).filter fun x=>!f x) ts).1 (newS k ((JC ms rows).filter fun x=>!f x) ts).2:=by
 have hr : ∀ r ∈ (newS k ((JC ms rows).filter fun x=>!f x) ts).1,Cl f g ms r:=fun r hr=>by
  obtain ⟨h1,h2⟩:=List.mem_filter.mp (J3a k _ ts r hr)
  have h3:=hs r h1
  obtain ⟨r0,h0,c,hc,rfl⟩:=JK.mp h1
  have hf : f (r0 ++ [c]) = false:=by simpa using h2
  exact .snoc (h.r r0 h0) hc hf (by rw [← h3]; exact hf)
 refine ⟨hr,fun t ht=>?_⟩
 rcases J4G k _ ts t ht with z | ⟨r,h1,e⟩
 ·exact h.t t z
 ·exact ⟨r,hr r h1,e⟩
noncomputable def J74 (c6 : Cs) (CT : Addr) : Sp:=fun vs H Q E=>∃ (pa pb : Addr) (a b : R) (ms : List Nat),vs = [.ref pa,.ref pb,T ms] ∧ Jr c6 H a pa ∧ Jr c6 H b pb ∧ a.fine ∧ b.fine ∧ a.noE ∧ b.noE ∧ a.depth ≤ 20 ∧ b.depth ≤ 20 ∧ ms.length ≤ 8 ∧
 (∀ (t : Addr) (l : List Nat) (c n : Nat) H',H t = none → Same H H' → H' t = some (.tup [T paT,T (l ++ [c])]) → l.length = n → l.length ≤ 400 → Cl a.bad b.bad ms l → c ∈ ms → a.bad (l ++ [c]) ≠ b.bad (l ++ [c]) → J9G a.bad b.bad ms n → (∀ m,m ≤ n → (itA a.bad ms (kept a b) m).2.length ≤ 400) → Q (.ref t) H') ∧
 (∀ (n : Nat) H',Same H H' → (∀ m,m ≤ n → ¬ J1F a.bad b.bad ms m) → 400 < (itA a.bad ms (kept a b) (n + 1)).2.length → (∀ m,m ≤ n → (itA a.bad ms (kept a b) m).2.length ≤ 400) → E (.ref CT) none H') ∧
 (∀ (t l : Addr) (n : Nat) H' ss,H t = none → H l = none → t ≠ l → Same H H' → H' t = some (.tup [T alT,.ref l]) → H' l = some (.lst (ss.map V.str)) → ss.Perm ((itA a.bad ms (kept a b) n).2.map fun t=>(⟨t.toArray⟩ : Str)) → PyProof.Rows.sortedS ss = true → (itA a.bad ms (kept a b) n).1 = [] → (∀ m,m ≤ n → (itA a.bad ms (kept a b) m).2.length ≤ 400) → (∀ n,¬ J1F a.bad b.bad ms n) → Q (.ref t) H')
section
variable {P : Program} {w : World} {K : PySem.W.Frag} {mg : Str → Option Value} {base : Heap} {J5 J9 J4 Jb Je J2 J1 J8 : Addr}
theorem J7x (tx : Tx K mg J5 J9 J4 Jb Je J2 J1 J8) : FnX P w K mg base "alike" 30 ["rule","other","marks"] (J74 (cs6 J5 J9 J4 Jb Je J2 J1 J8) J1):=by
 have J2c:=J4g (P:=P) (w:=w) (base:=base) tx
 have J18:=J27 (P:=P) (w:=w) (base:=base) tx
 refine tx.J9U.x J11 (fun _ _ _ _ _ _ us hl=>match us,hl with | [_,_,_],_=>rfl) (fun vs H Q E h=>?_) (fun f cdv A outer s H vs Q E hr h=>?_)
 ·obtain ⟨pa,pb,a,b,ms,rfl,_⟩:=h
  rfl
 ·obtain ⟨pa,pb,a,b,ms,rfl,ha,hb,fa,fb,ea,eb,da,db,hm,q1,qw,q2⟩:=h
  refine ⟨_,(J6 (Jm (i:=3) J11.nd rfl (Or.inl rfl) (Jh J1t (Jk (J0W rfl) rfl tx.J1L J2r (J0 (J2L (P:=P) (w:=w) (K:=K) (mg:=mg) (base:=base) hr (pv 0) rfl rfl rfl rfl rfl) (J0 (J2L (P:=P) (w:=w) (K:=K) (mg:=mg) (base:=base) hr (pv 1) rfl rfl rfl rfl rfl) J7))) Ja))
   (J6 (Jm (i:=4) J11.nd rfl (Or.inl rfl) (Ja2 (J9P (JM (l:=[]) (by decide +kernel)) J33 Jai) rfl rfl (by simp) (by decide)))
   (J6 (Jm (i:=5) J11.nd rfl (Or.inl rfl) (J3N (J0 (JM (l:=[]) (by decide +kernel)) J7)))
   (J6 (J9c J9j.own (J98 (pv 5) (fun _=>rfl)) (J6 (Jm (i:=6) J11.nd rfl (Or.inl rfl) (J3N J7))
   (J6 (J1H J9j.own rfl (J3S (K:=K) rfl (JD J2c (hr.mono (by decide)) (J0 (pv 5) (J0 (pv 2) J7)))) (JH (i:=7) J11.nd rfl (Or.inl rfl)) (J6 (Jm (i:=8) J11.nd rfl (Or.inl rfl) (J3O (P:=P) (w:=w) (K:=K) (mg:=mg) (base:=base) hr (pv 0) (J0 (pv 7) J7) rfl rfl rfl rfl rfl))
   (J6 (JZ (Ju JaE (pv 8) (J3O (P:=P) (w:=w) (K:=K) (mg:=mg) (base:=base) hr (pv 1) (J0 (pv 7) J7) rfl rfl rfl rfl rfl) (Jy _)) (Jc (Jn (J1Q (J0 (JM (l:=[112,97,114,116,101,100]) (by decide +kernel)) (J0 (pv 7) J7))))) Jx)
   (Jc (JZ (J9d (J7g (pv 8))) (Jc (J38 (J7C PySem.F.plainAttrs_list PySem.F.slot_list_append PySem.F.type_list_append J1d (pv 6) (J0 (pv 7) J7)))) Jx)))))
   (J6 (Jm (i:=5) J11.nd rfl (Or.inl rfl) (JD J18 (hr.mono (by decide)) (J0 (pv 6) (J0 (pv 3) (J0 (pv 4) J7)))))
   (Jc (JZ (Ju J4F (Jk J8p rfl tx.J0q PySem.boot_len (J0 (pv 4) J7)) (J9m rfl tx.J0K) (Jy _)) (Jc (J9q J9j tx.J1f tx.J4n (J0 (JM (l:=[116,104,101,114,101,32,97,114,101,32,116,111,111,32,109,97,110,121,32,116,97,105,108,115]) (by decide +kernel)) J7))) Jx))))))
   (Jc (Jn (J1Q (J0 (JM (l:=[97,108,105,107,101]) (by decide +kernel)) (J0 (Jk (J4k rfl) rfl tx.J1N J8E (J0 (pv 4) J7)) J7))))))))),?_⟩
  walk_at "st"
  clear J2c J18
  obtain ⟨dxa,fsa,oa,na1,na2,_⟩:=ha.obj
  obtain ⟨dxb,fsb,ob,nb1,nb2,_⟩:=hb.obj
  have Fa:=J5z (P:=P) (w:=w) (base:=base) tx a ea
  have Fb:=J5z (P:=P) (w:=w) (base:=base) tx b eb
  have Ba:=J5W (P:=P) (w:=w) (base:=base) tx a ea
  have Bb:=J5W (P:=P) (w:=w) (base:=base) tx b eb
  have wa:=R.far17 fa
  have wb:=R.far17 fb
  have ek : ((if b.reach > a.reach then b.reach else a.reach) - 1 : Int) = ((kept a b : Nat) : Int):=by
   unfold kept
   rw [Int.toNat_of_nonneg (by split <;> omega)]
  have dfa : depK (kept a b) a.bad:=R.dep fa (by rw [← ek]; split <;> omega)
  have dfb : depK (kept a b) b.bad:=R.dep fb (by rw [← ek]; split <;> omega)
  have dK1 : 1 + a.depth ≤ 29:=by omega
  have dK2 : 1 + b.depth ≤ 29:=by omega
  have dK3 : 5 + a.depth ≤ 29:=by omega
  have dK4 : 5 + b.depth ≤ 29:=by omega
  walk_at "rd"
  intro D nD
  refine ⟨Jd,[(Sum.inr ⟨#[]⟩,.bl true)],rfl,(by decide),?_⟩
  obtain ⟨H1,e1⟩ : ∃ H1,H1 = upd (upd H D (.dK [])) D (.dK (J2U [] [(Sum.inr ⟨#[]⟩,.bl true)])):=⟨_,rfl⟩
  rw [← e1]
  have hD1 : H1 D = some (.dK (kvT [[]])):=by rw [e1,Jd]; rfl
  have s1 : Same H H1:=by rw [e1]; exact (Jz nD _).upd nD
  clear e1
  walk_at "rd"
  intro rl nrl
  obtain ⟨H2,e2,hrl,s2⟩:=newl (xs:=[T []]) nrl
  rw [← e2]
  refine ⟨fun m σ H'=>Here (∃ n r v1 v2 v3,σ = [some (.ref pa),some (.ref pb),some (T ms),some (.int (kept a b : Nat)),some (.ref D),some (.ref r),v1,v2,v3] ∧ H' D = some (.dK (kvT (itA a.bad ms (kept a b) n).2)) ∧ H' r = some (.lst ((itA a.bad ms (kept a b) n).1.map T)) ∧ Same H H' ∧ BI a.bad b.bad ms (kept a b) n (itA a.bad ms (kept a b) n).1 (itA a.bad ms (kept a b) n).2 ∧ CR a.bad b.bad ms (kept a b) (itA a.bad ms (kept a b) n).1 (itA a.bad ms (kept a b) n).2 ∧ (∀ x ∈ (itA a.bad ms (kept a b) n).1,x.length = n) ∧ (∀ m,m ≤ n → (itA a.bad ms (kept a b) m).2.length ≤ 400) ∧ m = (400 - (itA a.bad ms (kept a b) n).2.length) + (if (itA a.bad ms (kept a b) n).1 = [] then 0 else 1)),⟨_,Here.mk ⟨0,rl,none,none,none,?_,s2 _ _ hD1,hrl,s1.trans s2,BI.zero,CR.zero,(fun x hx=>by rw [List.mem_singleton.mp hx]; rfl),(fun m hm=>by rw [Nat.le_zero.mp hm]; exact (by decide : (1 : Nat) ≤ 400)),rfl⟩⟩,?_⟩
  ·exact congrArg (fun z=>[some (.ref pa),some (.ref pb),some (T ms),some (.int z),some (.ref D),some (.ref rl),none,none,none]) ek
  rintro m σ H3 hv
  obtain ⟨n,r,v1,v2,v3,rfl,hD3,hr3,s3,hBI,hCR,hLn,hW,rfl⟩:=hv.out
  have hok:=J7t a.bad ms (kept a b) n
  have hstep : itA a.bad ms (kept a b) (n + 1) = J1j a.bad ms (kept a b) (itA a.bad ms (kept a b) n):=rfl
  have hokS:=J7t a.bad ms (kept a b) (n + 1)
  have hle:=hW n (Nat.le_refl _)
  refine ⟨_,rfl,_,Or.inl ⟨_,SqL.of hr3,rfl⟩,?_⟩
  by_cases he : (itA a.bad ms (kept a b) n).1 = []
  ·have hf : (!((itA a.bad ms (kept a b) n).1.map T).isEmpty) = false:=by rw [he]; rfl
   rw [hf]
   have hks : (kvT (itA a.bad ms (kept a b) n).2).map (·.1) = ((itA a.bad ms (kept a b) n).2.map fun t=>(⟨t.toArray⟩ : Str)).map Sum.inr:=by
    unfold kvT
    rw [List.map_map,List.map_map]
    rfl
   have hsl : ((itA a.bad ms (kept a b) n).2.map fun t=>(⟨t.toArray⟩ : Str)).length ≤ 100000:=by rw [List.length_map]; omega
   walk_at "rd"
   intro l ss nl hp hs
   obtain ⟨H4,e4,hl4,s4⟩:=newl (xs:=ss.map V.str) nl
   rw [← e4]
   walk_at "rd"
   intro t nt
   rw [he] at hBI hCR
   have s5 : Same H4 (upd H4 t (.tup [T alT,.ref l])):=Jz nt _
   exact q2 t l n _ ss ((s3.trans s4).free nt) (s3.free nl) (Jo hl4 nt).symm ((s3.trans s4).trans s5) Jd (s5 _ _ hl4) hp hs he hW (hBI.done dfa dfb)
  ·have hf : (!((itA a.bad ms (kept a b) n).1.map T).isEmpty) = true:=by
    cases h : (itA a.bad ms (kept a b) n).1 with
    | nil=>exact absurd h he
    | cons _ _=>rfl
   rw [hf]
   refine ⟨fun σ' H'=>Here (∃ r v1 v2 v3,σ' = [some (.ref pa),some (.ref pb),some (T ms),some (.int (kept a b : Nat)),some (.ref D),some (.ref r),v1,v2,v3] ∧ H' D = some (.dK (kvT (itA a.bad ms (kept a b) (n + 1)).2)) ∧ H' r = some (.lst ((itA a.bad ms (kept a b) (n + 1)).1.map T)) ∧ Same H H' ∧ BI a.bad b.bad ms (kept a b) (n + 1) (itA a.bad ms (kept a b) (n + 1)).1 (itA a.bad ms (kept a b) (n + 1)).2 ∧ CR a.bad b.bad ms (kept a b) (itA a.bad ms (kept a b) (n + 1)).1 (itA a.bad ms (kept a b) (n + 1)).2 ∧ (∀ x ∈ (itA a.bad ms (kept a b) (n + 1)).1,x.length = n + 1) ∧ (∀ m,m ≤ n + 1 → (itA a.bad ms (kept a b) m).2.length ≤ 400)),fun σ' H' h'=>?_,?_⟩
   ·obtain ⟨r',u1,u2,u3,rfl,k1,k2,k3,k4,k4',k5,k6⟩:=h'.out
    refine ⟨_,?_,Here.mk ⟨n + 1,r',u1,u2,u3,rfl,k1,k2,k3,k4,k4',k5,k6,rfl⟩⟩
    have hl : (itA a.bad ms (kept a b) (n + 1)).2.length = (itA a.bad ms (kept a b) n).2.length + (itA a.bad ms (kept a b) (n + 1)).1.length:=J3F _ _ _
    rw [if_neg he]
    by_cases h0 : (itA a.bad ms (kept a b) (n + 1)).1 = []
    ·rw [if_pos h0]
     rw [h0] at hl
     have : (itA a.bad ms (kept a b) (n + 1)).2.length = (itA a.bad ms (kept a b) n).2.length:=hl
     have:=k6 (n + 1) (Nat.le_refl _)
     omega
    ·rw [if_neg h0]
     have:=k6 (n + 1) (Nat.le_refl _)
     have : 0 < (itA a.bad ms (kept a b) (n + 1)).1.length:=List.length_pos_iff.mpr h0
     omega
   have hr1 : (itA a.bad ms (kept a b) n).1.length ≤ 400:=by have:=hok.ln; omega
   have hr2 : ∀ x ∈ (itA a.bad ms (kept a b) n).1,x.length ≤ 400:=fun x hx=>by have:=(hok.rw x hx).2; omega
   generalize itA a.bad ms (kept a b) n = st at *
   walk_at "rd"
   intro g ng
   obtain ⟨H4,e4,hg,s4⟩:=newl (xs:=[]) ng
   rw [← e4]
   have hr4:=s4 _ _ hr3
   walk_at "rd"
   intro D5 H5 nD5 s5 hD5
   have lL : (JC ms st.1).length ≤ 3200:=by
    have h1:=J3R (fun r : List Nat=>ms.map fun c=>r ++ [c]) 8 st.1 fun x _=>by rw [List.length_map]; exact hm
    have h3 : st.1.length * 8 ≤ 400 * 8:=Nat.mul_le_mul_right 8 hr1
    exact Nat.le_trans h1 (by omega)
   have lR : ∀ x ∈ JC ms st.1,x.length ≤ 401:=fun x hx=>by
    unfold JC at hx
    obtain ⟨r0,h0,hx⟩:=List.mem_flatMap.mp hx
    obtain ⟨c,hc,rfl⟩:=List.mem_map.mp hx
    have:=hr2 r0 h0
    rw [List.length_append,List.length_singleton]
    omega
   have hS0 : J1j a.bad ms (kept a b) st = newS (kept a b) ((JC ms st.1).filter fun r=>!a.bad r) st.2:=rfl
   have hPart : ∀ x ∈ JC ms st.1,a.bad x ≠ b.bad x → J9G a.bad b.bad ms n ∧ x.length = n + 1:=fun x hx hd=>by
    obtain ⟨r0,h0,c,hc,rfl⟩:=JK.mp hx
    exact ⟨hBI.part dfa dfb h0 hc hd,by rw [List.length_append,hLn r0 h0]; rfl⟩
   have hPt : ∀ x ∈ JC ms st.1,∃ l c,x = l ++ [c] ∧ Cl a.bad b.bad ms l ∧ c ∈ ms ∧ l.length ≤ 400 ∧ l.length = n:=fun x hx=>by
    obtain ⟨r0,h0,c,hc,rfl⟩:=JK.mp hx
    exact ⟨r0,c,rfl,hCR.r r0 h0,hc,hr2 r0 h0,hLn r0 h0⟩
   have hGoC : (∀ x ∈ JC ms st.1,a.bad x = b.bad x) → CR a.bad b.bad ms (kept a b) (J1j a.bad ms (kept a b) st).1 (J1j a.bad ms (kept a b) st).2:=fun h=>hCR.go h
   have hGo : (∀ x ∈ JC ms st.1,a.bad x = b.bad x) → BI a.bad b.bad ms (kept a b) (n + 1) (J1j a.bad ms (kept a b) st).1 (J1j a.bad ms (kept a b) st).2:=fun h=>hBI.go dfa dfb h
   have hLn' : ∀ x ∈ (J1j a.bad ms (kept a b) st).1,x.length = n + 1:=fun x hx=>by
    obtain ⟨r0,h0,c,hc,rfl⟩:=JK.mp (List.mem_filter.mp (J3a _ _ _ x hx)).1
    rw [List.length_append,hLn r0 h0]
    rfl
   generalize JC ms st.1 = L at lL lR hD5 hS0 hPart hPt hGo hGoC
   have ngD : g ≠ D5:=Jo hg nD5
   have nrg : ∀ x u,H3 x = some u → x ≠ g:=fun x u e=>Jo e ng
   refine ⟨D5,rfl,⟨_,SqL.of hD5⟩,?_⟩
   refine J3G (K:=K) (xs:=L.map T) (fun i σ H6=>Here (∃ v2 v3,σ = [some (.ref pa),some (.ref pb),some (T ms),some (.int (kept a b : Nat)),some (.ref D),some (.ref r),some (.ref g),v2,v3] ∧ H6 g = some (.lst (((L.take i).filter fun r=>!a.bad r).map T)) ∧ Same H3 H6 ∧ H6 D5 = some (.lst (L.map T)) ∧ ∀ x ∈ L.take i,a.bad x = b.bad x)) (Here.mk ⟨_,_,rfl,s5 _ _ hg,s4.trans s5,hD5,fun x hx=>(by cases hx)⟩) (fun i σ H6 _ hv=>by obtain ⟨_,_,_,_,_,h,_⟩:=hv.out; exact SqL.of h) ?_ ?_
   ·rintro i x σ H6 hx hv
    obtain ⟨v2,v3,rfl,hg6,s6,hD6,hEq⟩:=hv.out
    obtain ⟨l,hl1,rfl⟩:=J8W hx
    have hll:=lR l (List.mem_of_getElem? hl1)
    have hll' : l.length ≤ 1000:=by omega
    have S6:=s3.trans s6
    have ha6:=ha.same S6
    have oa6:=S6 _ _ oa
    have eft:=J6A (fun r=>!a.bad r) L hl1
    have hgl : (((L.take i).filter fun r=>!a.bad r).map T).length ≤ 4000:=by
     rw [List.length_map]
     have:=List.length_filter_le (fun r=>!a.bad r) (L.take i)
     rw [List.length_take] at this
     omega
    walk_at "rd"
    intro H7 s7
    have hb7:=hb.same (S6.trans s7)
    have ob7:=(S6.trans s7) _ _ ob
    walk_at "rd"
    intro H8 s8
    have hg8:=(s7.trans s8) _ _ hg6
    walk_at "rd"
    refine ite2 (fun u=>?_) (fun u=>?_)
    ·have u' : a.bad l ≠ b.bad l:=fun y=>by rw [y,decide_eq_true rfl] at u; cases u
     obtain ⟨p1,p2⟩:=hPart l (List.mem_of_getElem? hl1) u'
     walk_at "rd"
     intro t nt
     have S8:=(S6.trans s7).trans s8
     obtain ⟨l0,c,rfl,h1,h2,h3,h4⟩:=hPt l (List.mem_of_getElem? hl1)
     exact q1 t l0 c n _ (S8.free nt) (S8.trans (Jz nt _)) Jd h4 h3 h1 h2 u' p1 hW
    have u' : a.bad l = b.bad l:=Decidable.byContradiction fun y=>u (by rw [decide_eq_false fun v=>y (V.bl.inj v)]; rfl)
    have hEq' : ∀ x ∈ L.take (i + 1),a.bad x = b.bad x:=fun x hx=>by
     rw [List.take_add_one,hl1] at hx
     rcases List.mem_append.mp hx with hx | hx
     ·exact hEq x hx
     ·rw [List.mem_singleton.mp hx]; exact u'
    walk_at "rd"
    refine ite2 (fun z=>?_) (fun z=>?_)
    ·walk_at "rd"
     refine Here.mk ⟨_,_,rfl,?_,((s6.trans s7).trans s8).upd ng,?_,hEq'⟩
     ·rw [Jd,eft,if_pos z,List.map_append]; rfl
     ·rw [Jq ngD.symm]; exact (s7.trans s8) _ _ hD6
    ·walk_at "rd"
     refine Here.mk ⟨_,_,rfl,?_,(s6.trans s7).trans s8,(s7.trans s8) _ _ hD6,hEq'⟩
     rw [hg8,eft,if_neg z,List.append_nil]
   ·rintro σ H6 hv
    obtain ⟨v2,v3,rfl,hg6,s6,hD6,hEq⟩:=hv.out
    rw [List.length_map,List.take_of_length_le (Nat.le_refl _)] at hg6 hEq
    have hBI':=hGo hEq
    have hCR':=hGoC hEq
    have hD7:=s6 _ _ hD3
    have lF : (L.filter fun r=>!a.bad r).length ≤ 3200:=Nat.le_trans (List.length_filter_le _ _) (by omega)
    have rF : ∀ x ∈ L.filter fun r=>!a.bad r,x.length ≤ 401:=fun x hx=>by have:=lR x (List.mem_filter.mp hx).1; omega
    have l2 : st.2.length ≤ 400:=by omega
    walk_at "rd"
    intro N H7 nN b7 hN7 hD8
    rw [← hS0,← hstep] at hN7 hD8
    rw [← hstep] at hBI' hCR' hLn'
    have hkl : (kvT (itA a.bad ms (kept a b) (n + 1)).2).length = (itA a.bad ms (kept a b) (n + 1)).2.length:=by
     unfold kvT
     rw [List.length_map]
    have SS : Same H H7:=fun x u e=>b7 x u (Jo e nD) ((s3.trans s6) x u e)
    walk_at "rd"
    refine ite2 (fun z=>?_) (fun z=>?_)
    ·have z':=of_decide_eq_true z
     walk_at "rd"
     exact qw n H7 SS (fun m hm=>hBI'.no m (by omega)) (by omega) hW
    ·have z':=of_decide_eq_false (Bool.eq_false_iff.mpr z)
     walk_at "rd"
     exact Here.mk ⟨N,_,_,_,rfl,hD8,hN7,SS,hBI',hCR',hLn',fun m hm=>by
      rcases Nat.lt_or_ge m (n + 1) with y | y
      ·exact hW m (by omega)
      ·have : m = n + 1:=by omega
       subst this
       omega⟩
end
noncomputable def JaX (a b : R) (ms : List Nat) : Prop:=∃ n,(∀ m,m ≤ n → ¬ J1F a.bad b.bad ms m) ∧ 400 < (itA a.bad ms (kept a b) (n + 1)).2.length ∧ ∀ m,m ≤ n → (itA a.bad ms (kept a b) m).2.length ≤ 400
noncomputable def J8O (c6 : Cs) : Sp:=fun vs H Q _=>∃ (pa pb : Addr) (a b : R) (ms : List Nat),vs = [.ref pa,.ref pb,T ms] ∧ Jr c6 H a pa ∧ Jr c6 H b pb ∧ a.fine ∧ b.fine ∧ a.noE ∧ b.noE ∧ a.depth ≤ 20 ∧ b.depth ≤ 20 ∧ ms.length ≤ 8 ∧ JaX a b ms ∧ ∀ H',Same H H' → Q (.bl true) H'
section
variable {P : Program} {w : World} {K : PySem.W.Frag} {mg : Str → Option Value} {base : Heap} {J5 J9 J4 Jb Je J2 J1 J8 : Addr}
theorem J48 (tx : Tx K mg J5 J9 J4 Jb Je J2 J1 J8) : FnG P w K mg base "_law_refused" 32 ["_law_one","_law_other","_law_marks_here"] (J8O (cs6 J5 J9 J4 Jb Je J2 J1 J8)):=by
 have J2w:=J7x (P:=P) (w:=w) (base:=base) tx
 refine tx.J44.g J1K (fun _ _ _ _ _ _ us hl=>match us,hl with | [_,_,_],_=>rfl) (fun vs H Q E h=>?_) (fun f cdv A outer s H vs Q E hr h=>?_)
 ·obtain ⟨pa,pb,a,b,ms,rfl,_⟩:=h
  rfl
 ·obtain ⟨pa,pb,a,b,ms,rfl,ha,hb,fa,fb,ea,eb,da,db,hm,⟨n0,hw1,hw2,hw3⟩,q⟩:=h
  refine ⟨_,(J6 (Jae (i:=3) (CB:=J2) rfl rfl J1K.nd rfl rfl tx.J5A (J9D (Jbr J2w (hr.mono (by decide)) (J0 (pv 0) (J0 (pv 1) (J0 (pv 2) J7))))) (fun _=>(Jc (Jn (J5j (Jk (J2u (K:=K) rfl) rfl tx.JR J0Z (J0 (pv 3) (J0 (J5f (v:=.ref J1) rfl tx.J4n rfl) J7))) (J5j (J9i (Jk (J2u (K:=K) rfl) rfl tx.JR J0Z (J0 (pv 3) (J0 (J5f (v:=.ref J8) rfl tx.J8U rfl) J7)))) (J7q (Jk (J2u (K:=K) rfl) rfl tx.JR J0Z (J0 (pv 3) (J0 (JaA tx.J0J J2R) J7))))))))))
   (Jc (Jn J33))),?_⟩
  walk_at "st"
  clear J2w
  walk_at "rd"
  refine ⟨fun t l c n H' _ _ _ _ _ _ _ _ hF hW=>?_,fun n H2 s2 _ _ _=>?_,fun t l n H' ss _ _ _ _ _ _ _ _ hE hW hN=>?_⟩
  ·exfalso
   rcases Nat.lt_or_ge n0 n with y | y
   ·have:=hW (n0 + 1) (by omega)
    omega
   ·exact hw1 n y hF.1
  ·refine ⟨J1,rfl,tx.JE,fun e he=>?_⟩
   obtain ⟨H3,e3,y3,s3⟩ : ∃ H3,H3 = upd H2 e (XO e J1) ∧ H3 e = some (XO e J1) ∧ Same H2 H3:=⟨_,rfl,Jd,Jz he _⟩
   rw [← e3]
   refine ⟨.ref e,rfl,e,J1,.ref J1,.ref J1,true,rfl,y3,tx.J2k,.inl ⟨_,rfl,rfl⟩,tx.JL,?_⟩
   refine ⟨true,rfl,?_⟩
   refine iteT ?_
   refine ⟨.ref e,rfl,e,J1,.ref J8,.ref J8,false,rfl,y3,tx.J2k,.inl ⟨_,rfl,rfl⟩,tx.JO,?_⟩
   refine ⟨false,rfl,true,rfl,?_⟩
   refine iteT ?_
   refine ⟨.ref e,rfl,e,J1,.ty "ValueError",.type "ValueError",true,rfl,y3,tx.J2k,.inr ⟨_,rfl,rfl⟩,tx.JB,?_⟩
   exact q H3 (s2.trans s3)
  ·exfalso
   rcases Nat.lt_or_ge n0 n with y | y
   ·have:=hW (n0 + 1) (by omega)
    omega
   ·have h1:=J1R hE (n0 + 1 - n)
    rw [show n + (n0 + 1 - n) = n0 + 1 by omega] at h1
    rw [h1] at hw2
    have:=hW n (Nat.le_refl _)
    omega
end
noncomputable def J6O (K : PySem.W.Frag) : Sp:=fun vs H Q _=>∃ (sc : Addr) (ns : List Int),vs = [.ref sc] ∧ SqL K H sc (ns.map V.int) ∧ ∀ (t : Addr) (H' : Hp) (many reach gap way : Int),Same H H' → H' t = some (.tup [.int many,.int reach,.int gap,.int way]) → 3 ≤ many → many ≤ 8 → 1 ≤ reach → reach ≤ 7 → 0 ≤ gap → gap ≤ 3 → 0 ≤ way → way ≤ 2 → Q (.ref t) H'
noncomputable def J86 : Sp:=fun vs H Q _=>∃ (c : Int) (ms : List Nat),vs = [.int c,T ms] ∧ 1 ≤ ms.length ∧ ms.length ≤ 8 ∧ ∀ wd : List Nat,1 ≤ wd.length → wd.length ≤ 7 → (∀ x ∈ wd,x ∈ ms) → Q (T wd) H
section
variable {P : Program} {w : World} {K : PySem.W.Frag} {mg : Str → Option Value} {base : Heap} {J5 J9 J4 Jb Je J2 J1 J8 : Addr}
theorem J5X (tx : Tx K mg J5 J9 J4 Jb Je J2 J1 J8) : FnG P w K mg base "_law_shape" 2 ["_law_script"] (J6O K):=by
 have Jj:=J29 (P:=P) (w:=w) (base:=base) tx
 refine tx.J5U.g J1y (fun _ _ _ _ _ _ us hl=>match us,hl with | [_],_=>rfl) (fun vs H Q E h=>?_) (fun f cdv A outer s H vs Q E hr h=>?_)
 ·obtain ⟨sc,ns,rfl,_⟩:=h
  rfl
 ·obtain ⟨sc,ns,rfl,hS,q⟩:=h
  refine ⟨_,(J6 (JZ (Ju J13 (Jh J02 (Jh J1a (JD Jj (hr.mono (by decide)) (J0 (pv 0) (J0 Ja J7))) Ja) Ja) Ja (Jy _)) (Jc (Jn (J1Q (J0 Ja (J0 Ja (J0 Ja (J0 Ja J7))))))) Jx)
   (J6 (Jm (i:=1) J1y.nd rfl (Or.inl rfl) (Jh J0t Ja (Jh J02 (JD Jj (hr.mono (by decide)) (J0 (pv 0) (J0 Ja J7))) Ja)))
   (J6 (Jm (i:=2) J1y.nd rfl (Or.inl rfl) (Jh J1G (Jh J02 (JD Jj (hr.mono (by decide)) (J0 (pv 0) (J0 Ja J7))) Ja) (Jh J0t Ja (Jh J02 (Jh J1a (JD Jj (hr.mono (by decide)) (J0 (pv 0) (J0 Ja J7))) Ja) Ja))))
   (Jc (Jn (J1Q (J0 (pv 1) (J0 (Jh J0t Ja (Jh J02 (JD Jj (hr.mono (by decide)) (J0 (pv 0) (J0 Ja J7))) Ja)) (J0 (pv 2) (J0 (Jh J02 (JD Jj (hr.mono (by decide)) (J0 (pv 0) (J0 Ja J7))) Ja) J7)))))))))),?_⟩
  walk_at "st"
  clear Jj
  walk_at "rd"
  intro c8
  walk_at "rd"
  refine ite2 (fun _=>?_) (fun _=>?_)
  ·walk_at "rd"
   intro t nt
   exact q t _ 7 4 0 0 (Jz nt _) Jd (by decide) (by decide) (by decide) (by decide) (by decide) (by decide) (by decide) (by decide)
  walk_at "rd"
  intro c0
  walk_at "rd"
  intro c3
  have a0:=Int.emod_nonneg c3 (show (2 : Int) ≠ 0 by decide)
  have a1:=Int.emod_lt_of_pos c3 (show (0 : Int) < 2 by decide)
  walk_at "rd"
  intro c3'
  have b0:=Int.emod_nonneg (c3' / 2) (show (3 : Int) ≠ 0 by decide)
  have b1:=Int.emod_lt_of_pos (c3' / 2) (show (0 : Int) < 3 by decide)
  walk_at "rd"
  intro c2
  walk_at "rd"
  intro c7
  walk_at "rd"
  intro t nt
  have g0 : 0 ≤ c3 % 2 * (1 + c3' / 2 % 3):=Int.mul_nonneg a0 (by omega)
  have g3 : c3 % 2 * (1 + c3' / 2 % 3) ≤ 3:=by
   have : c3 % 2 = 0 ∨ c3 % 2 = 1:=by omega
   rcases this with e | e <;> rw [e] <;> omega
  exact q t _ _ _ _ _ (Jz nt _) Jd (by omega) (by omega) (by omega) (by omega) g0 g3 (by omega) (by omega)
theorem J71 (tx : Tx K mg J5 J9 J4 Jb Je J2 J1 J8) : FnG P w K mg base "_law_word" 1 ["_law_cell","_law_marks_here"] J86:=by
 refine tx.J6T.g J10 (fun _ _ _ _ _ _ us hl=>match us,hl with | [_,_],_=>rfl) (fun vs H Q E h=>?_) (fun f cdv A outer s H vs Q E hr h=>?_)
 ·obtain ⟨c,ms,rfl,_⟩:=h
  rfl
 ·obtain ⟨c,ms,rfl,hm1,hm8,q⟩:=h
  refine ⟨_,(J6 (Jm (i:=2) J10.nd rfl (Or.inl rfl) (JM (l:=[]) (by decide +kernel)))
   (J6 (J1H PassesOwn.never rfl (J1V rfl tx.J0Y (J0 (Jh J0t Ja (Jh J02 (pv 0) Ja)) J7)) (JH (i:=3) J10.nd rfl (Or.inl rfl)) (J6 (Jm (i:=4) J10.nd rfl (Or.inl rfl) (Jh J02 (Jh J1a (pv 0) (Jh J0t Ja (Jh J1G (Jh J1G Ja (pv 3)) (pv 3)))) (Jk JN rfl tx.J0q PySem.boot_len (J0 (pv 1) J7))))
   (Jc (Jm (i:=2) J10.nd rfl (Or.inl rfl) (Jh J20 (pv 2) (J15 J5u (pv 1) (pv 4) (fun _ _=>rfl)))))))
   (Jc (Jn (pv 2))))),?_⟩
  walk_at "st"
  have hms : ms.length ≤ 1000:=by omega
  have l0 : (0 : Int) < (ms.length : Int):=by omega
  have r0:=Int.emod_nonneg c (show (7 : Int) ≠ 0 by decide)
  have r7:=Int.emod_lt_of_pos c (show (0 : Int) < 7 by decide)
  walk_at "rd"
  refine J1e (n:=(1 + c % 7).toNat) (fun i σ H2=>Here (∃ (v1 v2 : Option V) (wd : List Nat),σ = [some (.int c),some (T ms),some (T wd),v1,v2] ∧ wd.length = i ∧ (∀ x ∈ wd,x ∈ ms) ∧ H2 = H)) (Here.mk ⟨none,none,[],rfl,rfl,fun x hx=>(by cases hx),rfl⟩) ?_ ?_
  ·rintro i σ H2 hi hv
   obtain ⟨v1,v2,wd,rfl,hw,hin,eH⟩:=hv.out
   rw [eH]
   have hi7 : (i : Int) ≤ 6:=by omega
   have i2 : 0 ≤ 11 * (0 + (i : Int)) * (0 + (i : Int)):=Int.mul_nonneg (by omega) (by omega)
   have i3 : 11 * (0 + (i : Int)) * (0 + (i : Int)) ≤ 66 * 6:=Int.le_trans (Int.mul_le_mul_of_nonneg_right (show 11 * (0 + (i : Int)) ≤ 66 by omega) (by omega)) (Int.mul_le_mul_of_nonneg_left (by omega) (by decide))
   obtain ⟨o,ho,ho2⟩:=J1o ms (c / (7 + 11 * (0 + (i : Int)) * (0 + (i : Int))) % (ms.length : Int)) (Int.emod_nonneg _ (by omega)) (Int.emod_lt_of_pos _ l0)
   have hw8 : wd.length ≤ 8:=by omega
   walk_at "rd"
   refine Here.mk ⟨_,_,wd ++ [o],rfl,by rw [List.length_append,hw]; rfl,fun x hx=>?_,rfl⟩
   rcases List.mem_append.mp hx with hx | hx
   ·exact hin x hx
   ·rw [List.mem_singleton.mp hx]; exact List.mem_of_getElem? ho2
  ·rintro σ H2 hv
   obtain ⟨v1,v2,wd,rfl,hw,hin,eH⟩:=hv.out
   rw [eH]
   walk_at "rd"
   exact q wd (by omega) (by omega) hin
end
noncomputable def alf : List Nat:=[45,65,66,67,68,69,70,71,72,73,74,75,76,77,78,79,80,81,82,83,84,85,86,87,88,89,90]
noncomputable def J6Y : Sp:=fun vs H Q _=>∃ (c m : Int),vs = [.int c,.int m] ∧ 0 ≤ m ∧ m ≤ 8 ∧ ∀ ms : List Nat,(ms.length : Int) = m → ms.Nodup → (∀ x ∈ ms,x ∈ alf) → Q (T ms) H
section
variable {P : Program} {w : World} {K : PySem.W.Frag} {mg : Str → Option Value} {base : Heap} {J5 J9 J4 Jb Je J2 J1 J8 : Addr}
theorem J5I (tx : Tx K mg J5 J9 J4 Jb Je J2 J1 J8) : FnG P w K mg base "_law_marks" 1 ["_law_cell","_law_many"] J6Y:=by
 refine tx.J5L.g JQ (fun _ _ _ _ _ _ us hl=>match us,hl with | [_,_],_=>rfl) (fun vs H Q E h=>?_) (fun f cdv A outer s H vs Q E hr h=>?_)
 ·obtain ⟨c,m,rfl,_⟩:=h
  rfl
 ·obtain ⟨c,m,rfl,m0,m8,q⟩:=h
  refine ⟨_,(J6 (Jm (i:=2) JQ.nd rfl (Or.inl rfl) (JM (l:=[45,65,66,67,68,69,70,71,72,73,74,75,76,77,78,79,80,81,82,83,84,85,86,87,88,89,90]) (by decide +kernel)))
   (J6 (J40 (JZ (Ju J13 (Jh J02 (pv 0) Ja) Ja (Jy _)) (Jc (Jm (i:=2) JQ.nd rfl (Or.inl rfl) (J1i J2q (pv 2) (J1n Ja) J23))) Jx))
   (J6 (Jm (i:=3) JQ.nd rfl (Or.inl rfl) (JM (l:=[]) (by decide +kernel)))
   (J6 (J1H PassesOwn.never rfl (J1V rfl tx.J0Y (J0 (pv 1) J7)) (JH (i:=4) JQ.nd rfl (Or.inl rfl)) (J6 (Jm (i:=5) JQ.nd rfl (Or.inl rfl) (Jh J02 (Jh J1a (pv 0) (Jh J0t Ja (Jh J1G (Jh J1G Ja (pv 4)) (pv 4)))) (Jk JN rfl tx.J0q PySem.boot_len (J0 (pv 2) J7))))
   (J6 (Jm (i:=3) JQ.nd rfl (Or.inl rfl) (Jh J20 (pv 3) (J15 J5u (pv 2) (pv 5) (fun _ _=>rfl))))
   (Jc (Jm (i:=2) JQ.nd rfl (Or.inl rfl) (Jh J20 (J1i J2q (pv 2) J23 (J1n (pv 5))) (J1i J2q (pv 2) (J1n (Jh J0t (pv 5) Ja)) J23)))))))
   (Jc (Jn (pv 3))))))),?_⟩
  walk_at "st"
  walk_at "rd"
  refine tCut.mk (fun σ' H'=>Here (∃ lf : List Nat,σ' = [some (.int c),some (.int m),some (T lf),none,none,none] ∧ lf.Nodup ∧ (∀ x ∈ lf,x ∈ alf) ∧ 26 ≤ lf.length ∧ lf.length ≤ 27 ∧ H' = H)) ?_ ?_
  ·have ha : alf.length ≤ 1000:=by decide
   walk_at "rd"
   refine ite2 (fun _=>?_) (fun _=>?_)
   ·walk_at "rd"
    exact Here.mk ⟨_,rfl,by decide +kernel,by decide +kernel,by decide +kernel,by decide +kernel,rfl⟩
   ·exact Here.mk ⟨alf,rfl,by decide +kernel,fun x h=>h,by decide,by decide,rfl⟩
  rintro σ' H' hv
  obtain ⟨lf,rfl,hnd,hal,l26,l27,eH⟩:=hv.out
  rw [eH]
  clear hv eH
  walk_at "rd"
  refine J1e (n:=m.toNat) (fun i σ H2=>Here (∃ (v4 v5 : Option V) (lf fd : List Nat),σ = [some (.int c),some (.int m),some (T lf),some (T fd),v4,v5] ∧ (fd ++ lf).Nodup ∧ (∀ x ∈ fd ++ lf,x ∈ alf) ∧ fd.length = i ∧ 26 ≤ lf.length + i ∧ lf.length ≤ 27 ∧ H2 = H)) (Here.mk ⟨none,none,lf,[],rfl,hnd,hal,rfl,l26,l27,rfl⟩) ?_ ?_
  ·rintro i σ H2 hi hv
   obtain ⟨v4,v5,lf,fd,rfl,hnd,hal,hfl,l26,l27,eH⟩:=hv.out
   rw [eH]
   clear hv eH
   have hi7 : (i : Int) ≤ 7:=by omega
   have l0 : (0 : Int) < (lf.length : Int):=by omega
   have hl1000 : lf.length ≤ 1000:=by omega
   have i2 : 0 ≤ 29 * (0 + (i : Int)) * (0 + (i : Int)):=Int.mul_nonneg (by omega) (by omega)
   have i3 : 29 * (0 + (i : Int)) * (0 + (i : Int)) ≤ 203 * 7:=Int.le_trans (Int.mul_le_mul_of_nonneg_right (show 29 * (0 + (i : Int)) ≤ 203 by omega) (by omega)) (Int.mul_le_mul_of_nonneg_left (by omega) (by decide))
   have a0:=Int.emod_nonneg (c / (2 + 29 * (0 + (i : Int)) * (0 + (i : Int)))) (show (lf.length : Int) ≠ 0 by omega)
   have a1:=Int.emod_lt_of_pos (c / (2 + 29 * (0 + (i : Int)) * (0 + (i : Int)))) l0
   obtain ⟨o,ho,ho2⟩:=J1o lf (c / (2 + 29 * (0 + (i : Int)) * (0 + (i : Int))) % (lf.length : Int)) a0 a1
   have hfd : fd.length ≤ 8:=by omega
   have k1:=J3f lf none (some (c / (2 + 29 * (0 + (i : Int)) * (0 + (i : Int))) % (lf.length : Int)))
   have k2:=J3f lf (some (c / (2 + 29 * (0 + (i : Int)) * (0 + (i : Int))) % (lf.length : Int) + 1)) none
   have e1:=J8X lf (c / (2 + 29 * (0 + (i : Int)) * (0 + (i : Int))) % (lf.length : Int)) a0
   have e2:=J3Z lf (c / (2 + 29 * (0 + (i : Int)) * (0 + (i : Int))) % (lf.length : Int) + 1) (by omega)
   walk_at "rd"
   rw [e1,e2]
   generalize c / (2 + 29 * (0 + (i : Int)) * (0 + (i : Int))) % (lf.length : Int) = j at a0 a1 ho2
   have hjl : j.toNat < lf.length:=by omega
   have el : lf = lf.take j.toNat ++ o :: lf.drop (j.toNat + 1):=by
    have h1:=(List.getElem?_eq_some_iff.mp ho2).2
    rw [← h1,List.getElem_cons_drop,List.take_append_drop]
   have ej : (j + 1).toNat = j.toNat + 1:=by omega
   rw [ej]
   have hp : (fd ++ [o] ++ (lf.take j.toNat ++ lf.drop (j.toNat + 1))).Perm (fd ++ lf):=by
    rw [List.append_assoc]
    refine List.Perm.append_left fd ?_
    conv=>rhs; rw [el]
    show (o :: (lf.take j.toNat ++ lf.drop (j.toNat + 1))).Perm _
    exact List.perm_middle.symm
   refine Here.mk ⟨_,_,lf.take j.toNat ++ lf.drop (j.toNat + 1),fd ++ [o],rfl,hp.nodup_iff.mpr hnd,fun x hx=>hal x (hp.mem_iff.mp hx),by rw [List.length_append,hfl]; rfl,?_,?_,rfl⟩
   ·rw [List.length_append,List.length_take,List.length_drop]; omega
   ·rw [List.length_append,List.length_take,List.length_drop]; omega
  ·rintro σ H2 hv
   obtain ⟨v4,v5,lf,fd,rfl,hnd,hal,hfl,l26,l27,eH⟩:=hv.out
   rw [eH]
   walk_at "rd"
   exact q fd (by omega) (List.nodup_append.mp hnd).1 fun x hx=>hal x (List.mem_append_left _ hx)
end
noncomputable def cntF (m g : Nat) : Nat → Nat
 | 0=>1
 | n + 1=>if g = 0 then m * cntF m g n else (m - 1) * cntF m g n + (m - 1) ^ (min g n) * cntF m g (n - g)
termination_by n=>n
decreasing_by all_goals omega
noncomputable def J88 : Sp:=fun vs H Q _=>∃ (m g d : Nat),vs = [.int (m : Nat),.int (g : Nat),.int (d : Nat)] ∧ 3 ≤ m ∧ m ≤ 8 ∧ g ≤ 3 ∧ d ≤ 7 ∧ ∀ (a : Addr) (H' : Hp),Same H H' → H a = none → H' a = some (.lst (((List.range (d + 1)).map fun i=>(cntF m g i : Int)).map V.int)) → Q (.ref a) H'
theorem J7e (m g n : Nat) (j : Int) (h0 : 0 ≤ j) (h1 : j < (n : Int)) : atI (((List.range n).map fun i=>(cntF m g i : Int)).map V.int) j = some (.int (cntF m g j.toNat : Nat)):=by
 have : (((List.range n).map fun i=>(cntF m g i : Int)).map V.int)[j.toNat]? = some (.int (cntF m g j.toNat : Nat)):=by
  rw [List.getElem?_map,List.getElem?_map,List.getElem?_range (by omega)]
  rfl
 have:=J7U this
 rwa [Int.toNat_of_nonneg h0] at this
section
variable {P : Program} {w : World} {K : PySem.W.Frag} {mg : Str → Option Value} {base : Heap} {J5 J9 J4 Jb Je J2 J1 J8 : Addr}
theorem J6U (tx : Tx K mg J5 J9 J4 Jb Je J2 J1 J8) : FnG P w K mg base "_law_rows" 1 ["_law_many","_law_gap","_law_days"] J88:=by
 refine tx.J6G.g J0B (fun _ _ _ _ _ _ us hl=>match us,hl with | [_,_,_],_=>rfl) (fun vs H Q E h=>?_) (fun f cdv A outer s H vs Q E hr h=>?_)
 ·obtain ⟨m,g,d,rfl,_⟩:=h
  rfl
 ·obtain ⟨m,g,d,rfl,m3,m8,g3,d7,q⟩:=h
  refine ⟨_,(J6 (Jm (i:=3) J0B.nd rfl (Or.inl rfl) (J3N (J0 Ja J7)))
   (J6 (J1H PassesOwn.never rfl (J4E rfl tx.J0Y (J0 Ja (J0 (Jh J0t (pv 2) Ja) J7))) (JH (i:=4) J0B.nd rfl (Or.inl rfl)) (Jc (JZ (Ju J13 (pv 1) Ja (Jy _)) (Jc (J38 (J7C PySem.F.plainAttrs_list PySem.F.slot_list_append PySem.F.type_list_append J1d (pv 3) (J0 (Jh J1G (pv 0) (J15 (J1l (K:=K) rfl) (pv 3) (Jh J1t (pv 4) Ja) (fun _ _=>rfl))) J7)))) (J6 (Jm (i:=5) J0B.nd rfl (Or.inl rfl) Ja)
   (J6 (J1H PassesOwn.never rfl (J1V rfl tx.J0Y (J0 (Jk (J8h rfl) rfl tx.J5Q JaY (J0 (pv 1) (J0 (Jh J1t (pv 4) Ja) J7))) J7)) (JH (i:=6) J0B.nd rfl (Or.inl rfl)) (Jc (Jm (i:=5) J0B.nd rfl (Or.inl rfl) (Jh J1G (pv 5) (Jh J1t (pv 0) Ja)))))
   (Jc (J38 (J7C PySem.F.plainAttrs_list PySem.F.slot_list_append PySem.F.type_list_append J1d (pv 3) (J0 (Jh J0t (Jh J1G (Jh J1t (pv 0) Ja) (J15 (J1l (K:=K) rfl) (pv 3) (Jh J1t (pv 4) Ja) (fun _ _=>rfl))) (Jh J1G (pv 5) (J15 (J1l (K:=K) rfl) (pv 3) (Jk (J0W rfl) rfl tx.J1L J2r (J0 Ja (J0 (Jh J1t (Jh J1t (pv 4) Ja) (pv 1)) J7))) (fun _ _=>rfl)))) J7)))))))))
   (Jc (Jn (pv 3))))),?_⟩
  walk_at "st"
  walk_at "rd"
  intro l nl
  obtain ⟨H1,e1,y1,s1⟩:=newl (xs:=[V.int 1]) nl
  rw [← e1]
  have y1' : H1 l = some (.lst (((List.range 1).map fun i=>(cntF m g i : Int)).map V.int)):=by rw [y1,show List.range 1 = [0] from rfl,List.map_singleton,List.map_singleton,cntF]; rfl
  walk_at "rd"
  refine J1e (lo:=1) (n:=(((d : Nat) : Int) + 1 - 1).toNat) (fun i σ H2=>Here (∃ v4 v5 v6,σ = [some (.int (m : Nat)),some (.int (g : Nat)),some (.int (d : Nat)),some (.ref l),v4,v5,v6] ∧ H2 l = some (.lst (((List.range (i + 1)).map fun i=>(cntF m g i : Int)).map V.int)) ∧ Same H H2)) (Here.mk ⟨none,none,none,rfl,y1',s1⟩) ?_ ?_
  ·rintro i σ H2 hi hv
   obtain ⟨v4,v5,v6,rfl,hl2,s2⟩:=hv.out
   have c1:=J7e m g (i + 1) (1 + (i : Int) - 1) (by omega) (by omega)
   have hll : (((List.range (i + 1)).map fun i=>(cntF m g i : Int)).map V.int).length ≤ 1000:=by rw [List.length_map,List.length_map,List.length_range]; omega
   rw [show (1 + (i : Int) - 1).toNat = i by omega] at c1
   have eS : ((List.range (i + 1 + 1)).map fun i=>(cntF m g i : Int)).map V.int = ((List.range (i + 1)).map fun i=>(cntF m g i : Int)).map V.int ++ [V.int (cntF m g (i + 1) : Nat)]:=by
    rw [List.range_succ (n:=i + 1),List.map_append,List.map_append]
    rfl
   walk_at "rd"
   refine ite2 (fun z=>?_) (fun z=>?_)
   ·have z' : g = 0:=by have:=of_decide_eq_true z; injection this with h; omega
    walk_at "rd"
    refine Here.mk ⟨_,_,_,rfl,?_,s2.upd nl⟩
    rw [Jd,eS,cntF,if_pos z',Int.natCast_mul]
   ·have z' : ¬ g = 0:=fun y=>z (decide_eq_true (by rw [y]; rfl))
    have c2:=J7e m g (i + 1) (if 1 + (i : Int) - 1 - (g : Nat) > 0 then 1 + (i : Int) - 1 - (g : Nat) else 0) (by split <;> omega) (by split <;> omega)
    walk_at "rd"
    have eJ : (if 1 + (i : Int) - 1 < ((g : Nat) : Int) then 1 + (i : Int) - 1 else ((g : Nat) : Int)).toNat = min g i:=by split <;> omega
    refine J1e (lo:=0) (n:=(if 1 + (i : Int) - 1 < ((g : Nat) : Int) then 1 + (i : Int) - 1 else ((g : Nat) : Int)).toNat) (fun j σ H3=>Here (∃ v6,σ = [some (.int (m : Nat)),some (.int (g : Nat)),some (.int (d : Nat)),some (.ref l),some (.int (1 + (i : Int))),some (.int ((m - 1) ^ j : Nat)),v6] ∧ H3 = H2)) (Here.mk ⟨_,rfl,rfl⟩) ?_ ?_
    ·rintro j σ H3 hj hv
     obtain ⟨v6',rfl,eH⟩:=hv.out
     rw [eH]
     walk_at "rd"
     refine Here.mk ⟨some (.int (0 + (j : Int))),?_,rfl⟩
     have : (((m - 1) ^ (j + 1) : Nat) : Int) = (((m - 1) ^ j : Nat) : Int) * ((m : Int) - 1):=by
      rw [Nat.pow_succ,Int.natCast_mul]
      congr 1
      omega
     rw [this]
    ·rintro σ H3 hv
     obtain ⟨v6',rfl,eH⟩:=hv.out
     rw [eH,eJ]
     have hpw : (m - 1) ^ (min g i) ≤ 343:=Nat.le_trans (Nat.pow_le_pow_left (show m - 1 ≤ 7 by omega) _) (Nat.le_trans (Nat.pow_le_pow_right (by decide) (show min g i ≤ 3 by omega)) (by decide))
     have hpw' : (((m - 1) ^ (min g i) : Nat) : Int) ≤ 343:=by omega
     have hpw0 : (0 : Int) ≤ (((m - 1) ^ (min g i) : Nat) : Int):=by omega
     have ei : (if 1 + (i : Int) - 1 - ((g : Nat) : Int) > 0 then 1 + (i : Int) - 1 - ((g : Nat) : Int) else 0).toNat = i - g:=by split <;> omega
     rw [ei] at c2
     walk_at "rd"
     refine Here.mk ⟨_,_,_,rfl,?_,s2.upd nl⟩
     rw [Jd,eS,cntF,if_neg z',Int.natCast_add,Int.natCast_mul,Int.natCast_mul,show ((m - 1 : Nat) : Int) = (m : Int) - 1 by omega]
  ·rintro σ H2 hv
   obtain ⟨v4,v5,v6,rfl,hl2,s2⟩:=hv.out
   rw [show (((d : Nat) : Int) + 1 - 1).toNat = d by omega] at hl2
   walk_at "rd"
   exact q l H2 s2 nl hl2
end
noncomputable def JJ (m g r : Nat) : Nat → Nat
 | 0=>1
 | n + 1=>JJ m g r n + (if n + 1 < r then cntF m g (n + 1) else 0)
noncomputable def wiT : List Nat:=[119,105,100,101]
noncomputable def Jay (H : Hp) (du : Addr) (m g r : Nat) (len : Int) : Prop :=
  ((H du = some (.tup [T paT,.int 0]) ∧ ∃ n : Nat,1 ≤ n ∧ (n : Int) = len ∧ ∀ j,j < n → JJ m g r j ≤ 400) ∨
   (H du = some (.tup [T wiT,.int 0]) ∧ ∃ n : Nat,1 ≤ n ∧ n ≤ r ∧ (∀ j : Nat,1 ≤ j → j ≤ n → ¬ (j : Int) = len) ∧ (∀ j,j < n → JJ m g r j ≤ 400) ∧ 400 < JJ m g r n) ∨
   (H du = some (.tup [T alT,.int (JJ m g r r : Nat)]) ∧ (∀ j : Nat,1 ≤ j → j ≤ r → ¬ (j : Int) = len) ∧ (∀ j,j ≤ r → JJ m g r j ≤ 400)))
theorem Jac {H : Hp} {m g r : Nat} {len : Int} {Q : VK} (h : ∀ (t : Addr) H',Same H H' → Jay H' t m g r len → Q (.ref t) H') :
 (∀ (t : Addr) (n : Nat) H',Same H H' → H' t = some (.tup [T paT,.int 0]) → 1 ≤ n → n ≤ r → (n : Int) = len → (∀ j,j < n → JJ m g r j ≤ 400) → Q (.ref t) H') ∧
 (∀ (t : Addr) (n : Nat) H',Same H H' → H' t = some (.tup [T wiT,.int 0]) → 1 ≤ n → n ≤ r → (∀ j : Nat,1 ≤ j → j ≤ n → ¬ (j : Int) = len) → (∀ j,j < n → JJ m g r j ≤ 400) → 400 < JJ m g r n → Q (.ref t) H') ∧
 (∀ (t : Addr) H',Same H H' → H' t = some (.tup [T alT,.int (JJ m g r r : Nat)]) → (∀ j : Nat,1 ≤ j → j ≤ r → ¬ (j : Int) = len) → (∀ j,j ≤ r → JJ m g r j ≤ 400) → Q (.ref t) H') :=
 ⟨fun t n H' s ht h1 _ h3 h4=>h t H' s (.inl ⟨ht,n,h1,h3,h4⟩),fun t n H' s ht h1 h2 h3 h4 h5=>h t H' s (.inr (.inl ⟨ht,n,h1,h2,h3,h4,h5⟩)),fun t H' s ht h1 h2=>h t H' s (.inr (.inr ⟨ht,h1,h2⟩))⟩
noncomputable def J8T : Sp:=fun vs H Q _=>∃ (l : Addr) (m g r : Nat) (len : Int),vs = [.ref l,.int (r : Nat),.int len] ∧ H l = some (.lst (((List.range (r + 1)).map fun i=>(cntF m g i : Int)).map V.int)) ∧ r ≤ 7 ∧ ∀ (t : Addr) H',Same H H' → Jay H' t m g r len → Q (.ref t) H'
section
variable {P : Program} {w : World} {K : PySem.W.Frag} {mg : Str → Option Value} {base : Heap} {J5 J9 J4 Jb Je J2 J1 J8 : Addr}
theorem J89 (tx : Tx K mg J5 J9 J4 Jb Je J2 J1 J8) : FnG P w K mg base "_law_due" 1 ["_law_rows_here","_law_reach","_law_length"] J8T:=by
 refine tx.J8a.g J1A (fun _ _ _ _ _ _ us hl=>match us,hl with | [_,_,_],_=>rfl) (fun vs H Q E h=>?_) (fun f cdv A outer s H vs Q E hr h=>?_)
 ·obtain ⟨l,m,g,r,len,rfl,_⟩:=h
  rfl
 ·obtain ⟨l,m,g,r,len,rfl,hl,r7,qq⟩:=h
  obtain ⟨qp,qw,qa⟩:=Jac (Q:=Q) qq
  clear qq
  refine ⟨_,(J6 (Jm (i:=3) J1A.nd rfl (Or.inl rfl) Ja)
   (J6 (J1H PassesOwn.never rfl (J4E rfl tx.J0Y (J0 Ja (J0 (Jh J0t (pv 1) Ja) J7))) (JH (i:=4) J1A.nd rfl (Or.inl rfl)) (J6 (JZ (Ju J13 (pv 4) (pv 2) (Jy _)) (Jc (Jn (J1Q (J0 (JM (l:=[112,97,114,116,101,100]) (by decide +kernel)) (J0 Ja J7))))) Jx)
   (J6 (JZ (Ju J68 (pv 4) (pv 1) (Jy _)) (Jc (Jm (i:=3) J1A.nd rfl (Or.inl rfl) (Jh J0t (pv 3) (J15 (J1l (K:=K) rfl) (pv 0) (pv 4) (fun _ _=>rfl))))) Jx)
   (Jc (JZ (Ju J4F (pv 3) Ja (Jy _)) (Jc (Jn (J1Q (J0 (JM (l:=[119,105,100,101]) (by decide +kernel)) (J0 Ja J7))))) Jx)))))
   (Jc (Jn (J1Q (J0 (JM (l:=[97,108,105,107,101]) (by decide +kernel)) (J0 (pv 3) J7))))))),?_⟩
  walk_at "st"
  walk_at "rd"
  refine J1e (lo:=1) (n:=(((r : Nat) : Int) + 1 - 1).toNat) (fun i σ H2=>Here (∃ v4,σ = [some (.ref l),some (.int (r : Nat)),some (.int len),some (.int (JJ m g r i : Nat)),v4] ∧ (∀ j : Nat,1 ≤ j → j ≤ i → ¬ (j : Int) = len) ∧ (∀ j,j ≤ i → JJ m g r j ≤ 400) ∧ H2 = H)) (Here.mk ⟨none,rfl,fun j h1 h2=>absurd h2 (by omega),fun j hj=>by rw [Nat.le_zero.mp hj]; exact (by decide : (1 : Nat) ≤ 400),rfl⟩) ?_ ?_
  ·rintro i σ H2 hi hv
   obtain ⟨v4,rfl,hno,hle,eH⟩:=hv.out
   rw [eH]
   have c1:=J7e m g (r + 1) (1 + (i : Int)) (by omega) (by omega)
   have hll : (((List.range (r + 1)).map fun i=>(cntF m g i : Int)).map V.int).length ≤ 1000:=by rw [List.length_map,List.length_map,List.length_range]; omega
   rw [show (1 + (i : Int)).toNat = i + 1 by omega] at c1
   have eE : JJ m g r (i + 1) = JJ m g r i + (if i + 1 < r then cntF m g (i + 1) else 0):=rfl
   walk_at "rd"
   refine ite2 (fun z=>?_) (fun z=>?_)
   ·have z' : 1 + (i : Int) = len:=by have:=of_decide_eq_true z; injection this
    walk_at "rd"
    intro t nt
    exact qp t (i + 1) _ (Jz nt _) Jd (by omega) (by omega) (by omega) fun j hj=>hle j (by omega)
   have z' : ¬ 1 + (i : Int) = len:=fun y=>z (decide_eq_true (by rw [y]))
   have hno' : ∀ j : Nat,1 ≤ j → j ≤ i + 1 → ¬ (j : Int) = len:=fun j h1 h2 e=>by
    rcases Nat.lt_or_ge i j with y | y
    ·exact z' (by omega)
    ·exact hno j h1 y e
   have last : ∀ x : Nat,x = JJ m g r (i + 1) → (400 < x → ∀ t : Addr,H t = none → Q (.ref t) (upd H t (.tup [T wiT,.int 0]))) ∧ (¬ 400 < x → ∀ v4,Here (∃ v4',[some (V.ref l),some (.int (r : Nat)),some (.int len),some (.int (x : Nat)),v4] = [some (V.ref l),some (.int (r : Nat)),some (.int len),some (.int (JJ m g r (i + 1) : Nat)),v4'] ∧ (∀ j : Nat,1 ≤ j → j ≤ i + 1 → ¬ (j : Int) = len) ∧ (∀ j,j ≤ i + 1 → JJ m g r j ≤ 400) ∧ H = H)):=fun x ex=>by
    subst ex
    refine ⟨fun y t nt=>qw t (i + 1) _ (Jz nt _) Jd (by omega) (by omega) hno' (fun j hj=>hle j (by omega)) y,fun y v4=>Here.mk ⟨_,rfl,hno',fun j hj=>?_,rfl⟩⟩
    rcases Nat.lt_or_ge i j with u | u
    ·have : j = i + 1:=by omega
     subst this
     omega
    ·exact hle j u
   walk_at "rd"
   refine ite2 (fun y=>?_) (fun y=>?_)
   ·have y' : i + 1 < r:=by have:=of_decide_eq_true y; omega
    rw [if_pos y'] at eE
    obtain ⟨k1,k2⟩:=last _ eE.symm
    walk_at "rd"
    rw [← Int.natCast_add]
    refine ite2 (fun u=>?_) (fun u=>?_)
    ·have u':=of_decide_eq_true u
     walk_at "rd"
     exact k1 (by omega)
    ·have u':=of_decide_eq_false (Bool.eq_false_iff.mpr u)
     exact k2 (by omega) _
   ·have y' : ¬ i + 1 < r:=by have:=of_decide_eq_false (Bool.eq_false_iff.mpr y); omega
    rw [if_neg y',Nat.add_zero] at eE
    obtain ⟨k1,k2⟩:=last _ eE.symm
    walk_at "rd"
    refine ite2 (fun u=>?_) (fun u=>?_)
    ·have u':=of_decide_eq_true u
     walk_at "rd"
     exact k1 (by omega)
    ·have u':=of_decide_eq_false (Bool.eq_false_iff.mpr u)
     exact k2 (by omega) _
  ·rintro σ H2 hv
   obtain ⟨v4,rfl,hno,hle,eH⟩:=hv.out
   rw [eH]
   have er : (((r : Nat) : Int) + 1 - 1).toNat = r:=by omega
   rw [er] at hno hle ⊢
   walk_at "rd"
   intro t nt
   exact qa t _ (Jz nt _) Jd hno hle
end
noncomputable def la (j : Nat) (l : List Nat) : List Nat:=l.drop (l.length - j)
noncomputable def vio (mk g : Nat) (l : List Nat) : Bool:=decide (0 < g) && decide (1 < (la (g + 1) l).count mk)
theorem J5d (j : Nat) (l : List Nat) (c : Nat) : la (j + 1) (l ++ [c]) = la j l ++ [c]:=by
 unfold la
 rw [List.length_append,List.length_singleton,Nat.add_sub_add_right,List.drop_append_of_le_length (by omega)]
theorem Jb0 {i j : Nat} (h : i ≤ j) (l : List Nat) : (la i l).Sublist (la j l):=by
 unfold la
 exact List.drop_sublist_drop_left l (by omega)
theorem Ja7 (j c : Nat) (l : List Nat) : (la j l).Sublist (la j (c :: l)):=by
 unfold la
 rw [List.length_cons]
 rcases Nat.lt_or_ge l.length j with h | h
 ·rw [Nat.sub_eq_zero_of_le (by omega),Nat.sub_eq_zero_of_le (by omega),List.drop_zero,List.drop_zero]
  exact List.sublist_cons_self _ _
 ·rw [show l.length + 1 - j = (l.length - j) + 1 by omega,List.drop_succ_cons]
  exact List.Sublist.refl _
theorem J81 (mk g : Nat) : vio mk g [] = false:=by
 unfold vio la
 rw [List.drop_nil,List.count_nil,decide_eq_false (by omega : ¬ 1 < 0),Bool.and_false]
theorem J9A {mk g c : Nat} {l : List Nat} (h : vio mk g (c :: l) = false) : vio mk g l = false:=by
 unfold vio at h ⊢
 have:=List.Sublist.count_le mk (Ja7 (g + 1) c l)
 by_cases hg : 0 < g
 ·rw [decide_eq_true hg,Bool.true_and] at h ⊢
  exact decide_eq_false (by have:=of_decide_eq_false h; omega)
 ·rw [decide_eq_false hg,Bool.false_and]
theorem J2W {mk g c : Nat} {l : List Nat} (hc : c ≠ mk) (h : vio mk g l = false) : vio mk g (l ++ [c]) = false:=by
 unfold vio at h ⊢
 have h1:=List.Sublist.count_le mk (Jb0 (show g ≤ g + 1 by omega) l)
 rw [J5d,List.count_append,List.count_singleton,if_neg (by simpa using hc)]
 by_cases hg : 0 < g
 ·rw [decide_eq_true hg,Bool.true_and] at h ⊢
  exact decide_eq_false (by have:=of_decide_eq_false h; omega)
 ·rw [decide_eq_false hg,Bool.false_and]
theorem J6l {mk g : Nat} {l : List Nat} (hg : 0 < g) : vio mk g (l ++ [mk]) = (la g l).contains mk:=by
 unfold vio
 rw [J5d,List.count_append,List.count_singleton,if_pos (by simp),decide_eq_true hg,Bool.true_and]
 by_cases h : mk ∈ la g l
 ·rw [decide_eq_true (by have:=List.count_pos_iff.mpr h; omega)]
  exact (List.contains_iff_mem.mpr h).symm
 ·rw [List.count_eq_zero.mpr h]
  have : (la g l).contains mk = false:=Bool.eq_false_iff.mpr fun z=>h (List.contains_iff_mem.mp z)
  rw [this]
  rfl
noncomputable def SR (mk g : Nat) (ms : List Nat) : Nat → List (List Nat)
 | 0=>[[]]
 | n + 1=>(JC ms (SR mk g ms n)).filter fun r=>!vio mk g r
noncomputable def noMk (mk j : Nat) (l : List Nat) : Bool:=!(la j l).contains mk
theorem J4t (mk j : Nat) (l : List Nat) (c : Nat) : noMk mk (j + 1) (l ++ [c]) = (noMk mk j l && !decide (c = mk)):=by
 unfold noMk
 rw [J5d,List.contains_eq_any_beq,List.any_append,← List.contains_eq_any_beq,Bool.not_or]
 congr 2
 rw [List.any_cons,List.any_nil,Bool.or_false]
 by_cases h : c = mk
 ·subst h
  rw [decide_eq_true rfl]
  exact beq_self_eq_true _
 ·rw [decide_eq_false h]
  exact beq_eq_false_iff_ne.mpr fun z=>h z.symm
theorem J9B {mk g : Nat} {ms : List Nat} : ∀ {n : Nat} {r : List Nat},r ∈ SR mk g ms n → vio mk g r = false
 | 0,r,h=>by rw [List.mem_singleton.mp h]; exact J81 _ _
 | n + 1,r,h=>by simpa using (List.mem_filter.mp h).2
theorem J2D (ms : List Nat) (p : List Nat → Bool) : ∀ L : List (List Nat),((JC ms L).filter p).length = (L.map fun r=>(ms.filter fun c=>p (r ++ [c])).length).sum
 | []=>rfl
 | r :: L=>by
  have : JC ms (r :: L) = (ms.map fun c=>r ++ [c]) ++ JC ms L:=rfl
  rw [this,List.filter_append,List.length_append,J2D ms p L,List.map_cons,List.sum_cons,List.filter_map,List.length_map]
  rfl
theorem J5p (p : List Nat → Bool) (a : Nat) : ∀ L : List (List Nat),(L.map fun r=>if p r = true then a else 0).sum = a * (L.filter p).length
 | []=>rfl
 | r :: L=>by
  rw [List.map_cons,List.sum_cons,J5p p a L,List.filter_cons]
  by_cases h : p r = true
  ·rw [if_pos h,if_pos h,List.length_cons,Nat.mul_add,Nat.mul_one,Nat.add_comm]
  ·rw [if_neg h,if_neg h,Nat.zero_add]
theorem J5v (a : Nat) : ∀ L : List (List Nat),(L.map fun _=>a).sum = a * L.length
 | []=>rfl
 | r :: L=>by
  rw [List.map_cons,List.sum_cons,J5v a L,List.length_cons,Nat.mul_add,Nat.mul_one,Nat.add_comm]
theorem J7L (f g : List Nat → Nat) : ∀ L : List (List Nat),(L.map fun r=>f r + g r).sum = (L.map f).sum + (L.map g).sum
 | []=>rfl
 | r :: L=>by
  rw [List.map_cons,List.sum_cons,J7L f g L,List.map_cons,List.map_cons,List.sum_cons,List.sum_cons]
  omega
theorem J78 {mk : Nat} : ∀ {ms : List Nat},ms.Nodup → mk ∈ ms → (ms.filter fun c=>!decide (c = mk)).length = ms.length - 1
 | [],_,h=>by cases h
 | x :: ms,hn,h=>by
  obtain ⟨h1,h2⟩:=List.nodup_cons.mp hn
  rw [List.filter_cons]
  by_cases e : x = mk
  ·subst e
   rw [decide_eq_true rfl,if_neg (by decide)]
   rw [List.filter_eq_self.mpr fun a ha=>by rw [decide_eq_false (fun z : a = x=>h1 (z ▸ ha))]; rfl]
   rfl
  ·have hm : mk ∈ ms:=(List.mem_cons.mp h).resolve_left fun z=>e z.symm
   rw [decide_eq_false e,if_pos (by decide),List.length_cons,J78 h2 hm,List.length_cons]
   have:=List.length_pos_of_mem hm
   omega
theorem Jap {mk : Nat} {ms : List Nat} (hn : ms.Nodup) (hm : mk ∈ ms) (p : Nat → Bool) (hp : ∀ c ∈ ms,c ≠ mk → p c = true) : (ms.filter p).length = (ms.length - 1) + if p mk = true then 1 else 0:=by
 by_cases h : p mk = true
 ·rw [if_pos h,List.filter_eq_self.mpr fun c hc=>by
   by_cases e : c = mk
   ·rw [e]; exact h
   ·exact hp c hc e]
  have:=List.length_pos_of_mem hm
  omega
 ·rw [if_neg h,Nat.add_zero,← J78 hn hm]
  congr 1
  refine List.filter_congr fun c hc=>?_
  by_cases e : c = mk
  ·rw [e,decide_eq_true rfl]; exact Bool.eq_false_iff.mpr h
  ·rw [decide_eq_false e]; exact hp c hc e
section
variable {mk g : Nat} {ms : List Nat}
theorem Jbb (hn : ms.Nodup) (hm : mk ∈ ms) (n j : Nat) : ((SR mk g ms (n + 1)).filter (noMk mk (j + 1))).length = (ms.length - 1) * ((SR mk g ms n).filter (noMk mk j)).length:=by
 show ((((JC ms (SR mk g ms n)).filter fun r=>!vio mk g r)).filter (noMk mk (j + 1))).length = _
 rw [List.filter_filter,J2D,← J5p]
 congr 1
 refine List.map_congr_left fun r hr=>?_
 have hv:=J9B hr
 by_cases h : noMk mk j r = true
 ·rw [if_pos h,← J78 hn hm]
  congr 1
  refine List.filter_congr fun c hc=>?_
  rw [J4t,h,Bool.true_and]
  by_cases e : c = mk
  ·rw [decide_eq_true e]; rfl
  ·rw [decide_eq_false e,J2W e hv]; rfl
 ·rw [if_neg h]
  refine List.length_eq_zero_iff.mpr (List.filter_eq_nil_iff.mpr fun c hc=>?_)
  rw [J4t,Bool.eq_false_iff.mpr h]
  exact Bool.false_ne_true
theorem Jbn (hn : ms.Nodup) (hm : mk ∈ ms) (hg : 0 < g) (n : Nat) : (SR mk g ms (n + 1)).length = (ms.length - 1) * (SR mk g ms n).length + ((SR mk g ms n).filter (noMk mk g)).length:=by
 show ((JC ms (SR mk g ms n)).filter fun r=>!vio mk g r).length = _
 rw [J2D,← J5v,← Nat.one_mul ((SR mk g ms n).filter (noMk mk g)).length,← J5p,← J7L]
 congr 1
 refine List.map_congr_left fun r hr=>?_
 have hv:=J9B hr
 rw [Jap hn hm _ fun c hc e=>by rw [J2W e hv]; rfl,J6l hg]
 rfl
theorem Ja3 (n : Nat) : (SR mk 0 ms (n + 1)).length = ms.length * (SR mk 0 ms n).length:=by
 show ((JC ms (SR mk 0 ms n)).filter fun r=>!vio mk 0 r).length = _
 rw [J2D,← J5v]
 congr 1
 refine List.map_congr_left fun r hr=>?_
 have e : ∀ l,(!vio mk 0 l) = true:=fun l=>rfl
 rw [List.filter_eq_self.mpr fun c _=>e (r ++ [c])]
theorem JaF (hn : ms.Nodup) (hm : mk ∈ ms) : ∀ n j,((SR mk g ms n).filter (noMk mk j)).length = (ms.length - 1) ^ (min j n) * (SR mk g ms (n - j)).length
 | 0,j=>by
  rw [Nat.min_zero,Nat.pow_zero,Nat.one_mul,Nat.zero_sub]
  show ([[]].filter (noMk mk j)).length = 1
  have : noMk mk j [] = true:=by unfold noMk la; rw [List.drop_nil]; rfl
  rw [List.filter_cons,if_pos this]
  rfl
 | n + 1,0=>by
  rw [Nat.zero_min,Nat.pow_zero,Nat.one_mul,Nat.sub_zero,List.filter_eq_self.mpr fun r _=>by
   unfold noMk la
   rw [Nat.sub_zero,List.drop_eq_nil_of_le (Nat.le_refl _)]
   rfl]
 | n + 1,j + 1=>by
  rw [Jbb hn hm,JaF hn hm n j,Nat.add_min_add_right,Nat.pow_succ,Nat.add_sub_add_right,← Nat.mul_assoc,Nat.mul_comm (ms.length - 1)]
theorem Jbk (hn : ms.Nodup) (hm : mk ∈ ms) (n : Nat) : (SR mk g ms n).length = cntF ms.length g n:=by
 induction n using Nat.strongRecOn with
 | ind n ih =>
  cases n with
  | zero=>rw [cntF]; rfl
  | succ n =>
   rw [cntF]
   by_cases hg : g = 0
   ·rw [if_pos hg]
    subst hg
    rw [Ja3,ih n (by omega)]
   ·rw [if_neg hg,Jbn hn hm (by omega),JaF hn hm,ih n (by omega),ih (n - g) (by omega)]
end
theorem J3M {k : Nat} : ∀ (rows : List (List Nat)) (st : List (List Nat) × List (List Nat)),rows.Nodup → (∀ r ∈ rows,Jw k r = r ∧ ¬ r ∈ st.2) → rows.foldl (newF k) st = (st.1 ++ rows,st.2 ++ rows)
 | [],st,_,_=>by rw [List.append_nil,List.append_nil]; rfl
 | r :: rows,st,hn,h=>by
  obtain ⟨h1,h2⟩:=List.nodup_cons.mp hn
  obtain ⟨e,hni⟩:=h r List.mem_cons_self
  have e2 : newF k st r = (st.1 ++ [r],st.2 ++ [r]):=by unfold newF; rw [e,if_neg hni]
  rw [List.foldl_cons,e2,J3M rows _ h2 fun x hx=>⟨(h x (List.mem_cons_of_mem _ hx)).1,fun hz=>?_⟩,List.append_assoc,List.append_assoc]
  ·rfl
  ·rcases List.mem_append.mp hz with hz | hz
   ·exact (h x (List.mem_cons_of_mem _ hx)).2 hz
   ·exact h1 (List.mem_singleton.mp hz ▸ hx)
theorem J62 {k : Nat} : ∀ (rows : List (List Nat)) (st : List (List Nat) × List (List Nat)),(∀ r ∈ rows,Jw k r ∈ st.2) → rows.foldl (newF k) st = st
 | [],st,_=>rfl
 | r :: rows,st,h=>by
  have e2 : newF k st r = st:=by unfold newF; rw [if_pos (h r List.mem_cons_self)]
  rw [List.foldl_cons,e2,J62 rows st fun x hx=>h x (List.mem_cons_of_mem _ hx)]
theorem J34 {ms : List Nat} (hm : ms.Nodup) : ∀ {L : List (List Nat)},L.Nodup → (JC ms L).Nodup
 | [],_=>List.nodup_nil
 | r :: L,h=>by
  obtain ⟨h1,h2⟩:=List.nodup_cons.mp h
  show ((ms.map fun c=>r ++ [c]) ++ JC ms L).Nodup
  refine List.nodup_append.mpr ⟨?_,J34 hm h2,?_⟩
  ·refine List.Pairwise.map _ (fun a b hab e=>hab ?_) hm
   have:=List.append_inj_right e rfl
   injection this
  ·rintro a ha b hb rfl
   obtain ⟨c,_,rfl⟩:=List.mem_map.mp ha
   obtain ⟨r',hr',c',_,e⟩:=JK.mp hb
   have:=(List.append_inj' e rfl).1
   exact h1 (this ▸ hr')
noncomputable def Spd (mk g : Nat) (l : List Nat) : Prop:=∀ i,vio mk g (l.take i) = false
theorem Spd.nil {mk g : Nat} : Spd mk g []:=fun i=>by rw [List.take_nil]; exact J81 _ _
theorem Spd.snoc {mk g c : Nat} {l : List Nat} : Spd mk g (l ++ [c]) ↔ Spd mk g l ∧ vio mk g (l ++ [c]) = false:=by
 refine ⟨fun h=>⟨fun i=>?_,?_⟩,fun ⟨h1,h2⟩ i=>?_⟩
 ·have:=h (min i l.length)
  rw [List.take_append_of_le_length (by omega)] at this
  rcases Nat.lt_or_ge i l.length with y | y
  ·rwa [Nat.min_eq_left (by omega)] at this
  ·rw [Nat.min_eq_right y,List.take_of_length_le (Nat.le_refl _)] at this
   rwa [List.take_of_length_le y]
 ·have:=h (l ++ [c]).length
  rwa [List.take_of_length_le (Nat.le_refl _)] at this
 ·rcases Nat.lt_or_ge l.length i with y | y
  ·rw [List.take_of_length_le (by rw [List.length_append,List.length_singleton]; omega)]; exact h2
  ·rw [List.take_append_of_le_length y]; exact h1 i
theorem Spd.cons {mk g c : Nat} {l : List Nat} (h : Spd mk g (c :: l)) : Spd mk g l:=fun i=>by
 have:=h (i + 1)
 rw [List.take_succ_cons] at this
 exact J9A this
theorem Spd.drop {mk g : Nat} : ∀ (n : Nat) {l : List Nat},Spd mk g l → Spd mk g (l.drop n)
 | 0,l,h=>by rw [List.drop_zero]; exact h
 | n + 1,[],h=>by rw [List.drop_nil]; exact h
 | n + 1,c :: l,h=>by rw [List.drop_succ_cons]; exact Spd.drop n h.cons
theorem J7T {l : List Nat} {n : Nat} (h : l.length = n + 1) : ∃ r c,l = r ++ [c] ∧ r.length = n:=by
 have hne : l ≠ []:=fun z=>by rw [z] at h; cases h
 refine ⟨l.dropLast,l.getLast hne,(List.dropLast_concat_getLast hne).symm,?_⟩
 rw [List.length_dropLast]
 omega
theorem J2t {mk g : Nat} {ms : List Nat} : ∀ {n : Nat} {r : List Nat},r ∈ SR mk g ms n ↔ r.length = n ∧ JW ms r ∧ Spd mk g r
 | 0,r=>by
  refine ⟨fun h=>?_,fun h=>List.mem_singleton.mpr (List.length_eq_zero_iff.mp h.1)⟩
  rw [List.mem_singleton.mp h]
  exact ⟨rfl,fun c hc=>(by cases hc),Spd.nil⟩
 | n + 1,r=>by
  refine ⟨fun h=>?_,fun ⟨h1,h2,h3⟩=>?_⟩
  ·obtain ⟨ha,hb⟩:=List.mem_filter.mp h
   obtain ⟨r0,h0,c,hc,rfl⟩:=JK.mp ha
   obtain ⟨k1,k2,k3⟩:=J2t.mp h0
   refine ⟨by rw [List.length_append,k1]; rfl,fun x hx=>?_,Spd.snoc.mpr ⟨k3,by simpa using hb⟩⟩
   rcases List.mem_append.mp hx with hx | hx
   ·exact k2 x hx
   ·rw [List.mem_singleton.mp hx]; exact hc
  ·obtain ⟨r0,c,rfl,hr⟩:=J7T h1
   obtain ⟨k1,k2⟩:=Spd.snoc.mp h3
   refine List.mem_filter.mpr ⟨JK.mpr ⟨r0,J2t.mpr ⟨hr,fun x hx=>h2 x (List.mem_append_left _ hx),k1⟩,c,h2 c (List.mem_append_right _ (List.mem_singleton_self _)),rfl⟩,?_⟩
   rw [k2]
   rfl
theorem J6u {mk g : Nat} {ms : List Nat} (hm : ms.Nodup) : ∀ n,(SR mk g ms n).Nodup
 | 0=>List.pairwise_singleton _ _
 | n + 1=>(J34 hm (J6u hm n)).filter _
theorem itV {mk g : Nat} {ms : List Nat} (hn : ms.Nodup) (hm : mk ∈ ms) (k : Nat) : ∀ n,n ≤ k → (itA (vio mk g) ms k n).1 = SR mk g ms n ∧ (∀ t,t ∈ (itA (vio mk g) ms k n).2 ↔ ∃ i,i ≤ n ∧ t ∈ SR mk g ms i) ∧ (itA (vio mk g) ms k n).2.length = JJ ms.length g (k + 1) n
 | 0,_=>⟨rfl,fun t=>⟨fun h=>⟨0,Nat.le_refl _,h⟩,fun ⟨i,hi,h⟩=>by obtain rfl:=Nat.le_zero.mp hi; exact h⟩,rfl⟩
 | n + 1,hk=>by
  obtain ⟨h1,h2,h3⟩:=itV hn hm k n (by omega)
  have e : itA (vio mk g) ms k (n + 1) = (SR mk g ms (n + 1),(itA (vio mk g) ms k n).2 ++ SR mk g ms (n + 1)):=by
   show newS k ((JC ms (itA (vio mk g) ms k n).1).filter fun r=>!vio mk g r) (itA (vio mk g) ms k n).2 = _
   rw [h1]
   show ((SR mk g ms (n + 1)).foldl (newF k) ([],(itA (vio mk g) ms k n).2)) = _
   rw [J3M (SR mk g ms (n + 1)) ([],(itA (vio mk g) ms k n).2) (J6u hn _) fun r hr=>?_]
   ·rfl
   ·obtain ⟨k1,_,_⟩:=J2t.mp hr
    refine ⟨J0H (by omega),fun hz=>?_⟩
    obtain ⟨i,hi,hz⟩:=(h2 r).mp hz
    have:=(J2t.mp hz).1
    omega
  rw [e]
  refine ⟨rfl,fun t=>?_,?_⟩
  ·show t ∈ (itA (vio mk g) ms k n).2 ++ SR mk g ms (n + 1) ↔ _
   rw [List.mem_append,h2 t]
   refine ⟨fun h=>?_,fun ⟨i,hi,h⟩=>?_⟩
   ·rcases h with ⟨i,hi,h⟩ | h
    ·exact ⟨i,by omega,h⟩
    ·exact ⟨n + 1,Nat.le_refl _,h⟩
   ·rcases Nat.lt_or_ge n i with y | y
    ·have : i = n + 1:=by omega
     subst this
     exact .inr h
    ·exact .inl ⟨i,y,h⟩
  ·show ((itA (vio mk g) ms k n).2 ++ SR mk g ms (n + 1)).length = JJ ms.length g (k + 1) n + (if n + 1 < k + 1 then cntF ms.length g (n + 1) else 0)
   rw [List.length_append,h3,Jbk hn hm,if_pos (by omega)]
theorem J7P {mk g : Nat} {ms : List Nat} (hn : ms.Nodup) (hm : mk ∈ ms) (k : Nat) : (itA (vio mk g) ms k (k + 1)).1 = [] ∧ (itA (vio mk g) ms k (k + 1)).2.length = JJ ms.length g (k + 1) (k + 1):=by
 obtain ⟨h1,h2,h3⟩:=itV hn hm k k (Nat.le_refl _)
 have e : itA (vio mk g) ms k (k + 1) = ([],(itA (vio mk g) ms k k).2):=by
  show newS k ((JC ms (itA (vio mk g) ms k k).1).filter fun r=>!vio mk g r) (itA (vio mk g) ms k k).2 = _
  rw [h1]
  refine J62 (SR mk g ms (k + 1)) ([],(itA (vio mk g) ms k k).2) fun r hr=>(h2 _).mpr ⟨k,Nat.le_refl _,J2t.mpr ?_⟩
  obtain ⟨k1,k2,k3⟩:=J2t.mp hr
  refine ⟨?_,J3W k2,k3.drop _⟩
  unfold Jw
  rw [List.length_drop]
  omega
 rw [e]
 refine ⟨rfl,?_⟩
 show (itA (vio mk g) ms k k).2.length = JJ ms.length g (k + 1) k + (if k + 1 < k + 1 then cntF ms.length g (k + 1) else 0)
 rw [if_neg (by omega),h3]
 rfl
theorem J65 {mk g : Nat} {ms : List Nat} {k : Nat} : ∀ n,∀ r ∈ (itA (vio mk g) ms k n).1,r ∈ SR mk g ms n
 | 0,r,h=>h
 | n + 1,r,h=>by
  have h1:=List.mem_filter.mp (J3a k _ _ r h)
  obtain ⟨r0,h0,c,hc,rfl⟩:=JK.mp h1.1
  exact List.mem_filter.mpr ⟨JK.mpr ⟨r0,J65 n r0 h0,c,hc,rfl⟩,h1.2⟩
theorem J3L {f : List Nat → Bool} {mk g : Nat} {ms : List Nat} {k : Nat} (N : Nat) (h : ∀ l c,JW ms l → Spd mk g l → l.length < N → c ∈ ms → f (l ++ [c]) = vio mk g (l ++ [c])) : ∀ n,n ≤ N → itA f ms k n = itA (vio mk g) ms k n
 | 0,_=>rfl
 | n + 1,hn=>by
  show newS k ((JC ms (itA f ms k n).1).filter fun r=>!f r) (itA f ms k n).2 = newS k ((JC ms (itA (vio mk g) ms k n).1).filter fun r=>!vio mk g r) (itA (vio mk g) ms k n).2
  rw [J3L N h n (by omega)]
  congr 1
  refine List.filter_congr fun x hx=>?_
  obtain ⟨r,hr,c,hc,rfl⟩:=JK.mp hx
  obtain ⟨k1,k2,k3⟩:=J2t.mp (J65 n r hr)
  rw [h r c k2 k3 (by omega) hc]
noncomputable def sfx (wd l : List Nat) : Bool:=decide (wd.length ≤ l.length) && decide (l.drop (l.length - wd.length) = wd)
theorem J1B {wd l : List Nat} : sfx wd l = true ↔ wd.length ≤ l.length ∧ l.drop (l.length - wd.length) = wd:=by
 unfold sfx
 rw [Bool.and_eq_true,decide_eq_true_iff,decide_eq_true_iff]
theorem J9O (wd : List Nat) : sfx wd wd = true:=J1B.mpr ⟨Nat.le_refl _,by rw [Nat.sub_self,List.drop_zero]⟩
structure Told (f h : List Nat → Bool) (ms : List Nat) (k m g : Nat) (len : Int) (wd : List Nat) : Prop where
 l0 : 0 ≤ len
 l1 : len ≤ (k : Int) + 1
 p1 : ∀ n,J1F f h ms n → 0 < len ∧ len ≤ (n : Int) + 1
 p2 : ∀ n : Nat,len = (n : Int) + 1 → J1F f h ms n
 w : ∀ l c,Cl f h ms l → c ∈ ms → (l.length : Int) + 1 = len → f (l ++ [c]) ≠ h (l ++ [c]) → l ++ [c] = wd
 cnt : ∀ j : Nat,j ≤ k + 1 → (len = 0 ∨ (j : Int) < len) → (itA f ms k j).2.length = JJ m g (k + 1) j
 stop : len = 0 → (itA f ms k (k + 1)).1 = []
theorem J1v {ms l : List Nat} {c : Nat} (h : JW ms l) (hc : c ∈ ms) : JW ms (l ++ [c]):=fun x hx=>by
 rcases List.mem_append.mp hx with hx | hx
 ·exact h x hx
 ·rw [List.mem_singleton.mp hx]; exact hc
theorem J7S {f h : List Nat → Bool} {ms wd : List Nat} {k mk g : Nat} {len : Int} {pa pb : Bool} (hn : ms.Nodup) (hm : mk ∈ ms) (pab : (pa && pb) = false)
  (hf : ∀ l,JW ms l → f l = (vio mk g l || (pa && sfx wd l))) (hh : ∀ l,JW ms l → h l = (vio mk g l || (pb && sfx wd l)))
  (hw : (pa || pb) = true → JW ms wd ∧ 1 ≤ wd.length ∧ wd.length ≤ k + 1)
  (hl : (len = 0 ∧ ((pa || pb) = false ∨ ¬ Spd mk g wd)) ∨ (len = (wd.length : Int) ∧ (pa || pb) = true ∧ Spd mk g wd)) : Told f h ms k ms.length g len wd:=by
 have hcl : ∀ l,Cl f h ms l → JW ms l ∧ Spd mk g l:=fun l hc=>by
  induction hc with
  | nil=>exact ⟨fun c hc=>(by cases hc),Spd.nil⟩
  | @snoc l c _ hc h1 _ ih =>
   have ho:=J1v ih.1 hc
   rw [hf _ ho,Bool.or_eq_false_iff] at h1
   exact ⟨ho,Spd.snoc.mpr ⟨ih.2,h1.1⟩⟩
 have hsp : ∀ l c,Spd mk g l → sfx wd (l ++ [c]) = true → vio mk g (l ++ [c]) = false → Spd mk g wd:=fun l c h1 h2 h3=>by
  rw [← (J1B.mp h2).2]
  exact Spd.drop _ (Spd.snoc.mpr ⟨h1,h3⟩)
 have hdif : ∀ l c,Cl f h ms l → c ∈ ms → f (l ++ [c]) ≠ h (l ++ [c]) → (pa || pb) = true ∧ sfx wd (l ++ [c]) = true ∧ Spd mk g wd:=fun l c h1 hc hd=>by
  obtain ⟨ho,hs⟩:=hcl l h1
  rw [hf _ (J1v ho hc),hh _ (J1v ho hc)] at hd
  have hv : vio mk g (l ++ [c]) = false:=by
   cases e : vio mk g (l ++ [c]) with
   | false=>rfl
   | true=>rw [e,Bool.true_or,Bool.true_or] at hd; exact absurd rfl hd
  rw [hv,Bool.false_or,Bool.false_or] at hd
  have h2 : sfx wd (l ++ [c]) = true:=by
   cases e : sfx wd (l ++ [c]) with
   | true=>rfl
   | false=>rw [e,Bool.and_false,Bool.and_false] at hd; exact absurd rfl hd
  have h3 : (pa || pb) = true:=by
   cases pa <;> cases pb <;> first | rfl | exact absurd rfl hd
  exact ⟨h3,h2,hsp l c hs h2 hv⟩
 have hsame : ∀ N : Nat,(len = 0 ∨ (N : Int) < len) → ∀ l c,JW ms l → Spd mk g l → l.length < N → c ∈ ms → f (l ++ [c]) = vio mk g (l ++ [c]):=fun N hN l c ho hs hlt hc=>by
  rw [hf _ (J1v ho hc)]
  cases hv : vio mk g (l ++ [c]) with
  | true=>rfl
  | false =>
   rw [Bool.false_or]
   cases hp : pa with
   | false=>rfl
   | true =>
    rw [Bool.true_and]
    refine Bool.eq_false_iff.mpr fun z=>?_
    have hS:=hsp l c hs z hv
    have hlen:=(J1B.mp z).1
    rw [List.length_append,List.length_singleton] at hlen
    rcases hl with ⟨_,y | y⟩ | ⟨e,y,_⟩
    ·rw [hp] at y; cases y
    ·exact y hS
    ·have:=(hw y).2.1
     omega
 refine ⟨?_,?_,fun n ⟨l,c,h1,h2,hc,hd⟩=>?_,fun n e=>?_,fun l c h1 hc e hd=>?_,fun j hj hlj=>?_,fun e=>?_⟩
 ·omega
 ·rcases hl with ⟨e,_⟩ | ⟨e,y,_⟩
  ·omega
  ·have:=(hw y).2.2
   omega
 ·obtain ⟨z1,z2,z3⟩:=hdif l c h1 hc hd
  have hlen:=(J1B.mp z2).1
  rw [List.length_append,List.length_singleton] at hlen
  rcases hl with ⟨e,y | y⟩ | ⟨e,y,_⟩
  ·rw [z1] at y; cases y
  ·exact absurd z3 y
  ·have:=(hw y).2.1
   omega
 ·rcases hl with ⟨e',_⟩ | ⟨e',y,hS⟩
  ·omega
  obtain ⟨ho,w1,w2⟩:=hw y
  obtain ⟨l,c,rfl,hln⟩:=J7T (l:=wd) (n:=n) (by omega)
  obtain ⟨s1,s2⟩:=Spd.snoc.mp hS
  have hol : JW ms l:=fun x hx=>ho x (List.mem_append_left _ hx)
  have hc : c ∈ ms:=ho c (List.mem_append_right _ (List.mem_singleton_self _))
  have clean : ∀ i,i ≤ l.length → Cl f h ms (l.take i):=fun i=>by
   induction i with
   | zero=>intro _; exact .nil
   | succ i ih =>
    intro hi
    have hx : l[i]? = some l[i]:=List.getElem?_eq_getElem (by omega)
    have ht : l.take (i + 1) = l.take i ++ [l[i]]:=by rw [List.take_add_one,hx]; rfl
    have hv:=s1 (i + 1)
    have hov : JW ms (l.take i ++ [l[i]]):=J1v (fun x hx=>hol x (List.mem_of_mem_take hx)) (hol _ (List.getElem_mem _))
    have hns : sfx (l ++ [c]) (l.take i ++ [l[i]]) = false:=by
     refine Bool.eq_false_iff.mpr fun z=>?_
     have:=(J1B.mp z).1
     rw [List.length_append,List.length_append,List.length_take,List.length_singleton,List.length_singleton] at this
     omega
    rw [ht] at hv ⊢
    refine .snoc (ih (by omega)) (hol _ (List.getElem_mem _)) ?_ ?_
    ·rw [hf _ hov,hv,hns,Bool.and_false]; rfl
    ·rw [hh _ hov,hv,hns,Bool.and_false]; rfl
  have hc2:=clean l.length (Nat.le_refl _)
  rw [List.take_of_length_le (Nat.le_refl _)] at hc2
  refine ⟨l,c,hc2,hln,hc,?_⟩
  rw [hf _ ho,hh _ ho,s2,J9O,Bool.and_true,Bool.and_true,Bool.false_or,Bool.false_or]
  intro z
  rw [z,Bool.or_self] at y
  rw [z,y] at pab
  cases pab
 ·obtain ⟨z1,z2,z3⟩:=hdif l c h1 hc hd
  obtain ⟨z4,z5⟩:=J1B.mp z2
  rcases hl with ⟨e',_⟩ | ⟨e',_,_⟩
  ·omega
  ·have : (l ++ [c]).length - wd.length = 0:=by rw [List.length_append,List.length_singleton]; omega
   rw [this,List.drop_zero] at z5
   exact z5
 ·rw [J3L j (hsame j hlj) j (Nat.le_refl _)]
  rcases Nat.lt_or_ge k j with y | y
  ·have : j = k + 1:=by omega
   subst this
   exact (J7P hn hm k).2
  ·exact (itV hn hm k j y).2.2
 ·rw [J3L (k + 1) (hsame (k + 1) (.inl e)) (k + 1) (Nat.le_refl _)]
  exact (J7P hn hm k).1
theorem J6k {x y : Nat} (h1 : x ≠ 63) (h2 : x ≠ 35) : J0N (T [x]) (T [y]) = decide (x = y):=by
 have e : ∀ a b : Nat,T [a] = T [b] → a = b:=fun a b h=>by
  have:=J5g (V.str.inj h)
  injection this
 unfold J0N
 rw [decide_eq_false fun z=>h1 (e _ _ z),decide_eq_false fun z=>h2 (e _ _ z)]
 by_cases h : x = y
 ·subst h; rw [decide_eq_true rfl,decide_eq_true rfl]; rfl
 ·rw [decide_eq_false h,decide_eq_false fun z=>h (e _ _ z)]; rfl
noncomputable def J4r (w : List Nat) : Prop:=∀ x ∈ w,x ≠ 63 ∧ x ≠ 35
theorem J4J : ∀ x ∈ alf,x ≠ 63 ∧ x ≠ 35:=by decide
theorem J7H : ∀ (w l : List Nat),J4r w → w.length = l.length → (((w.zip l).map fun p=>J0N (T [p.1]) (T [p.2])).all id = true ↔ l = w)
 | [],[],_,_=>⟨fun _=>rfl,fun _=>rfl⟩
 | x :: w,y :: l,hp,hl=>by
  obtain ⟨p1,p2⟩:=hp x List.mem_cons_self
  have ih:=J7H w l (fun z hz=>hp z (List.mem_cons_of_mem _ hz)) (by simpa using hl)
  rw [List.zip_cons_cons,List.map_cons,List.all_cons,Bool.and_eq_true,ih]
  show J0N (T [x]) (T [y]) = true ∧ _ ↔ _
  rw [J6k p1 p2,decide_eq_true_iff,List.cons.injEq]
  exact ⟨fun ⟨a,b⟩=>⟨a.symm,b⟩,fun ⟨a,b⟩=>⟨a.symm,b⟩⟩
theorem J7Z {w : List Nat} (hp : J4r w) (l : List Nat) : nevB w l = sfx w l:=by
 unfold nevB sfx
 by_cases h : l.length < w.length
 ·rw [if_pos h,decide_eq_false (by omega),Bool.false_and]
 ·rw [if_neg h,decide_eq_true (by omega),Bool.true_and]
  have:=J7H w (l.drop (l.length - w.length)) hp (by rw [List.length_drop]; omega)
  by_cases e : l.drop (l.length - w.length) = w
  ·rw [decide_eq_true e,this.mpr e]
  ·rw [decide_eq_false e]; exact Bool.eq_false_iff.mpr fun z=>e (this.mp z)
theorem J6B {ms w l : List Nat} (h : JW ms l) (hs : sfx w l = true) : JW ms w:=by
 rw [← (J1B.mp hs).2]
 exact fun x hx=>h x (List.mem_of_mem_drop hx)
theorem J8J {mk : Nat} (h1 : mk ≠ 63) (h2 : mk ≠ 35) (l : List Nat) : cntV [mk] l = l.count mk:=by
 unfold cntV
 rw [List.count_eq_length_filter]
 congr 1
 refine List.filter_congr fun c _=>?_
 unfold letV
 rw [List.map_singleton,List.any_cons,List.any_nil,Bool.or_false]
 show J0N (T [mk]) (T [c]) = _
 rw [J6k h1 h2]
 by_cases h : mk = c
 ·subst h; rw [decide_eq_true rfl,beq_self_eq_true]
 ·rw [decide_eq_false h]; exact (beq_eq_false_iff_ne.mpr fun z=>h z.symm).symm
theorem J6s {mk g : Nat} (h1 : mk ≠ 63) (h2 : mk ≠ 35) (hg : 0 < g) (l : List Nat) : (R.most 1 [mk] ((g : Int) + 1)).bad l = vio mk g l:=by
 show J2J 1 [mk] ((g : Int) + 1) l = _
 unfold J2J vio la
 rw [J8J h1 h2,decide_eq_true hg,Bool.true_and,show ((g : Int) + 1).toNat = g + 1 by omega]
 by_cases h : 1 < (l.drop (l.length - (g + 1))).count mk
 ·rw [decide_eq_true h]; exact decide_eq_true (by omega)
 ·rw [decide_eq_false h]; exact decide_eq_false (by omega)
theorem Jb7 (m l : List Nat) (d : Nat) : cntV m (l.drop (l.length - d)) ≤ d:=by
 unfold cntV
 refine Nat.le_trans (List.length_filter_le _ _) ?_
 rw [List.length_drop]
 omega
structure Free (ms : List Nat) (r : R) (d : Int) : Prop where
 fine : r.fine
 noE : r.noE
 dep : r.depth ≤ 2
 far : r.reach = d
 ok : ∀ l,JW ms l → r.bad l = false
theorem J4C {ms : List Nat} {d : Int} (m : List Nat) (n : Int) (h1 : 1 ≤ d) (h7 : d ≤ 7) (hn : d ≤ n) : Free ms (.most n m d) d:=by
 refine ⟨⟨h1,h7⟩,trivial,(by show 0 ≤ 2; omega),rfl,fun l _=>?_⟩
 show J2J n m d l = false
 unfold J2J
 have:=Jb7 m l d.toNat
 exact decide_eq_false (by omega)
theorem J7o {ms : List Nat} {d : Int} (m : List Nat) (h1 : 1 ≤ d) (h7 : d ≤ 7) : Free ms (.least 0 m d) d:=by
 refine ⟨⟨h1,h7⟩,trivial,(by show 0 ≤ 2; omega),rfl,fun l _=>?_⟩
 show J1k 0 m d l = false
 unfold J1k
 split
 ·rfl
 ·exact decide_eq_false (by omega)
theorem J96 {ms : List Nat} {d : Int} (m : List Nat) (h1 : 1 ≤ d) (h7 : d ≤ 7) : Free ms (.neg (.neg (.most d m d))) d:=by
 refine ⟨⟨h1,h7⟩,trivial,(by show 2 ≤ 2; omega),rfl,fun l ho=>?_⟩
 show (!(!(R.most d m d).bad l)) = false
 rw [(J4C (ms:=ms) m d h1 h7 (Int.le_refl _)).ok l ho]
 rfl
theorem J9w {ms w : List Nat} (h1 : 1 ≤ w.length) (h7 : w.length ≤ 7) (hp : J4r w) (hs : ∃ x ∈ w,¬ x ∈ ms) : Free ms (.nev w) w.length:=by
 refine ⟨⟨h1,h7⟩,trivial,(by show 0 ≤ 2; omega),rfl,fun l ho=>?_⟩
 show nevB w l = false
 rw [J7Z hp]
 obtain ⟨x,hx,hn⟩:=hs
 exact Bool.eq_false_iff.mpr fun z=>hn (J6B ho z x hx)
noncomputable def J8b (c6 : Cs) : Sp:=fun vs H Q _=>∃ (c d : Int) (st : Addr) (ss ms : List Nat),vs = [.int c,.int d,.ref st] ∧ 1 ≤ d ∧ d ≤ 7 ∧ H st = some (.lst (ss.map fun x=>T [x])) ∧ 1 ≤ ss.length ∧ ss.length ≤ 26 ∧ (∀ x ∈ ss,x ≠ 63 ∧ x ≠ 35 ∧ ¬ x ∈ ms) ∧ ∀ (p : Addr) (r : R) H',Same H H' → Jr c6 H' r p → Free ms r d → Q (.ref p) H'
noncomputable def J8Q : Sp:=fun vs H Q _=>∃ (wd : List Nat) (mk g : Nat),vs = [T wd,T [mk],.int (g : Nat)] ∧ wd.length ≤ 7 ∧ g ≤ 3 ∧ ∀ b : Bool,(b = true ↔ Spd mk g wd) → Q (.bl b) H
section
variable {P : Program} {w : World} {K : PySem.W.Frag} {mg : Str → Option Value} {base : Heap} {J5 J9 J4 Jb Je J2 J1 J8 : Addr}
theorem J6R (tx : Tx K mg J5 J9 J4 Jb Je J2 J1 J8) : FnG P w K mg base "_law_free" 4 ["_law_cell","_law_days","_law_strange"] (J8b (cs6 J5 J9 J4 Jb Je J2 J1 J8)):=by
 have J2y:=tx.J0X.g (J2A (P:=P) (w:=w) (base:=base) tx)
 have J2n:=tx.J16.g (J2Z (P:=P) (w:=w) (base:=base) tx)
 have J7z:=tx.J0w.g (J54 (P:=P) (w:=w) (base:=base) tx)
 have J8N:=tx.J3z.g (J6L (P:=P) (w:=w) (base:=base) tx)
 refine tx.J6S.g J5H (fun _ _ _ _ _ _ us hl=>match us,hl with | [_,_,_],_=>rfl) (fun vs H Q E h=>?_) (fun f cdv A outer s H vs Q E hr h=>?_)
 ·obtain ⟨c,d,st,ss,ms,rfl,_⟩:=h
  rfl
 ·obtain ⟨c,d,st,ss,ms,rfl,d1,d7,hst,s1,s26,hss,q⟩:=h
  refine ⟨_,(J6 (JZ (Ju J13 (Jh J02 (pv 0) Ja) Ja (Jy _)) (Jc (Jn (J1m (r:=J6x (cs6 J5 J9 J4 Jb Je J2 J1 J8)) J2n (hr.mono (by decide)) J39 (J0 Ja (J0 (JM (l:=[35,45]) (by decide +kernel)) (J0 (pv 1) J7)))))) Jx)
   (J6 (JZ (Ju J13 (Jh J02 (pv 0) Ja) Ja (Jy _)) (Jc (Jn (J1m (r:=J9a (cs6 J5 J9 J4 Jb Je J2 J1 J8)) J7z (hr.mono (by decide)) J9g (J0 Ja (J0 (JM (l:=[45]) (by decide +kernel)) (J0 (pv 1) J7)))))) Jx)
   (J6 (JZ (Ju J13 (Jh J02 (pv 0) Ja) Ja (Jy _)) (Jc (Jn (J1m (r:=rNot (cs6 J5 J9 J4 Jb Je J2 J1 J8)) J8N (hr.mono (by decide)) J9s (J0 (J1m (r:=rNot (cs6 J5 J9 J4 Jb Je J2 J1 J8)) J8N (hr.mono (by decide)) J9s (J0 (J1m (r:=J6x (cs6 J5 J9 J4 Jb Je J2 J1 J8)) J2n (hr.mono (by decide)) J39 (J0 (pv 1) (J0 (JM (l:=[35]) (by decide +kernel)) (J0 (pv 1) J7)))) J7)) J7)))) Jx)
   (Jc (Jn (J1m (r:=rNev (cs6 J5 J9 J4 Jb Je J2 J1 J8)) J2y (hr.mono (by decide)) J9k (J0 (Jh J8H (J15 (J1l (K:=K) rfl) (pv 2) (Jh J02 (Jh J1a (pv 0) Ja) (Jk (J0v (K:=K) rfl) rfl tx.J0q PySem.boot_len (J0 (pv 2) J7))) (fun _ _=>rfl)) (pv 1)) J7))))))),?_⟩
  walk_at "st"
  clear J2y J2n J7z J8N
  have el : (ss.map fun x=>T [x]).length = ss.length:=List.length_map _
  have l0 : (0 : Int) < ((ss.map fun x=>T [x]).length : Int):=by omega
  have lle : (ss.map fun x=>T [x]).length ≤ 1000:=by omega
  walk_at "rd"
  refine ite2 (fun _=>?_) (fun _=>?_)
  ·walk_at "rd"
   intro p H1 s1 h1
   exact q p _ H1 s1 h1 (J4C _ _ d1 d7 d7)
  walk_at "rd"
  refine ite2 (fun _=>?_) (fun _=>?_)
  ·walk_at "rd"
   intro p H1 s1 h1
   exact q p _ H1 s1 h1 (J7o _ d1 d7)
  walk_at "rd"
  refine ite2 (fun _=>?_) (fun _=>?_)
  ·walk_at "rd"
   intro p H1 s1 h1
   walk_at "rd"
   intro p2 d2 H2 s2 h2 _
   walk_at "rd"
   intro p3 d3 H3 s3 h3 _
   exact q p3 _ H3 ((s1.trans s2).trans s3) h3 (J96 _ d1 d7)
  obtain ⟨v,hv,hv2⟩:=J1o (ss.map fun x=>T [x]) (c / 6 % ((ss.map fun x=>T [x]).length : Int)) (Int.emod_nonneg _ (by omega)) (Int.emod_lt_of_pos _ l0)
  obtain ⟨x,hx,rfl⟩:=List.mem_map.mp (List.mem_of_getElem? hv2)
  obtain ⟨x1,x2,x3⟩:=hss x hx
  have hrl : (List.replicate d.toNat x).length = d.toNat:=List.length_replicate
  have hrl2 : (List.replicate d.toNat x).length ≤ 1000:=by omega
  walk_at "rd"
  intro p H1 s1 h1
  have hF:=J9w (ms:=ms) (w:=List.replicate d.toNat x) (by omega) (by omega) (fun y hy=>by rw [List.eq_of_mem_replicate hy]; exact ⟨x1,x2⟩) ⟨x,List.mem_replicate.mpr ⟨by omega,rfl⟩,x3⟩
  rw [hrl,Int.toNat_of_nonneg (by omega)] at hF
  exact q p _ H1 s1 h1 hF
theorem J4Y (tx : Tx K mg J5 J9 J4 Jb Je J2 J1 J8) : FnG P w K mg base "_law_spaced" 1 ["_law_word_here","_law_mark","_law_gap"] J8Q:=by
 refine tx.J59.g J2a (fun _ _ _ _ _ _ us hl=>match us,hl with | [_,_,_],_=>rfl) (fun vs H Q E h=>?_) (fun f cdv A outer s H vs Q E hr h=>?_)
 ·obtain ⟨wd,mk,g,rfl,_⟩:=h
  rfl
 ·obtain ⟨wd,mk,g,rfl,hw,hg,q⟩:=h
  refine ⟨_,(J6 (J1H PassesOwn.never rfl (J1V rfl tx.J0Y (J0 (Jk JN rfl tx.J0q PySem.boot_len (J0 (pv 0) J7)) J7)) (JH (i:=3) J2a.nd rfl (Or.inl rfl)) (Jc (JZ (PW.pt (J9t (Ju J4F (pv 2) Ja (Jy _)) (J9t (Ju J13 (J15 J5u (pv 0) (pv 3) (fun _ _=>rfl)) (pv 1) (Jy _)) (J9Z (Ju JaV (pv 1) (J1i J2q (pv 0) (J1n (Jk (J0W rfl) rfl tx.J1L J2r (J0 Ja (J0 (Jh J1t (pv 3) (pv 2)) J7)))) (J1n (pv 3))) rfl))))) (Jc (Jn J33)) Jx)))
   (Jc (Jn J33))),?_⟩
  walk_at "st"
  have hw' : wd.length ≤ 1000:=by omega
  walk_at "rd"
  refine J1e (lo:=0) (n:=wd.length) (fun i σ H2=>Here (∃ v3,σ = [some (T wd),some (T [mk]),some (.int (g : Nat)),v3] ∧ Spd mk g (wd.take i) ∧ H2 = H)) (Here.mk ⟨none,rfl,by rw [List.take_zero]; exact Spd.nil,rfl⟩) ?_ ?_
  ·rintro i σ H2 hi hv
   obtain ⟨v3,rfl,hS,eH⟩:=hv.out
   rw [eH]
   clear hv eH
   have hx : wd[i]? = some wd[i]:=List.getElem?_eq_getElem hi
   have ht : wd.take (i + 1) = wd.take i ++ [wd[i]]:=by rw [List.take_add_one,hx]; rfl
   obtain ⟨o,ho,ho2⟩:=J1o wd (0 + (i : Int)) (by omega) (by omega)
   have eo : o = wd[i]:=by
    rw [show (0 + (i : Int)).toNat = i by omega,hx] at ho2
    exact (Option.some.inj ho2).symm
   subst eo
   have hgo : vio mk g (wd.take i ++ [wd[i]]) = false → Spd mk g (wd.take (i + 1)):=fun h=>by rw [ht]; exact Spd.snoc.mpr ⟨hS,h⟩
   have hno : vio mk g (wd.take i ++ [wd[i]]) = true → ¬ Spd mk g wd:=fun h hs=>by
    have:=hs (i + 1)
    rw [ht,h] at this
    cases this
   have hcut:=Ja0 wd (if 0 + (i : Int) - (g : Nat) > 0 then 0 + (i : Int) - (g : Nat) else 0) (0 + (i : Int)) (by split <;> omega) (by omega)
   have ela : (wd.take (0 + (i : Int)).toNat).drop (if 0 + (i : Int) - (g : Nat) > 0 then 0 + (i : Int) - (g : Nat) else 0).toNat = la g (wd.take i):=by
    unfold la
    rw [List.length_take,show (0 + (i : Int)).toNat = i by omega,show min i wd.length - g = (if 0 + (i : Int) - (g : Nat) > 0 then 0 + (i : Int) - (g : Nat) else 0).toNat by split <;> omega]
   rw [ela] at hcut
   walk_at "rd"
   refine ite2 (fun z=>?_) (fun z=>?_)
   ·have z' : 0 < g:=by have:=of_decide_eq_true z; omega
    walk_at "rd"
    refine ite2 (fun y=>?_) (fun y=>?_)
    ·have y' : wd[i] = mk:=by
      have:=J5g (V.str.inj (of_decide_eq_true y))
      injection this
     walk_at "rd"
     rw [hcut]
     have hvm:=J6l (mk:=mk) (l:=wd.take i) z'
     rw [y'] at hgo hno
     refine ite2 (fun u=>?_) (fun u=>?_)
     ·have u':=of_decide_eq_true u
      walk_at "rd"
      refine q false ⟨fun h=>(by cases h),fun h=>absurd h (hno ?_)⟩
      rw [hvm]
      exact List.contains_iff_mem.mpr u'
     ·have u':=of_decide_eq_false (Bool.eq_false_iff.mpr u)
      walk_at "rd"
      refine Here.mk ⟨_,rfl,hgo ?_,rfl⟩
      rw [hvm]
      exact Bool.eq_false_iff.mpr fun h=>u' (List.contains_iff_mem.mp h)
    ·have y' : wd[i] ≠ mk:=fun e=>y (decide_eq_true (by rw [e]))
     walk_at "rd"
     have hv0:=hS i
     rw [List.take_take,Nat.min_self] at hv0
     exact Here.mk ⟨_,rfl,hgo (J2W y' hv0),rfl⟩
   ·have z' : ¬ 0 < g:=by have:=of_decide_eq_false (Bool.eq_false_iff.mpr z); omega
    walk_at "rd"
    refine Here.mk ⟨_,rfl,hgo ?_,rfl⟩
    unfold vio
    rw [decide_eq_false z',Bool.false_and]
  ·rintro σ H2 hv
   obtain ⟨v3,rfl,hS,eH⟩:=hv.out
   rw [eH]
   rw [List.take_of_length_le (Nat.le_refl _)] at hS
   walk_at "rd"
   exact q true ⟨fun _=>hS,fun _=>rfl⟩
end
noncomputable def J87 (c6 : Cs) : Sp:=fun vs H Q _=>∃ (pa pb du : Addr) (a b : R) (ms wd : List Nat) (m g : Nat) (len : Int),vs = [.ref pa,.ref pb,T ms,.ref du,T wd] ∧ Jr c6 H a pa ∧ Jr c6 H b pb ∧ a.fine ∧ b.fine ∧ a.noE ∧ b.noE ∧ a.depth ≤ 20 ∧ b.depth ≤ 20 ∧ ms.length ≤ 8 ∧ wd.length ≤ 7 ∧ Told a.bad b.bad ms (kept a b) m g len wd ∧
  ((H du = some (.tup [T paT,.int 0]) ∧ ∃ n : Nat,1 ≤ n ∧ (n : Int) = len ∧ ∀ j,j < n → JJ m g (kept a b + 1) j ≤ 400) ∨
   (H du = some (.tup [T wiT,.int 0]) ∧ ∃ n : Nat,1 ≤ n ∧ n ≤ kept a b + 1 ∧ (∀ j : Nat,1 ≤ j → j ≤ n → ¬ (j : Int) = len) ∧ (∀ j,j < n → JJ m g (kept a b + 1) j ≤ 400) ∧ 400 < JJ m g (kept a b + 1) n) ∨
   (H du = some (.tup [T alT,.int (JJ m g (kept a b + 1) (kept a b + 1) : Nat)]) ∧ (∀ j : Nat,1 ≤ j → j ≤ kept a b + 1 → ¬ (j : Int) = len) ∧ (∀ j,j ≤ kept a b + 1 → JJ m g (kept a b + 1) j ≤ 400))) ∧ ∀ H',Q (.bl true) H'
section
variable {P : Program} {w : World} {K : PySem.W.Frag} {mg : Str → Option Value} {base : Heap} {J5 J9 J4 Jb Je J2 J1 J8 : Addr}
theorem J6K (tx : Tx K mg J5 J9 J4 Jb Je J2 J1 J8) : FnG P w K mg base "_law_told" 33 ["_law_one","_law_other","_law_marks_here","_law_due_here","_law_word_here"] (J87 (cs6 J5 J9 J4 Jb Je J2 J1 J8)):=by
 have J2w:=J7x (P:=P) (w:=w) (base:=base) tx
 have J2b:=J48 (P:=P) (w:=w) (base:=base) tx
 refine tx.J6J.g J2Y (fun _ _ _ _ _ _ us hl=>match us,hl with | [_,_,_,_,_],_=>rfl) (fun vs H Q E h=>?_) (fun f cdv A outer s H vs Q E hr h=>?_)
 ·obtain ⟨pa,pb,du,a,b,ms,wd,m,g,len,rfl,_⟩:=h
  rfl
 ·obtain ⟨pa,pb,du,a,b,ms,wd,m,g,len,rfl,ha,hb,fa,fb,ea,eb,da,db,hm,hwl,hT,hD,q⟩:=h
  refine ⟨_,(J6 (JZ (Ju J13 (J15 (J1Y (K:=K) rfl) (pv 3) Ja (fun _ _=>rfl)) (JM (l:=[119,105,100,101]) (by decide +kernel)) (Jy _)) (Jc (Jn (JD J2b (hr.mono (by decide)) (J0 (pv 0) (J0 (pv 1) (J0 (pv 2) J7)))))) Jx)
   (J6 (Jm (i:=5) J2Y.nd rfl (Or.inl rfl) (Jb4 J2w (hr.mono (by decide)) Jbj (J0 (pv 0) (J0 (pv 1) (J0 (pv 2) J7)))))
   (J6 (JZ (Ju J13 (J15 (J1Y (K:=K) rfl) (pv 3) Ja (fun _ _=>rfl)) (JM (l:=[112,97,114,116,101,100]) (by decide +kernel)) (Jy _)) (Jc (Jn (J1C (Jb3 (K:=K) rfl hr.units0) (pv 5) (J1Q (J0 (JM (l:=[112,97,114,116,101,100]) (by decide +kernel)) (J0 (pv 4) J7))) (Jy _)))) Jx)
   (Jc (Jn (J5j (J1C J13 (J15 (J1Y (K:=K) rfl) (pv 5) Ja (fun _ _=>rfl)) (JM (l:=[97,108,105,107,101]) (by decide +kernel)) (Jy _)) (J5j (Jk J7c rfl tx.JR J0Z (J0 (J15 (J1Y (K:=K) rfl) (pv 5) Ja (fun _ _=>rfl)) (J0 (JaA tx.J3i J7l) J7))) (J7q (J1C J13 (Jk (J0v (K:=K) rfl) rfl tx.J0q PySem.boot_len (J0 (J15 (J1Y (K:=K) rfl) (pv 5) Ja (fun _ _=>rfl)) J7)) (J15 (J1Y (K:=K) rfl) (pv 3) Ja (fun _ _=>rfl)) (Jy _)))))))))),?_⟩
  walk_at "st"
  clear J2w J2b
  rcases hD with ⟨hd,n,n1,en,hj⟩ | ⟨hd,n,n1,nr,hno,hj,h4⟩ | ⟨hd,hno,hj⟩
  ·have x0 : atI [T paT,V.int 0] 0 = some (T paT):=rfl
   walk_at "rd"
   refine ⟨fun t l c n2 H2 nt s2 ht hl hl4 hC hc hdf hF hW=>?_,fun n2 H2 s2 hNP h4 hW=>?_,fun t l n2 H2 ss nt nl htl s2 ht hl hp hs hE hW hN=>?_⟩
   ·have hd2:=s2 _ _ hd
    have ew : l ++ [c] = wd:=by
     have h1:=hT.p1 n2 hF.1
     have h2 : n2 ≤ n - 1:=Decidable.byContradiction fun z=>hF.2 (n - 1) (by omega) (hT.p2 (n - 1) (by omega))
     exact hT.w l c hC hc (by omega) hdf
    rw [ew] at ht
    walk_at "rd"
    intro p np
    obtain ⟨H3,e3,y3,s3⟩:=newt (xs:=[T paT,T wd]) np
    show rEqT K (V.ref t) (V.ref p) (upd H2 p (HO.tup [T paT,T wd])) _
    rw [← e3]
    have he : eqVs [T paT,T wd] [T paT,T wd] = true:=J4u rfl
    refine ⟨t,p,_,_,rfl,rfl,SqT.of (s3 _ _ ht),SqT.of y3,rfl,rfl,?_⟩
    rw [he]
    exact q H3
   ·exfalso
    have h1 : ¬ (n : Int) ≤ n2 + 1:=fun z=>hNP (n - 1) (by omega) (hT.p2 (n - 1) (by omega))
    have h2:=hT.l1
    rw [hT.cnt (n2 + 1) (by omega) (.inr (by omega))] at h4
    have:=hj (n2 + 1) (by omega)
    omega
   ·exact absurd (hT.p2 (n - 1) (by omega)) (hN (n - 1))
  ·have x0 : atI [T wiT,V.int 0] 0 = some (T wiT):=rfl
   walk_at "rd"
   refine ⟨⟨n - 1,fun k hk hp=>?_,?_,fun k hk=>?_⟩,fun H2 s2=>q H2⟩
   ·have h1:=hT.p1 k hp
    exact hno len.toNat (by omega) (by omega) (by omega)
   ·have h0:=hT.l0
    have h1 : len = 0 ∨ (n : Int) < len:=by
     rcases Int.lt_or_le 0 len with y | y
     ·exact .inr (Decidable.byContradiction fun z=>hno len.toNat (by omega) (by omega) (by omega))
     ·exact .inl (by omega)
    rw [show n - 1 + 1 = n by omega,hT.cnt n nr h1]
    exact h4
   ·have h0:=hT.l0
    have h1 : len = 0 ∨ (n : Int) < len:=by
     rcases Int.lt_or_le 0 len with y | y
     ·exact .inr (Decidable.byContradiction fun z=>hno len.toNat (by omega) (by omega) (by omega))
     ·exact .inl (by omega)
    rw [hT.cnt k (by omega) (by omega)]
    exact hj k (by omega)
  ·have x0 : atI [T alT,V.int (JJ m g (kept a b + 1) (kept a b + 1) : Nat)] 0 = some (T alT):=rfl
   have x1 : atI [T alT,V.int (JJ m g (kept a b + 1) (kept a b + 1) : Nat)] 1 = some (.int (JJ m g (kept a b + 1) (kept a b + 1) : Nat)):=rfl
   have e0 : len = 0:=by
    have h0:=hT.l0
    have h1:=hT.l1
    rcases Int.lt_or_le 0 len with y | y
    ·exact absurd (show ((len.toNat : Nat) : Int) = len by omega) (hno len.toNat (by omega) (by omega))
    ·omega
   walk_at "rd"
   refine ⟨fun t l c n2 H2 nt s2 ht hl hl4 hC hc hdf hF hW=>?_,fun n2 H2 s2 hNP h4 hW=>?_,fun t l n2 H2 ss nt nl htl s2 ht hl hp hs hE hW hN=>?_⟩
   ·have:=hT.p1 n2 hF.1
    omega
   ·exfalso
    rcases Nat.lt_or_ge (kept a b + 1) (n2 + 1) with y | y
    ·have h1:=J1R (hT.stop e0) (n2 + 1 - (kept a b + 1))
     rw [show kept a b + 1 + (n2 + 1 - (kept a b + 1)) = n2 + 1 by omega] at h1
     rw [h1,hT.cnt (kept a b + 1) (Nat.le_refl _) (.inl e0)] at h4
     have:=hj (kept a b + 1) (Nat.le_refl _)
     omega
    ·rw [hT.cnt (n2 + 1) y (.inl e0)] at h4
     have:=hj (n2 + 1) y
     omega
   ·have hd2:=s2 _ _ hd
    have el : (ss.map V.str).length = JJ m g (kept a b + 1) (kept a b + 1):=by
     rw [List.length_map,hp.length_eq,List.length_map,J95 hE (hT.stop e0),hT.cnt (kept a b + 1) (Nat.le_refl _) (.inl e0)]
    have y0 : atI [T alT,V.ref l] 0 = some (T alT):=rfl
    have y1 : atI [T alT,V.ref l] 1 = some (.ref l):=rfl
    have hll : (ss.map V.str).length ≤ 1000:=by rw [el]; exact Nat.le_trans (hj _ (Nat.le_refl _)) (by decide)
    walk_at "rd"
    rw [el,decide_eq_true rfl]
    exact q H2
end
noncomputable def azT : List Nat:=[65,66,67,68,69,70,71,72,73,74,75,76,77,78,79,80,81,82,83,84,85,86,87,88,89,90]
theorem Jad {ms : List Nat} (h8 : ms.length ≤ 8) : 1 ≤ (azT.filter fun c=>!decide (c ∈ ms)).length ∧ (azT.filter fun c=>!decide (c ∈ ms)).length ≤ 26 ∧ ∀ x ∈ azT.filter fun c=>!decide (c ∈ ms),x ≠ 63 ∧ x ≠ 35 ∧ ¬ x ∈ ms:=by
 refine ⟨?_,List.length_filter_le _ _,fun x hx=>?_⟩
 ·rcases Nat.eq_zero_or_pos (azT.filter fun c=>!decide (c ∈ ms)).length with h | h
  ·exfalso
   have h0:=List.filter_eq_nil_iff.mp (List.length_eq_zero_iff.mp h)
   have:=J4s (l:=azT) (m:=ms) (by decide +kernel) fun x hx=>by simpa using h0 x hx
   have : (26 : Nat) ≤ ms.length:=this
   omega
  ·exact h
 ·obtain ⟨h1,h2⟩:=List.mem_filter.mp hx
  have : ∀ x ∈ azT,x ≠ 63 ∧ x ≠ 35:=by decide
  exact ⟨(this x h1).1,(this x h1).2,by simpa using h2⟩
structure Oth (ms wd : List Nat) (p : Bool) (rb : R) (r0 r : Int) : Prop where
 fine : rb.fine
 noE : rb.noE
 dep : rb.depth ≤ 2
 far : rb.reach ≤ r
 far0 : r0 ≤ r
 top : r = r0 ∨ r = rb.reach
 r1 : 1 ≤ r
 r7 : r ≤ 7
 w1 : 1 ≤ wd.length
 w7 : wd.length ≤ 7
 ok : ∀ l,JW ms l → rb.bad l = (p && sfx wd l)
 wo : p = true → JW ms wd ∧ (wd.length : Int) ≤ r
theorem Jaw {ms wd : List Nat} {p : Bool} {r0 : Int} (h1 : 1 ≤ wd.length) (h7 : wd.length ≤ 7) (r1 : 1 ≤ r0) (r7 : r0 ≤ 7) (hp : J4r wd) (ho : p = true → JW ms wd) (hx : p = false → ∃ x ∈ wd,¬ x ∈ ms) : Oth ms wd p (.nev wd) r0 (if (wd.length : Int) > r0 then (wd.length : Int) else r0):=by
 have e : (R.nev wd).reach = (wd.length : Int):=rfl
 refine ⟨⟨h1,h7⟩,trivial,(by show 0 ≤ 2; omega),?_,?_,?_,?_,?_,h1,h7,fun l hl=>?_,fun h=>⟨ho h,?_⟩⟩
 ·rw [e]; split <;> omega
 ·split <;> omega
 ·rw [e]; split
  ·exact .inr rfl
  ·exact .inl rfl
 ·split <;> omega
 ·split <;> omega
 ·show nevB wd l = _
  rw [J7Z hp]
  cases p with
  | true=>rfl
  | false =>
   obtain ⟨x,h1,h2⟩:=hx rfl
   exact Bool.eq_false_iff.mpr fun z=>h2 (J6B hl z x h1)
 ·split <;> omega
theorem J9p {ms wd : List Nat} {rf : R} {d r0 : Int} (hF : Free ms rf d) (hd : d ≤ r0) (r1 : 1 ≤ r0) (r7 : r0 ≤ 7) (h1 : 1 ≤ wd.length) (h7 : wd.length ≤ 7) : Oth ms wd false rf r0 r0 :=
 ⟨hF.fine,hF.noE,hF.dep,by rw [hF.far]; exact hd,Int.le_refl _,.inl rfl,r1,r7,h1,h7,fun l hl=>by rw [hF.ok l hl]; rfl,fun h=>(by cases h)⟩
structure Two (ms wd : List Nat) (p : Bool) (mk g : Nat) (ra rb : R) (rr : Nat) : Prop where
 fa : ra.fine
 fb : rb.fine
 ea : ra.noE
 eb : rb.noE
 da : ra.depth ≤ 20
 db : rb.depth ≤ 20
 ka : kept ra rb + 1 = rr
 kb : kept rb ra + 1 = rr
 r7 : rr ≤ 7
 oa : ∀ l,JW ms l → ra.bad l = vio mk g l
 ob : ∀ l,JW ms l → rb.bad l = (vio mk g l || (p && sfx wd l))
 wo : p = true → JW ms wd ∧ wd.length ≤ rr
theorem J3e {a b : R} {rr : Nat} (h1 : a.reach ≤ (rr : Int)) (h2 : b.reach ≤ (rr : Int)) (h3 : (rr : Int) = a.reach ∨ (rr : Int) = b.reach) (h4 : 1 ≤ rr) : kept a b + 1 = rr:=by
 unfold kept
 split <;> omega
theorem Jbx {ms wd : List Nat} {p : Bool} {mk : Nat} {ra rb : R} {r0 r : Int} (ha : Free ms ra r0) (hb : Oth ms wd p rb r0 r) : Two ms wd p mk 0 ra rb r.toNat:=by
 have h1:=hb.r1
 have h2:=hb.far
 have h3:=hb.far0
 have h4:=hb.top
 have h5:=ha.far
 have h7:=hb.r7
 refine ⟨ha.fine,hb.fine,ha.noE,hb.noE,Nat.le_trans ha.dep (by decide),Nat.le_trans hb.dep (by decide),J3e (by omega) (by omega) (by omega) (by omega),J3e (by omega) (by omega) (by omega) (by omega),by omega,fun l hl=>by rw [ha.ok l hl]; rfl,fun l hl=>by rw [hb.ok l hl]; rfl,fun h=>⟨(hb.wo h).1,by have:=(hb.wo h).2; omega⟩⟩
theorem JbG {ms wd : List Nat} {p : Bool} {mk g : Nat} {ra rb : R} {r0 r : Int} (hg : 0 < g) (hg3 : g ≤ 3) (m1 : mk ≠ 63) (m2 : mk ≠ 35) (ha : Free ms ra r0) (hb : Oth ms wd p rb r0 r) : Two ms wd p mk g (.both (.most 1 [mk] ((g : Int) + 1)) ra) (.both rb (.most 1 [mk] ((g : Int) + 1))) (if (g : Int) + 1 > r then (g : Int) + 1 else r).toNat:=by
 have h1:=hb.r1
 have h2:=hb.far
 have h3:=hb.far0
 have h4:=hb.top
 have h5:=ha.far
 have h7:=hb.r7
 have e1 : (R.both (.most 1 [mk] ((g : Int) + 1)) ra).reach = if ra.reach > (g : Int) + 1 then ra.reach else (g : Int) + 1:=rfl
 have e2 : (R.both rb (.most 1 [mk] ((g : Int) + 1))).reach = if (g : Int) + 1 > rb.reach then (g : Int) + 1 else rb.reach:=rfl
 have fm : (R.most 1 [mk] ((g : Int) + 1)).fine:=⟨by omega,by omega⟩
 have d1 : (R.both (.most 1 [mk] ((g : Int) + 1)) ra).depth = max 0 ra.depth + 1:=rfl
 have d2 : (R.both rb (.most 1 [mk] ((g : Int) + 1))).depth = max rb.depth 0 + 1:=rfl
 have d3:=ha.dep
 have d4:=hb.dep
 have k1 : kept (.both (.most 1 [mk] ((g : Int) + 1)) ra) (.both rb (.most 1 [mk] ((g : Int) + 1))) + 1 = (if (g : Int) + 1 > r then (g : Int) + 1 else r).toNat:=by
  refine J3e ?_ ?_ ?_ ?_
  ·rw [e1,h5]; split <;> split <;> omega
  ·rw [e2]; split <;> split <;> omega
  ·rw [e1,e2,h5]; split <;> split <;> split <;> omega
  ·split <;> omega
 have k2 : kept (.both rb (.most 1 [mk] ((g : Int) + 1))) (.both (.most 1 [mk] ((g : Int) + 1)) ra) + 1 = (if (g : Int) + 1 > r then (g : Int) + 1 else r).toNat:=by
  refine J3e ?_ ?_ ?_ ?_
  ·rw [e2]; split <;> split <;> omega
  ·rw [e1,h5]; split <;> split <;> omega
  ·rw [e1,e2,h5]; split <;> split <;> split <;> omega
  ·split <;> omega
 refine ⟨⟨fm,ha.fine⟩,⟨hb.fine,fm⟩,⟨trivial,ha.noE⟩,⟨hb.noE,trivial⟩,by rw [d1]; omega,by rw [d2]; omega,k1,k2,by split <;> omega,fun l hl=>?_,fun l hl=>?_,fun h=>⟨(hb.wo h).1,?_⟩⟩
 ·show ((R.most 1 [mk] ((g : Int) + 1)).bad l || ra.bad l) = _
  rw [J6s m1 m2 hg,ha.ok l hl,Bool.or_false]
 ·show (rb.bad l || (R.most 1 [mk] ((g : Int) + 1)).bad l) = _
  rw [J6s m1 m2 hg,hb.ok l hl,Bool.or_comm]
 ·have:=(hb.wo h).2
  split <;> omega
theorem Two.told {ms wd : List Nat} {p : Bool} {mk g : Nat} {ra rb : R} {rr : Nat} {len : Int} (h : Two ms wd p mk g ra rb rr) (hn : ms.Nodup) (hm : mk ∈ ms) (w1 : 1 ≤ wd.length) (hl : (len = 0 ∧ (p = false ∨ ¬ Spd mk g wd)) ∨ (len = (wd.length : Int) ∧ p = true ∧ Spd mk g wd)) :
  Told ra.bad rb.bad ms (kept ra rb) ms.length g len wd ∧ Told rb.bad ra.bad ms (kept rb ra) ms.length g len wd:=by
 refine ⟨J7S (pa:=false) (pb:=p) hn hm rfl (fun l hl=>by rw [h.oa l hl,Bool.false_and,Bool.or_false]) h.ob (fun hp=>⟨(h.wo hp).1,w1,by rw [h.ka]; exact (h.wo hp).2⟩) hl,J7S (pa:=p) (pb:=false) hn hm (Bool.and_false p) h.ob (fun l hl=>by rw [h.oa l hl,Bool.false_and,Bool.or_false]) (fun hp=>?_) ?_⟩
 ·rw [Bool.or_false] at hp
  exact ⟨(h.wo hp).1,w1,by rw [h.kb]; exact (h.wo hp).2⟩
 ·rw [Bool.or_false]; exact hl
section
variable {P : Program} {w : World} {K : PySem.W.Frag} {mg : Str → Option Value} {base : Heap} {J5 J9 J4 Jb Je J2 J1 J8 : Addr}
theorem JaP {f : Addr} {fd : FuncData} (tx : Tx K mg J5 J9 J4 Jb Je J2 J1 J8) (F : Fun K "law" "law" J1J f fd) : FnOk P w K mg base CX0 40 f fd ["_law_script"] (sp_law K):=by
 have Jj:=J29 (P:=P) (w:=w) (base:=base) tx
 have J2X:=J5I (P:=P) (w:=w) (base:=base) tx
 have J2i:=J6R (P:=P) (w:=w) (base:=base) tx
 have J3w:=J71 (P:=P) (w:=w) (base:=base) tx
 have J2z:=J4Y (P:=P) (w:=w) (base:=base) tx
 have J3p:=J6U (P:=P) (w:=w) (base:=base) tx
 have J4l:=J89 (P:=P) (w:=w) (base:=base) tx
 have J30:=J5X (P:=P) (w:=w) (base:=base) tx
 have J2m:=J6K (P:=P) (w:=w) (base:=base) tx
 have J2y:=tx.J0X.g (J2A (P:=P) (w:=w) (base:=base) tx)
 have J2n:=tx.J16.g (J2Z (P:=P) (w:=w) (base:=base) tx)
 have J6W:=tx.J1s.g (J5S (P:=P) (w:=w) (base:=base) tx)
 refine F.ok JG (fun vs H Q E h=>?_) (fun cdv A outer s H vs Q E hr h=>?_)
 ·obtain ⟨a,ns,rfl,_⟩:=h
  rfl
 ·obtain ⟨sc,ns,rfl,hS,hns,q⟩:=h
  refine ⟨_,(J6 (JaZ (JD J30 (hr.mono (by decide)) (J0 (pv 0) J7)) (Jag (K:=K) (n:=4) rfl rfl (J1x (JH (i:=1) JG.nd rfl (Or.inl rfl)) (J1x (JH (i:=2) JG.nd rfl (Or.inl rfl)) (J1x (JH (i:=3) JG.nd rfl (Or.inl rfl)) (J1x (JH (i:=4) JG.nd rfl (Or.inl rfl)) J7A))))))
   (J6 (Jm (i:=5) JG.nd rfl (Or.inr rfl) (JD J2X (hr.mono (by decide)) (J0 (JD Jj (hr.mono (by decide)) (J0 (pv 0) (J0 Ja J7))) (J0 (pv 1) J7))))
   (J6 (Jam (k:=6) (osc:=J3 J1J) (ON:=["_law_script","_law_many","_law_reach","_law_gap","_law_way","_law_marks_here","_law_strange","_law_mark","_law_one","_law_other","_law_word_here","_law_length","_law_at","_law_sign","_law_due_here"]) (N:=["_law_letter","_law_marks_here"]) (js:=[none,some 5]) JG.nd rfl (Or.inl rfl) ⟨rfl,by decide +kernel,by decide +kernel,by decide +kernel,rfl,by decide +kernel⟩ rfl rfl rfl (J5s (JM (l:=[65,66,67,68,69,70,71,72,73,74,75,76,77,78,79,80,81,82,83,84,85,86,87,88,89,90]) (by decide +kernel))) (fun _ _ _ _ _=>JH (i:=0) (show List.Nodup (["_law_letter","_law_marks_here"] : List Str) from by decide +kernel) rfl (Or.inl rfl)) (fun _ _ _ _ _=>J5Y (Ju J8y (pv 0) (pv 1) rfl)) (fun _ _ _ _ _=>(pv 0)))
   (J6 (Jm (i:=7) JG.nd rfl (Or.inl rfl) (J15 J5u (pv 5) (Jh J02 (Jh J1a (JD Jj (hr.mono (by decide)) (J0 (pv 0) (J0 Ja J7))) Ja) (pv 1)) (fun _ _=>rfl)))
   (J6 (Jm (i:=8) JG.nd rfl (Or.inl rfl) (JD J2i (hr.mono (by decide)) (J0 (JD Jj (hr.mono (by decide)) (J0 (pv 0) (J0 Ja J7))) (J0 (pv 2) (J0 (pv 6) J7)))))
   (J6 (Jm (i:=9) JG.nd rfl (Or.inl rfl) (JD J2i (hr.mono (by decide)) (J0 (JD Jj (hr.mono (by decide)) (J0 (pv 0) (J0 Ja J7))) (J0 (Jh J0t Ja (Jh J02 (Jh J1a (JD Jj (hr.mono (by decide)) (J0 (pv 0) (J0 Ja J7))) Ja) (pv 2))) (J0 (pv 6) J7)))))
   (J6 (Jm (i:=10) JG.nd rfl (Or.inl rfl) (JD J3w (hr.mono (by decide)) (J0 (JD Jj (hr.mono (by decide)) (J0 (pv 0) (J0 Ja J7))) (J0 (pv 5) J7))))
   (J6 (Jm (i:=11) JG.nd rfl (Or.inl rfl) Ja)
   (J6 (J40 (JZ (Ju J4F (pv 4) Ja (Jy _)) (J6 (Jm (i:=2) JG.nd rfl (Or.inl rfl) (Jk (J0W rfl) rfl tx.J1L J2r (J0 (pv 2) (J0 (Jk JN rfl tx.J0q PySem.boot_len (J0 (pv 10) J7)) J7))))
   (J6 (Jm (i:=11) JG.nd rfl (Or.inl rfl) (Jk JN rfl tx.J0q PySem.boot_len (J0 (pv 10) J7)))
   (J6 (J40 (JZ (Ju J13 (pv 4) Ja (Jy _)) (J6 (Jm (i:=12) JG.nd rfl (Or.inl rfl) (Jh J02 (Jh J1a (JD Jj (hr.mono (by decide)) (J0 (pv 0) (J0 Ja J7))) Ja) (Jk JN rfl tx.J0q PySem.boot_len (J0 (pv 10) J7))))
   (J6 (Jm (i:=13) JG.nd rfl (Or.inl rfl) (J15 (J1l (K:=K) rfl) (pv 6) (Jh J02 (Jh J1a (JD Jj (hr.mono (by decide)) (J0 (pv 0) (J0 Ja J7))) Ja) (Jk (J0v (K:=K) rfl) rfl tx.J0q PySem.boot_len (J0 (pv 6) J7))) (fun _ _=>rfl)))
   (J6 (Jm (i:=10) JG.nd rfl (Or.inl rfl) (Jh J20 (Jh J20 (J1i J2q (pv 10) J23 (J1n (pv 12))) (pv 13)) (J1i J2q (pv 10) (J1n (Jh J0t (pv 12) Ja)) J23)))
   (Jc (Jm (i:=11) JG.nd rfl (Or.inl rfl) Ja))))) Jx))
   (Jc (Jm (i:=9) JG.nd rfl (Or.inl rfl) (J1m (r:=rNev (cs6 J5 J9 J4 Jb Je J2 J1 J8)) J2y (hr.mono (by decide)) J9k (J0 (pv 10) J7))))))) Jx))
   (J6 (J40 (JZ (J9d (J7g (JD J2z (hr.mono (by decide)) (J0 (pv 10) (J0 (pv 7) (J0 (pv 3) J7)))))) (Jc (Jm (i:=11) JG.nd rfl (Or.inl rfl) Ja)) Jx))
   (J6 (J40 (JZ (Ju J4F (pv 3) Ja (Jy _)) (J6 (Jm (i:=2) JG.nd rfl (Or.inl rfl) (Jk (J0W rfl) rfl tx.J1L J2r (J0 (pv 2) (J0 (Jh J0t (pv 3) Ja) J7))))
   (J6 (Jm (i:=8) JG.nd rfl (Or.inl rfl) (J1m (r:=J9o (cs6 J5 J9 J4 Jb Je J2 J1 J8)) J6W (hr.mono (by decide)) J7W (J0 (J1m (r:=J6x (cs6 J5 J9 J4 Jb Je J2 J1 J8)) J2n (hr.mono (by decide)) J39 (J0 Ja (J0 (pv 7) (J0 (Jh J0t (pv 3) Ja) J7)))) (J0 (pv 8) J7))))
   (Jc (Jm (i:=9) JG.nd rfl (Or.inl rfl) (J1m (r:=J9o (cs6 J5 J9 J4 Jb Je J2 J1 J8)) J6W (hr.mono (by decide)) J7W (J0 (pv 9) (J0 (J1m (r:=J6x (cs6 J5 J9 J4 Jb Je J2 J1 J8)) J2n (hr.mono (by decide)) J39 (J0 Ja (J0 (pv 7) (J0 (Jh J0t (pv 3) Ja) J7)))) J7))))))) Jx))
   (J6 (Jm (i:=14) JG.nd rfl (Or.inl rfl) (JD J4l (hr.mono (by decide)) (J0 (JD J3p (hr.mono (by decide)) (J0 (pv 1) (J0 (pv 3) (J0 (pv 2) J7)))) (J0 (pv 2) (J0 (pv 11) J7)))))
   (J6 (JZ (Ju J13 (Jh J02 (JD Jj (hr.mono (by decide)) (J0 (pv 0) (J0 Ja J7))) Ja) Ja (Jy _)) (Jc (Jn (JD J2m (hr.mono (by decide)) (J0 (pv 9) (J0 (pv 8) (J0 (pv 5) (J0 (pv 14) (J0 (pv 10) J7)))))))) Jx)
   (Jc (Jn (JD J2m (hr.mono (by decide)) (J0 (pv 8) (J0 (pv 9) (J0 (pv 5) (J0 (pv 14) (J0 (pv 10) J7))))))))))))))))))))),?_⟩
  walk_at "st"
  clear Jj J2X J2i J3w J2z J3p J4l J30 J2m J2y J2n J6W
  have hns' : (ns.map V.int).length ≤ 63:=by rw [List.length_map]; exact hns
  walk_at "rd"
  intro t H1 many reach gap way s1 ht m3 m8 r1 r7 g0 g3 w0 w2
  have hS1:=s1.seq hS
  walk_at "rd"
  intro c1
  walk_at "rd"
  intro ms hms hnd hal
  obtain ⟨g,eg⟩ : ∃ g : Nat,gap = (g : Nat):=⟨gap.toNat,by omega⟩
  subst eg
  rw [← hms] at m3 m8
  subst hms
  have h8 : ms.length ≤ 8:=by omega
  have h1000 : ms.length ≤ 1000:=by omega
  obtain ⟨st1,st2,st3⟩:=Jad h8
  walk_at "rd"
  refine J5n (fun x=>match x with | .str z=>!decide (z.cps.getD 0 0 ∈ ms) | _=>false) (fun x=>x) (J24 azT) ?_ (fun x hx H' s' R hR=>?_) (fun x hx hp H' s' R hR=>?_) (fun D H2 nD s2 hDD=>?_)
  ·rw [List.length_map]; decide
  ·obtain ⟨k,_,rfl⟩:=List.mem_map.mp hx
   walk_at "rd"
   exact hR H' (Same.refl _)
  ·obtain ⟨k,_,rfl⟩:=List.mem_map.mp hx
   walk_at "rd"
   exact hR H' (Same.refl _)
  have e1 : (((azT.map fun c=>T [c]).filter (fun x=>match x with | .str z=>!decide (z.cps.getD 0 0 ∈ ms) | _=>false)).map (fun x=>x)) = (azT.filter fun c=>!decide (c ∈ ms)).map fun c=>T [c]:=by
   rw [List.filter_map,List.map_map]
   rfl
  have hD2 : H2 D = some (.lst ((azT.filter fun c=>!decide (c ∈ ms)).map fun c=>T [c])):=by rw [← e1]; exact hDD
  generalize (azT.filter fun c=>!decide (c ∈ ms)) = ss at st1 st2 st3 hD2
  clear hDD e1
  have hS2:=s2.seq hS1
  walk_at "rd"
  intro c3
  obtain ⟨mk,hmk,hmk2⟩:=J1o ms (c3 / 6 % (ms.length : Int)) (Int.emod_nonneg _ (by omega)) (Int.emod_lt_of_pos _ (by omega))
  have hmm : mk ∈ ms:=List.mem_of_getElem? hmk2
  walk_at "rd"
  intro c4
  walk_at "rd"
  intro po ro H3 s3 ho hFo
  have hS3:=s3.seq hS2
  have hD3:=s3 _ _ hD2
  walk_at "rd"
  intro c5
  walk_at "rd"
  intro c5'
  have b0:=Int.emod_nonneg (c5' / 7) (show reach ≠ 0 by omega)
  have b1:=Int.emod_lt_of_pos (c5' / 7) (show 0 < reach by omega)
  walk_at "rd"
  intro pf rf H4 s4 hf hFf
  have hS4:=s4.seq hS3
  have hD4:=s4 _ _ hD3
  have ho4:=ho.same s4
  have m1l : 1 ≤ ms.length:=by omega
  walk_at "rd"
  intro c6
  walk_at "rd"
  intro wd w1 w7 wo
  have hwl : wd.length ≤ 1000:=by omega
  have hwp : J4r wd:=fun x hx=>J4J x (hal x (wo x hx))
  walk_at "rd"
  refine tCut.mk (fun σ' H'=>Here (∃ (p : Bool) (wd : List Nat) (pb : Addr) (rb : R) (r' : Int) (v12 v13 : Option V),σ' = [some (.ref sc),some (.int ms.length),some (.int r'),some (.int (g : Nat)),some (.int way),some (T ms),some (.ref D),some (T [mk]),some (.ref po),some (.ref pb),some (T wd),some (.int (if p = true then wd.length else 0)),v12,v13,none] ∧ Jr (cs6 J5 J9 J4 Jb Je J2 J1 J8) H' rb pb ∧ Oth ms wd p rb reach r' ∧ Same H4 H')) ?_ ?_
  ·walk_at "rd"
   refine ite2 (fun z=>?_) (fun z=>?_)
   ·walk_at "rd"
    refine tCut.mk (fun σ' H'=>Here (∃ (p : Bool) (wd2 : List Nat) (v12 v13 : Option V),σ' = [some (.ref sc),some (.int ms.length),some (.int (if (wd.length : Int) > reach then (wd.length : Int) else reach)),some (.int (g : Nat)),some (.int way),some (T ms),some (.ref D),some (T [mk]),some (.ref po),some (.ref pf),some (T wd2),some (.int (if p = true then wd2.length else 0)),v12,v13,none] ∧ wd2.length = wd.length ∧ J4r wd2 ∧ (p = true → JW ms wd2) ∧ (p = false → ∃ x ∈ wd2,¬ x ∈ ms) ∧ H' = H4)) ?_ ?_
    ·walk_at "rd"
     refine ite2 (fun y=>?_) (fun y=>?_)
     ·have lw0 : (0 : Int) < (wd.length : Int):=by omega
      have els : (ss.map fun c=>T [c]).length = ss.length:=List.length_map _
      have ls0 : (0 : Int) < ((ss.map fun c=>T [c]).length : Int):=by omega
      have lsl : (ss.map fun c=>T [c]).length ≤ 1000:=by omega
      walk_at "rd"
      intro c7
      have a0:=Int.emod_nonneg (c7 / 3) (show (wd.length : Int) ≠ 0 by omega)
      have a1:=Int.emod_lt_of_pos (c7 / 3) lw0
      walk_at "rd"
      intro c7'
      obtain ⟨v,hv,hv2⟩:=J1o (ss.map fun c=>T [c]) (c7' / 21 % ((ss.map fun c=>T [c]).length : Int)) (Int.emod_nonneg _ (by omega)) (Int.emod_lt_of_pos _ ls0)
      obtain ⟨x,hx,rfl⟩:=List.mem_map.mp (List.mem_of_getElem? hv2)
      obtain ⟨x1,x2,x3⟩:=st3 x hx
      have k1:=J3f wd none (some (c7 / 3 % (wd.length : Int)))
      have k2:=J3f wd (some (c7 / 3 % (wd.length : Int) + 1)) none
      have e1:=J8X wd (c7 / 3 % (wd.length : Int)) a0
      have e2:=J3Z wd (c7 / 3 % (wd.length : Int) + 1) (by omega)
      walk_at "rd"
      rw [e1,e2]
      generalize c7 / 3 % (wd.length : Int) = j at a0 a1
      refine Here.mk ⟨false,wd.take j.toNat ++ [x] ++ wd.drop (j + 1).toNat,_,_,rfl,?_,fun u hu=>?_,fun h=>(by cases h),fun _=>⟨x,by simp,x3⟩,rfl⟩
      ·rw [List.length_append,List.length_append,List.length_take,List.length_drop,List.length_singleton]
       omega
      ·rcases List.mem_append.mp hu with hu | hu
       ·rcases List.mem_append.mp hu with hu | hu
        ·exact hwp u (List.mem_of_mem_take hu)
        ·rw [List.mem_singleton.mp hu]; exact ⟨x1,x2⟩
       ·exact hwp u (List.mem_of_mem_drop hu)
     ·exact Here.mk ⟨true,wd,_,_,rfl,rfl,hwp,fun _=>wo,fun h=>(by cases h),rfl⟩
    rintro σ' H' hv
    obtain ⟨p,wd2,v12,v13,rfl,hl2,hp2,ho2,hx2,eH⟩:=hv.out
    rw [eH]
    clear hv eH
    have hl7 : wd2.length ≤ 1000:=by omega
    walk_at "rd"
    intro pn H5 s5 h5
    have hO:=Jaw (r0:=reach) (by omega) (by omega) r1 r7 hp2 ho2 hx2
    rw [hl2] at hO
    exact Here.mk ⟨p,wd2,pn,_,_,v12,v13,rfl,h5,hO,s5⟩
   ·exact Here.mk ⟨false,wd,pf,rf,reach,_,_,rfl,hf,J9p hFf (by omega) r1 r7 w1 w7,Same.refl _⟩
  rintro σ' H5 hv
  obtain ⟨p,wd,pb,rb,r',v12,v13,rfl,hb,hO,s5⟩:=hv.out
  clear hv w1 w7 wo hwl hwp
  have hS5:=s5.seq hS4
  have ho5:=ho4.same s5
  have w1:=hO.w1
  have w7:=hO.w7
  refine tCut.mk (fun σ' H'=>Here (∃ (len : Int),σ' = [some (.ref sc),some (.int ms.length),some (.int r'),some (.int (g : Nat)),some (.int way),some (T ms),some (.ref D),some (T [mk]),some (.ref po),some (.ref pb),some (T wd),some (.int len),v12,v13,none] ∧ ((len = 0 ∧ (p = false ∨ ¬ Spd mk g wd)) ∨ (len = (wd.length : Int) ∧ p = true ∧ Spd mk g wd)) ∧ H' = H5)) ?_ ?_
  ·walk_at "rd"
   intro b hbS
   walk_at "rd"
   refine ite2 (fun z=>?_) (fun z=>?_)
   ·have z' : ¬ Spd mk g wd:=fun h=>by rw [hbS.mpr h] at z; cases z
    walk_at "rd"
    exact Here.mk ⟨0,rfl,.inl ⟨rfl,.inr z'⟩,rfl⟩
   ·have z' : Spd mk g wd:=hbS.mp (by cases b with | true=>rfl | false=>exact absurd rfl z)
    refine Here.mk ⟨_,rfl,?_,rfl⟩
    cases p with
    | true=>exact .inr ⟨rfl,rfl,z'⟩
    | false=>exact .inl ⟨rfl,.inl rfl⟩
  rintro σ' H6 hv
  obtain ⟨len,rfl,hlen,eH⟩:=hv.out
  rw [eH]
  clear hv eH
  refine tCut.mk (fun σ' H'=>Here (∃ (rr : Nat) (pa pb : Addr) (ra rb : R),σ' = [some (.ref sc),some (.int ms.length),some (.int (rr : Nat)),some (.int (g : Nat)),some (.int way),some (T ms),some (.ref D),some (T [mk]),some (.ref pa),some (.ref pb),some (T wd),some (.int len),v12,v13,none] ∧ Jr (cs6 J5 J9 J4 Jb Je J2 J1 J8) H' ra pa ∧ Jr (cs6 J5 J9 J4 Jb Je J2 J1 J8) H' rb pb ∧ Two ms wd p mk g ra rb rr ∧ Same H5 H')) ?_ ?_
  ·walk_at "rd"
   refine ite2 (fun z=>?_) (fun z=>?_)
   ·walk_at "rd"
    have z' : 0 < g:=by have:=of_decide_eq_true z; omega
    obtain ⟨q1,q2⟩:=J4J mk (hal mk hmm)
    have hTw:=JbG (mk:=mk) z' (by omega) q1 q2 hFo hO
    intro pm H6 s6 h6
    have ho6:=ho5.same s6
    have hb6:=hb.same s6
    walk_at "rd"
    intro pn dn H7 s7 h7 _
    have hb7:=hb6.same s7
    walk_at "rd"
    intro pm2 H8 s8 h8
    have hb8:=hb7.same s8
    walk_at "rd"
    intro pn2 dn2 H9 s9 h9 _
    refine Here.mk ⟨(if (g : Int) + 1 > r' then (g : Int) + 1 else r').toNat,pn,pn2,_,_,?_,(h7.same s8).same s9,h9,hTw,((s6.trans s7).trans s8).trans s9⟩
    rw [Int.toNat_of_nonneg (by have:=hO.r1; split <;> omega)]
    rfl
   ·have z' : g = 0:=by have:=of_decide_eq_false (Bool.eq_false_iff.mpr z); omega
    subst z'
    refine Here.mk ⟨r'.toNat,po,pb,ro,rb,?_,ho5,hb,Jbx hFo hO,Same.refl _⟩
    rw [Int.toNat_of_nonneg (by have:=hO.r1; omega)]
  rintro σ' H6 hv
  obtain ⟨rr,pa,pb2,ra,rb2,rfl,hra,hrb,hTw,s6⟩:=hv.out
  clear hv
  have hS6:=s6.seq hS5
  have rr7:=hTw.r7
  obtain ⟨hT1,hT2⟩:=hTw.told hnd hmm w1 hlen
  walk_at "rd"
  intro lr H7 s7 nlr hlr
  have hS7:=s7.seq hS6
  have hra7:=hra.same s7
  have hrb7:=hrb.same s7
  walk_at "rd"
  intro t H8 s8 hDu
  have hS8:=s8.seq hS7
  have hra8:=hra7.same s8
  have hrb8:=hrb7.same s8
  have fa:=hTw.fa
  have fb:=hTw.fb
  have ea:=hTw.ea
  have eb:=hTw.eb
  have da:=hTw.da
  have db:=hTw.db
  walk_at "rd"
  intro c8
  walk_at "rd"
  refine ite2 (fun _=>?_) (fun _=>?_)
  ·rw [← hTw.kb] at hDu
   walk_at "rd"
   exact fun H'=>q H'
  ·rw [← hTw.ka] at hDu
   walk_at "rd"
   exact fun H'=>q H'
end
open PySem.W in
theorem all_mk {l : OpenLaw} {w : World} {K : Frag} {h : Heap} {mg : Str → Option Value} {fa J5 J9 J4 Jb Je J2 J1 J8 q1 q2 q3 q4 q5 q6 q7 q8 q9 q10 q11 q12 q13 q14 q15 q16 q17 q18 q19 q20 q21 q22 q23 q24 q25 q26 q27 q28 q29 q30 q31 q32 q33 : Addr} (X : K.In h) (G : h.Ns mainGlobals mg) (hfa : mg "law" = some (.ref fa))
  {od1 an1 od2 an2 od3 an3 od4 an4 od5 an5 od6 an6 od7 an7 od8 an8 od9 an9 od10 an10 od11 an11 od12 an12 od13 an13 od14 an14 od15 an15 od16 an16 od17 an17 od18 an18 od19 an19 od20 an20 od21 an21 od22 an22 od23 an23 od24 an24 od25 an25 od26 an26 od27 an27 od28 an28 od29 an29 od30 an30 od31 an31 od32 an32 od33 an33 : Option Addr} {sl1 sl2 sl3 sl4 sl5 sl6 sl7 sl8 sl9 sl10 sl11 sl12 sl13 sl14 sl15 sl16 sl17 sl18 sl19 sl20 sl21 sl22 sl23 sl24 sl25 sl26 sl27 sl28 sl29 sl30 sl31 sl32 sl33 : Array (Option Value)} {oc1 kV1 dc1 pm1 cd1 ct1 oc2 kV2 dc2 pm2 cd2 ct2 oc3 kV3 dc3 pm3 cd3 ct3 oc4 kV4 dc4 pm4 cd4 ct4 oc5 kV5 dc5 pm5 cd5 ct5 oc6 kV6 dc6 pm6 cd6 ct6 oc7 kV7 dc7 pm7 cd7 ct7 oc8 kV8 dc8 pm8 cd8 ct8 oc9 kV9 dc9 pm9 cd9 ct9 oc10 kV10 dc10 pm10 cd10 ct10 oc11 kV11 dc11 pm11 cd11 ct11 oc12 kV12 dc12 pm12 cd12 ct12 oc13 kV13 dc13 pm13 cd13 ct13 oc14 kV14 dc14 pm14 cd14 ct14 oc15 kV15 dc15 pm15 cd15 ct15 oc16 kV16 dc16 pm16 cd16 ct16 oc17 kV17 dc17 pm17 cd17 ct17 oc18 kV18 dc18 pm18 cd18 ct18 oc19 kV19 dc19 pm19 cd19 ct19 oc20 kV20 dc20 pm20 cd20 ct20 oc21 kV21 dc21 pm21 cd21 ct21 oc22 kV22 dc22 pm22 cd22 ct22 oc23 kV23 dc23 pm23 cd23 ct23 oc24 kV24 dc24 pm24 cd24 ct24 oc25 kV25 dc25 pm25 cd25 ct25 oc26 kV26 dc26 pm26 cd26 ct26 oc27 kV27 dc27 pm27 cd27 ct27 oc28 kV28 dc28 pm28 cd28 ct28 oc29 kV29 dc29 pm29 cd29 ct29 oc30 kV30 dc30 pm30 cd30 ct30 oc31 kV31 dc31 pm31 cd31 ct31 oc32 kV32 dc32 pm32 cd32 ct32 oc33 kV33 dc33 pm33 cd33 ct33 : Value}
  {tk_MOST_TAILS : Tok}
  (J52 : nsIn K mainGlobals "Never" = some (some (.ref J5)))
  (J73 : nsIn K mainGlobals "Most" = some (some (.ref J9)))
  (J50 : nsIn K mainGlobals "Least" = some (some (.ref J4)))
  (J6I : nsIn K mainGlobals "Both" = some (some (.ref Jb)))
  (J8L : nsIn K mainGlobals "Not" = some (some (.ref Je)))
  (J1M : nsIn K mainGlobals "RotaError" = some (some (.ref J2)))
  (J2O : nsIn K mainGlobals "TooWide" = some (some (.ref J1)))
  (J3k : nsIn K mainGlobals "NoRule" = some (some (.ref J8)))
  (a1 : nsIn K mainGlobals "fits" = some (some (.ref q1)))
  (l1 : K.lookup q1 = some ⟨oc1,od1,.func (fnOf "fits" "fits" (Ji J2N) (Jg J2N) (J3 J2N) .none kV1 dc1 pm1 an1 cd1 ct1),sl1⟩)
  (c1 : codeIn K cd1 "fits" = true)
  (k1 : keepIn K (.ref q1) = true)
  (a2 : nsIn K mainGlobals "last_marks" = some (some (.ref q2)))
  (l2 : K.lookup q2 = some ⟨oc2,od2,.func (fnOf "last_marks" "last_marks" (Ji J0o) (Jg J0o) (J3 J0o) .none kV2 dc2 pm2 an2 cd2 ct2),sl2⟩)
  (c2 : codeIn K cd2 "last_marks" = true)
  (k2 : keepIn K (.ref q2) = true)
  (a3 : nsIn K mainGlobals "let_by" = some (some (.ref q3)))
  (l3 : K.lookup q3 = some ⟨oc3,od3,.func (fnOf "let_by" "let_by" (Ji J1g) (Jg J1g) (J3 J1g) .none kV3 dc3 pm3 an3 cd3 ct3),sl3⟩)
  (c3 : codeIn K cd3 "let_by" = true)
  (k3 : keepIn K (.ref q3) = true)
  (a4 : nsIn K mainGlobals "count_among" = some (some (.ref q4)))
  (l4 : K.lookup q4 = some ⟨oc4,od4,.func (fnOf "count_among" "count_among" (Ji JU) (Jg JU) (J3 JU) .none kV4 dc4 pm4 an4 cd4 ct4),sl4⟩)
  (c4 : codeIn K cd4 "count_among" = true)
  (k4 : keepIn K (.ref q4) = true)
  (a5 : findIn K (.ref J5) "__init__" = some (some (.ref q5)))
  (i5 : isFn K (.ref q5) = true)
  (l5 : K.lookup q5 = some ⟨oc5,od5,.func (fnOf "__init__" "Never.__init__" (Ji J0m) (Jg J0m) (J3 J0m) .none kV5 dc5 pm5 an5 cd5 ct5),sl5⟩)
  (c5 : codeIn K cd5 "Never.__init__" = true)
  (k5 : keepIn K (.ref q5) = true)
  (a6 : findIn K (.ref J5) "reach" = some (some (.ref q6)))
  (i6 : isFn K (.ref q6) = true)
  (l6 : K.lookup q6 = some ⟨oc6,od6,.func (fnOf "reach" "Never.reach" (Ji J07) (Jg J07) (J3 J07) .none kV6 dc6 pm6 an6 cd6 ct6),sl6⟩)
  (c6 : codeIn K cd6 "Never.reach" = true)
  (k6 : keepIn K (.ref q6) = true)
  (a7 : findIn K (.ref J5) "bad" = some (some (.ref q7)))
  (i7 : isFn K (.ref q7) = true)
  (l7 : K.lookup q7 = some ⟨oc7,od7,.func (fnOf "bad" "Never.bad" (Ji J0d) (Jg J0d) (J3 J0d) .none kV7 dc7 pm7 an7 cd7 ct7),sl7⟩)
  (c7 : codeIn K cd7 "Never.bad" = true)
  (k7 : keepIn K (.ref q7) = true)
  (a8 : findIn K (.ref J9) "__init__" = some (some (.ref q8)))
  (i8 : isFn K (.ref q8) = true)
  (l8 : K.lookup q8 = some ⟨oc8,od8,.func (fnOf "__init__" "Most.__init__" (Ji J0A) (Jg J0A) (J3 J0A) .none kV8 dc8 pm8 an8 cd8 ct8),sl8⟩)
  (c8 : codeIn K cd8 "Most.__init__" = true)
  (k8 : keepIn K (.ref q8) = true)
  (a9 : findIn K (.ref J9) "reach" = some (some (.ref q9)))
  (i9 : isFn K (.ref q9) = true)
  (l9 : K.lookup q9 = some ⟨oc9,od9,.func (fnOf "reach" "Most.reach" (Ji J0k) (Jg J0k) (J3 J0k) .none kV9 dc9 pm9 an9 cd9 ct9),sl9⟩)
  (c9 : codeIn K cd9 "Most.reach" = true)
  (k9 : keepIn K (.ref q9) = true)
  (a10 : findIn K (.ref J9) "bad" = some (some (.ref q10)))
  (i10 : isFn K (.ref q10) = true)
  (l10 : K.lookup q10 = some ⟨oc10,od10,.func (fnOf "bad" "Most.bad" (Ji J0Q) (Jg J0Q) (J3 J0Q) .none kV10 dc10 pm10 an10 cd10 ct10),sl10⟩)
  (c10 : codeIn K cd10 "Most.bad" = true)
  (k10 : keepIn K (.ref q10) = true)
  (a11 : findIn K (.ref J4) "__init__" = some (some (.ref q11)))
  (i11 : isFn K (.ref q11) = true)
  (l11 : K.lookup q11 = some ⟨oc11,od11,.func (fnOf "__init__" "Least.__init__" (Ji J0n) (Jg J0n) (J3 J0n) .none kV11 dc11 pm11 an11 cd11 ct11),sl11⟩)
  (c11 : codeIn K cd11 "Least.__init__" = true)
  (k11 : keepIn K (.ref q11) = true)
  (a12 : findIn K (.ref J4) "reach" = some (some (.ref q12)))
  (i12 : isFn K (.ref q12) = true)
  (l12 : K.lookup q12 = some ⟨oc12,od12,.func (fnOf "reach" "Least.reach" (Ji J04) (Jg J04) (J3 J04) .none kV12 dc12 pm12 an12 cd12 ct12),sl12⟩)
  (c12 : codeIn K cd12 "Least.reach" = true)
  (k12 : keepIn K (.ref q12) = true)
  (a13 : findIn K (.ref J4) "bad" = some (some (.ref q13)))
  (i13 : isFn K (.ref q13) = true)
  (l13 : K.lookup q13 = some ⟨oc13,od13,.func (fnOf "bad" "Least.bad" (Ji J0D) (Jg J0D) (J3 J0D) .none kV13 dc13 pm13 an13 cd13 ct13),sl13⟩)
  (c13 : codeIn K cd13 "Least.bad" = true)
  (k13 : keepIn K (.ref q13) = true)
  (a14 : findIn K (.ref Jb) "__init__" = some (some (.ref q14)))
  (i14 : isFn K (.ref q14) = true)
  (l14 : K.lookup q14 = some ⟨oc14,od14,.func (fnOf "__init__" "Both.__init__" (Ji J0z) (Jg J0z) (J3 J0z) .none kV14 dc14 pm14 an14 cd14 ct14),sl14⟩)
  (c14 : codeIn K cd14 "Both.__init__" = true)
  (k14 : keepIn K (.ref q14) = true)
  (a15 : findIn K (.ref Jb) "reach" = some (some (.ref q15)))
  (i15 : isFn K (.ref q15) = true)
  (l15 : K.lookup q15 = some ⟨oc15,od15,.func (fnOf "reach" "Both.reach" (Ji J0j) (Jg J0j) (J3 J0j) .none kV15 dc15 pm15 an15 cd15 ct15),sl15⟩)
  (c15 : codeIn K cd15 "Both.reach" = true)
  (k15 : keepIn K (.ref q15) = true)
  (a16 : findIn K (.ref Jb) "bad" = some (some (.ref q16)))
  (i16 : isFn K (.ref q16) = true)
  (l16 : K.lookup q16 = some ⟨oc16,od16,.func (fnOf "bad" "Both.bad" (Ji J0U) (Jg J0U) (J3 J0U) .none kV16 dc16 pm16 an16 cd16 ct16),sl16⟩)
  (c16 : codeIn K cd16 "Both.bad" = true)
  (k16 : keepIn K (.ref q16) = true)
  (a17 : findIn K (.ref Je) "__init__" = some (some (.ref q17)))
  (i17 : isFn K (.ref q17) = true)
  (l17 : K.lookup q17 = some ⟨oc17,od17,.func (fnOf "__init__" "Not.__init__" (Ji J0P) (Jg J0P) (J3 J0P) .none kV17 dc17 pm17 an17 cd17 ct17),sl17⟩)
  (c17 : codeIn K cd17 "Not.__init__" = true)
  (k17 : keepIn K (.ref q17) = true)
  (a18 : findIn K (.ref Je) "reach" = some (some (.ref q18)))
  (i18 : isFn K (.ref q18) = true)
  (l18 : K.lookup q18 = some ⟨oc18,od18,.func (fnOf "reach" "Not.reach" (Ji J0E) (Jg J0E) (J3 J0E) .none kV18 dc18 pm18 an18 cd18 ct18),sl18⟩)
  (c18 : codeIn K cd18 "Not.reach" = true)
  (k18 : keepIn K (.ref q18) = true)
  (a19 : findIn K (.ref Je) "bad" = some (some (.ref q19)))
  (i19 : isFn K (.ref q19) = true)
  (l19 : K.lookup q19 = some ⟨oc19,od19,.func (fnOf "bad" "Not.bad" (Ji J1c) (Jg J1c) (J3 J1c) .none kV19 dc19 pm19 an19 cd19 ct19),sl19⟩)
  (c19 : codeIn K cd19 "Not.bad" = true)
  (k19 : keepIn K (.ref q19) = true)
  (a20 : nsIn K mainGlobals "_law_cell_at" = some (some (.ref q20)))
  (l20 : K.lookup q20 = some ⟨oc20,od20,.func (fnOf "_law_cell_at" "_law_cell_at" (Ji J06) (Jg J06) (J3 J06) .none kV20 dc20 pm20 an20 cd20 ct20),sl20⟩)
  (c20 : codeIn K cd20 "_law_cell_at" = true)
  (k20 : keepIn K (.ref q20) = true)
  (a21 : nsIn K mainGlobals "longer_rows" = some (some (.ref q21)))
  (l21 : K.lookup q21 = some ⟨oc21,od21,.func (fnOf "longer_rows" "longer_rows" (Ji JV) (Jg JV) (J3 JV) .none kV21 dc21 pm21 an21 cd21 ct21),sl21⟩)
  (c21 : codeIn K cd21 "longer_rows" = true)
  (k21 : keepIn K (.ref q21) = true)
  (a22 : nsIn K mainGlobals "rows_of_new_tails" = some (some (.ref q22)))
  (l22 : K.lookup q22 = some ⟨oc22,od22,.func (fnOf "rows_of_new_tails" "rows_of_new_tails" (Ji JA) (Jg JA) (J3 JA) .none kV22 dc22 pm22 an22 cd22 ct22),sl22⟩)
  (c22 : codeIn K cd22 "rows_of_new_tails" = true)
  (k22 : keepIn K (.ref q22) = true)
  (a23 : nsIn K mainGlobals "alike" = some (some (.ref q23)))
  (l23 : K.lookup q23 = some ⟨oc23,od23,.func (fnOf "alike" "alike" (Ji J1T) (Jg J1T) (J3 J1T) .none kV23 dc23 pm23 an23 cd23 ct23),sl23⟩)
  (c23 : codeIn K cd23 "alike" = true)
  (k23 : keepIn K (.ref q23) = true)
  (a24 : nsIn K mainGlobals "_law_marks" = some (some (.ref q24)))
  (l24 : K.lookup q24 = some ⟨oc24,od24,.func (fnOf "_law_marks" "_law_marks" (Ji J0G) (Jg J0G) (J3 J0G) .none kV24 dc24 pm24 an24 cd24 ct24),sl24⟩)
  (c24 : codeIn K cd24 "_law_marks" = true)
  (k24 : keepIn K (.ref q24) = true)
  (a25 : nsIn K mainGlobals "_law_free" = some (some (.ref q25)))
  (l25 : K.lookup q25 = some ⟨oc25,od25,.func (fnOf "_law_free" "_law_free" (Ji J0R) (Jg J0R) (J3 J0R) .none kV25 dc25 pm25 an25 cd25 ct25),sl25⟩)
  (c25 : codeIn K cd25 "_law_free" = true)
  (k25 : keepIn K (.ref q25) = true)
  (a26 : nsIn K mainGlobals "_law_word" = some (some (.ref q26)))
  (l26 : K.lookup q26 = some ⟨oc26,od26,.func (fnOf "_law_word" "_law_word" (Ji J0S) (Jg J0S) (J3 J0S) .none kV26 dc26 pm26 an26 cd26 ct26),sl26⟩)
  (c26 : codeIn K cd26 "_law_word" = true)
  (k26 : keepIn K (.ref q26) = true)
  (a27 : nsIn K mainGlobals "_law_spaced" = some (some (.ref q27)))
  (l27 : K.lookup q27 = some ⟨oc27,od27,.func (fnOf "_law_spaced" "_law_spaced" (Ji J0l) (Jg J0l) (J3 J0l) .none kV27 dc27 pm27 an27 cd27 ct27),sl27⟩)
  (c27 : codeIn K cd27 "_law_spaced" = true)
  (k27 : keepIn K (.ref q27) = true)
  (a28 : nsIn K mainGlobals "_law_rows" = some (some (.ref q28)))
  (l28 : K.lookup q28 = some ⟨oc28,od28,.func (fnOf "_law_rows" "_law_rows" (Ji J0O) (Jg J0O) (J3 J0O) .none kV28 dc28 pm28 an28 cd28 ct28),sl28⟩)
  (c28 : codeIn K cd28 "_law_rows" = true)
  (k28 : keepIn K (.ref q28) = true)
  (a29 : nsIn K mainGlobals "_law_due" = some (some (.ref q29)))
  (l29 : K.lookup q29 = some ⟨oc29,od29,.func (fnOf "_law_due" "_law_due" (Ji J1b) (Jg J1b) (J3 J1b) .none kV29 dc29 pm29 an29 cd29 ct29),sl29⟩)
  (c29 : codeIn K cd29 "_law_due" = true)
  (k29 : keepIn K (.ref q29) = true)
  (a30 : nsIn K mainGlobals "_law_refused" = some (some (.ref q30)))
  (l30 : K.lookup q30 = some ⟨oc30,od30,.func (fnOf "_law_refused" "_law_refused" (Ji J05) (Jg J05) (J3 J05) .none kV30 dc30 pm30 an30 cd30 ct30),sl30⟩)
  (c30 : codeIn K cd30 "_law_refused" = true)
  (k30 : keepIn K (.ref q30) = true)
  (a31 : nsIn K mainGlobals "_law_shape" = some (some (.ref q31)))
  (l31 : K.lookup q31 = some ⟨oc31,od31,.func (fnOf "_law_shape" "_law_shape" (Ji J0C) (Jg J0C) (J3 J0C) .none kV31 dc31 pm31 an31 cd31 ct31),sl31⟩)
  (c31 : codeIn K cd31 "_law_shape" = true)
  (k31 : keepIn K (.ref q31) = true)
  (a32 : nsIn K mainGlobals "_law_told" = some (some (.ref q32)))
  (l32 : K.lookup q32 = some ⟨oc32,od32,.func (fnOf "_law_told" "_law_told" (Ji J0T) (Jg J0T) (J3 J0T) .none kV32 dc32 pm32 an32 cd32 ct32),sl32⟩)
  (c32 : codeIn K cd32 "_law_told" = true)
  (k32 : keepIn K (.ref q32) = true)
  (a33 : nsIn K mainGlobals "law" = some (some (.ref q33)))
  (l33 : K.lookup q33 = some ⟨oc33,od33,.func (fnOf "law" "law" (Ji J1J) (Jg J1J) (J3 J1J) .none kV33 dc33 pm33 an33 cd33 ct33),sl33⟩)
  (c33 : codeIn K cd33 "law" = true)
  (k33 : keepIn K (.ref q33) = true)
  (J3u : plainGet K J5 Str.empty = true)
  (J3v : hasDictIn K J5 = true)
  (J3y : plainOver K J5 = true)
  (J3l : findIn K (.ref J5) "__setattr__" = some (some (.builtin "object.__setattr__")))
  (J3h : makesIn K J5 = true)
  (J3q : keepIn K (.ref J5) = true)
  (J55 : plainGet K J9 Str.empty = true)
  (J4X : hasDictIn K J9 = true)
  (J4Z : plainOver K J9 = true)
  (J4Q : findIn K (.ref J9) "__setattr__" = some (some (.builtin "object.__setattr__")))
  (J51 : makesIn K J9 = true)
  (J4R : keepIn K (.ref J9) = true)
  (J3n : plainGet K J4 Str.empty = true)
  (J3m : hasDictIn K J4 = true)
  (J3t : plainOver K J4 = true)
  (J3A : findIn K (.ref J4) "__setattr__" = some (some (.builtin "object.__setattr__")))
  (J3x : makesIn K J4 = true)
  (J3s : keepIn K (.ref J4) = true)
  (J5b : plainGet K Jb Str.empty = true)
  (J5a : hasDictIn K Jb = true)
  (J4N : plainOver K Jb = true)
  (J4T : findIn K (.ref Jb) "__setattr__" = some (some (.builtin "object.__setattr__")))
  (J4U : makesIn K Jb = true)
  (J4O : keepIn K (.ref Jb) = true)
  (J6M : plainGet K Je Str.empty = true)
  (J6N : hasDictIn K Je = true)
  (J70 : plainOver K Je = true)
  (J6F : findIn K (.ref Je) "__setattr__" = some (some (.builtin "object.__setattr__")))
  (J72 : makesIn K Je = true)
  (J6X : keepIn K (.ref Je) = true)
  (J1f : excIn K J1 J7v "ValueError.__new__" = true)
  (J2h : findIn K (.ref J1) "__getattribute__" = some (some (.builtin "BaseException.__getattribute__")))
  (J2l : findIn K (.ref J1) "__getattr__" = some none)
  (J2j : findIn K (.ref J1) "__class__" = some (some (.builtin "object.__class__")))
  (J1z : mroIn K J1 (.type "object") = some true)
  (J2o : mroIn K J1 (.type "BaseException") = some true)
  (JE : exmOne K (.ref J1) (.ref J2) = some true)
  (JB : kitOne K (.ref J1) (.type "ValueError") = some true)
  (JL : kitOne K (.ref J1) (.ref J1) = some true)
  (JO : kitOne K (.ref J1) (.ref J8) = some false)
  (JF : findIn K (.ref J5) "word" = some none)
  (J0F : findIn K (.ref J9) "many" = some none)
  (J0i : findIn K (.ref J9) "marks" = some none)
  (J0e : findIn K (.ref J9) "days" = some none)
  (J0h : findIn K (.ref J4) "many" = some none)
  (J08 : findIn K (.ref J4) "marks" = some none)
  (JS : findIn K (.ref J4) "days" = some none)
  (J0f : findIn K (.ref Jb) "left" = some none)
  (J00 : findIn K (.ref Jb) "right" = some none)
  (J0c : findIn K (.ref Je) "inner" = some none)
  (J0J : nsIn K mainGlobals "ValueError" = some none)
  (J5O : nsIn K mainGlobals "all" = some none)
  (J5P : nsIn K mainGlobals "any" = some none)
  (JR : nsIn K mainGlobals "isinstance" = some none)
  (J0q : nsIn K mainGlobals "len" = some none)
  (J3i : nsIn K mainGlobals "list" = some none)
  (J1L : nsIn K mainGlobals "max" = some none)
  (J5Q : nsIn K mainGlobals "min" = some none)
  (J0Y : nsIn K mainGlobals "range" = some none)
  (J1N : nsIn K mainGlobals "sorted" = some none)
  (J5C : nsIn K mainGlobals "zip" = some none)
  (J0K : nsIn K mainGlobals "MOST_TAILS" = some (some (.int 400 tk_MOST_TAILS)))
  : ∃ fd : FuncData,(∀ (s : Shared) (v : Value),BindsTo s fd ⟨[v],[]⟩ [("_law_script",v)]) ∧ ∀ base : Heap,K.In base → base.Ns mainGlobals mg → FnOk l.prog w K mg base CX0 40 fa fd ["_law_script"] (sp_law K):=by
 have e:=hfa.symm.trans (mg_of X G a33)
 cases e
 have T : Tx K mg J5 J9 J4 Jb Je J2 J1 J8:=⟨⟨_,_,Jt (st:=J2N) l1 c1 k1,mg_of X G a1⟩,
  ⟨_,_,Jt (st:=J0o) l2 c2 k2,mg_of X G a2⟩,
  ⟨_,_,Jt (st:=J1g) l3 c3 k3,mg_of X G a3⟩,
  ⟨_,_,Jt (st:=JU) l4 c4 k4,mg_of X G a4⟩,
  ⟨_,_,Jt (st:=J0m) l5 c5 k5,⟨a5,i5,k5⟩⟩,
  ⟨_,_,Jt (st:=J07) l6 c6 k6,⟨a6,i6,k6⟩⟩,
  ⟨_,_,Jt (st:=J0d) l7 c7 k7,⟨a7,i7,k7⟩⟩,
  ⟨_,_,Jt (st:=J0A) l8 c8 k8,⟨a8,i8,k8⟩⟩,
  ⟨_,_,Jt (st:=J0k) l9 c9 k9,⟨a9,i9,k9⟩⟩,
  ⟨_,_,Jt (st:=J0Q) l10 c10 k10,⟨a10,i10,k10⟩⟩,
  ⟨_,_,Jt (st:=J0n) l11 c11 k11,⟨a11,i11,k11⟩⟩,
  ⟨_,_,Jt (st:=J04) l12 c12 k12,⟨a12,i12,k12⟩⟩,
  ⟨_,_,Jt (st:=J0D) l13 c13 k13,⟨a13,i13,k13⟩⟩,
  ⟨_,_,Jt (st:=J0z) l14 c14 k14,⟨a14,i14,k14⟩⟩,
  ⟨_,_,Jt (st:=J0j) l15 c15 k15,⟨a15,i15,k15⟩⟩,
  ⟨_,_,Jt (st:=J0U) l16 c16 k16,⟨a16,i16,k16⟩⟩,
  ⟨_,_,Jt (st:=J0P) l17 c17 k17,⟨a17,i17,k17⟩⟩,
  ⟨_,_,Jt (st:=J0E) l18 c18 k18,⟨a18,i18,k18⟩⟩,
  ⟨_,_,Jt (st:=J1c) l19 c19 k19,⟨a19,i19,k19⟩⟩,
  ⟨_,_,Jt (st:=J06) l20 c20 k20,mg_of X G a20⟩,
  ⟨_,_,Jt (st:=JV) l21 c21 k21,mg_of X G a21⟩,
  ⟨_,_,Jt (st:=JA) l22 c22 k22,mg_of X G a22⟩,
  ⟨_,_,Jt (st:=J1T) l23 c23 k23,mg_of X G a23⟩,
  ⟨_,_,Jt (st:=J0G) l24 c24 k24,mg_of X G a24⟩,
  ⟨_,_,Jt (st:=J0R) l25 c25 k25,mg_of X G a25⟩,
  ⟨_,_,Jt (st:=J0S) l26 c26 k26,mg_of X G a26⟩,
  ⟨_,_,Jt (st:=J0l) l27 c27 k27,mg_of X G a27⟩,
  ⟨_,_,Jt (st:=J0O) l28 c28 k28,mg_of X G a28⟩,
  ⟨_,_,Jt (st:=J1b) l29 c29 k29,mg_of X G a29⟩,
  ⟨_,_,Jt (st:=J05) l30 c30 k30,mg_of X G a30⟩,
  ⟨_,_,Jt (st:=J0C) l31 c31 k31,mg_of X G a31⟩,
  ⟨_,_,Jt (st:=J0T) l32 c32 k32,mg_of X G a32⟩,
  ⟨_,_,Jt (st:=J1J) l33 c33 k33,mg_of X G a33⟩,
  ⟨⟨J3u,J3v,J3y,J3l⟩,mg_of X G J52,J3h,J3q⟩,
  ⟨⟨J55,J4X,J4Z,J4Q⟩,mg_of X G J73,J51,J4R⟩,
  ⟨⟨J3n,J3m,J3t,J3A⟩,mg_of X G J50,J3x,J3s⟩,
  ⟨⟨J5b,J5a,J4N,J4T⟩,mg_of X G J6I,J4U,J4O⟩,
  ⟨⟨J6M,J6N,J70,J6F⟩,mg_of X G J8L,J72,J6X⟩,
  mg_of X G J1M,
  mg_of X G J2O,
  mg_of X G J3k,
  J1f,
  ⟨⟨J2h,J2l,J2j,J1z,J2o⟩,J7j J1z⟩,
  JE,
  JB,
  JL,
  JO,
  JF,
  J0F,
  J0i,
  J0e,
  J0h,
  J08,
  JS,
  J0f,
  J00,
  J0c,
  mg_none_of X G J0J,
  mg_none_of X G J5O,
  mg_none_of X G J5P,
  mg_none_of X G JR,
  mg_none_of X G J0q,
  mg_none_of X G J3i,
  mg_none_of X G J1L,
  mg_none_of X G J5Q,
  mg_none_of X G J0Y,
  mg_none_of X G J1N,
  mg_none_of X G J5C,
  ⟨_,mg_of X G J0K⟩⟩
 refine ⟨fnOf "law" "law" (Ji J1J) (Jg J1J) (J3 J1J) .none kV33 dc33 pm33 an33 cd33 ct33,fun s v=>.of_eq rfl,fun base _ _=>?_⟩
 exact JaP T (Jt (st:=J1J) l33 c33 k33)
theorem walk {l : PySem.W.OpenLaw} {q : Program} {loose : List Str} {XP : (Str → Option Value) → Heap → Prop} {YP : World → Heap → Prop} {d : DefRec} {K : Params → PySem.W.Frag} (hn : l.most = some 63) (hdf : d.params.defaults = [])
  (hY : ∀ (w : World) (h : Heap),YP w h → (K w.params).In h)
  (F : ∀ (w : World) (mg : Str → Option Value) (fa : Addr) (h : Heap),(K w.params).In h → h.Ns mainGlobals mg → mg d.name = some (.ref fa) →
   ∃ fd : FuncData,(∀ (s : Shared) (u : Value),BindsTo s fd ⟨[u],[]⟩ [("_law_script",u)]) ∧ ∀ base : Heap,(K w.params).In base → base.Ns mainGlobals mg → FnOk l.prog w (K w.params) mg base CX0 40 fa fd ["_law_script"] (sp_law (K w.params))) :
  PySem.W.WalkO q loose XP YP l.row.toRowW d [] (fun f vs=>PySem.call f vs) :=
 L2.walk_of (n:=63) (k:=40) (x:="_law_script") (CX:=fun _=>CX0) (sp:=fun w=>sp_law (K w.params)) hn (by decide) hdf ⟨rfl,by decide,by decide⟩ hY F (fun _ _ a ns hl _ hS=>⟨a,ns,rfl,hS,hl,fun _=>rfl⟩) fun _ _ _ _ _ z=>z
theorem walkX {q : Program} {loose : List Str} {XP : (Str → Option Value) → Heap → Prop} {K : Params → PySem.W.Frag} {as : List Addr} {n t : Nat} {r : PySem.W.RowW} {d : DefRec} {kwd : List (Str × Expr)} {run : Value → List Value → Sem Value} (e : ∀ P,as = (K P).map (·.1))
  (h : PySem.W.WalkO q loose XP (fun w hp=>(K w.params).In hp) r d kwd run) : PySem.W.WalkX q loose XP (PySem.W.X.obsZ as) (PySem.W.X.valZ K n t) r d kwd run:=by
 intro w s₀ s₁ mg mb G Y a o pm cd doc dV kV h1 h2 h3 h4 h5 h6 args vals as' L p1 p2 p3 p4 p5
 exact h w s₀ s₁ mg mb G (PySem.W.InK.keeps w _ _ (PySem.W.X.z_facts e Y).2.1 L.keeps) a o pm cd doc dV kV h1 h2 h3 h4 h5 h6 args vals as' p1 p2 p3 p4 p5
end K14
namespace PySem.W.Fast
def tw4621728226861696702:=()
def tw440323593274024408:=()
def tw2324901884178945565:=()
def tw1973514752268916151:=()
def tw6907946298166104484:=()
def tw11110890395353782067:=()
def tw532424725513938502:=()
def tw15728976686871185943:=()
def tw10268004802201363409:=()
def tw1652692525170215425:=()
def tw6154530005824839389:=()
def tw5774616625846615803:=()
def tw9977561627031540755:=()
def tw13673004932602155585:=()
def tw8621498410234221174:=()
def tw17234689105304435400:=()
def tw1707455528177267780:=()
def tw12197121034588742963:=()
def tw9765978216268307489:=()
def tw2522121931407382694:=()
def tw17771728959570317122:=()
def tw10703795854253228892:=()
def tw9479858209267499201:=()
def tw16616449059670127407:=()
def tw4329705438896513343:=()
def tw3394502935945121729:=()
def tw7754933201710171983:=()
def tw13821857550841444440:=()
def tw13965702355287027713:=()
def tw5338173592457418918:=()
def tw15718200360729789996:=()
def tw5510961944404776025:=()
def tw13437408648485981757:=()
def tw13634835056080393565:=()
def tw9852936154320526469:=()
def tw3229062003663629037:=()
def tw9183277404459461288:=()
def tw3293466918316068418:=()
def tw2299520627943040822:=()
def tw4511712641833471096:=()
def tw3901225950448532303:=()
def tw16109065541044156109:=()
def tw4551822126118098377:=()
def tw13786213066903716897:=()
def tw4014359056643798890:=()
def tw1917166538280129896:=()
def tw6149751701753270537:=()
def tw1074275592251483585:=()
def tw16888906912037990440:=()
def tw4907265308040798376:=()
def tw16895165198339181041:=()
def tw18030224199523740187:=()
def tw17963631078262532063:=()
def tw1432051188636233641:=()
def tw16819202491039180602:=()
def tw17567129833433665905:=()
def tw2815090753341122123:=()
def tw10545464950970244381:=()
def tw11959839408669284603:=()
def tw13074328017534154659:=()
def tw14970415955428374783:=()
def tw10685580808149031353:=()
def tw10072640675118177711:=()
def tw12925661372490751558:=()
def tw13060469828674837535:=()
def tw13386965035752555511:=()
def tw13424297391529177831:=()
def tw12936834322952187537:=()
def tw9688854988498419252:=()
def tw1577348699287750541:=()
def tw9822560177187416632:=()
def tw9757363277411723953:=()
def tw4707280362427982027:=()
def tw3399965274929402730:=()
def tw3591109306369938714:=()
def tw14674265973613865662:=()
def tw4337456128910815863:=()
def tw7086809907899516081:=()
def tw8414618359823223319:=()
def tw10503601241762922842:=()
def tw2942234818532502022:=()
def tw3226853887656587749:=()
def tw1038267768891960018:=()
def tw2091346936015612803:=()
def tw7036223606737451076:=()
def tw10867760503434539111:=()
def tw10457700046249434640:=()
def tw14494850780304443666:=()
def tw16889023772433395446:=()
def tw4466009075950503373:=()
def tw12436788734086703745:=()
def tw9678397273680814049:=()
def tw13263772653766376787:=()
def tw6828134737016959193:=()
def tw15368279351449239633:=()
def tw1578373337652840323:=()
def tw10233870417405037337:=()
def tw6489798994257405433:=()
def tw11544733089847175691:=()
def tw1586911118708196904:=()
def tw5016282869583019392:=()
def tw3930224169216014923:=()
def tw3271197565777705960:=()
def tw11272432738460285743:=()
def tw2485535940924710089:=()
def tw17870674994078838432:=()
def tw1013279889733112565:=()
def tw323139322544000050:=()
def tw2972851203353610882:=()
def tw2959327486815767564:=()
def tw17249458778026284803:=()
def tw15468486403979564192:=()
def tw989074412698068406:=()
def tw2974545987662394312:=()
def tw5098244319973429672:=()
def tw12472409324221107930:=()
def tw6713541446999145086:=()
def tw10334000133981645870:=()
def tw4782938820642445685:=()
def tw16600191019374362684:=()
def tw17447660366454159805:=()
def tw15760598974146868059:=()
def tw9316422891880074453:=()
def tw13622036300480815235:=()
def tw13260769042697053702:=()
def tw4935232258000412899:=()
def tw1757649319743474266:=()
def tw9688732743348741427:=()
def tw4303035296127351394:=()
def tw521030546552250596:=()
def tw17564152748326654959:=()
def tw16619398001605329265:=()
def tw7732592249040940307:=()
def tw4927600050710989793:=()
def tw4614289744746124285:=()
def tw1221344320465170618:=()
def tw16769676808720853058:=()
def tw3614051559048842984:=()
def tw1223663707011424048:=()
def tw400208484644221154:=()
def tw370530670579369319:=()
def tw7897080894044381741:=()
def tw18269714357215879469:=()
def tw2069755230768593321:=()
def tw5547136716067528159:=()
def tw18150667724901110243:=()
def tw1569888102712375041:=()
def tw4544967793972389505:=()
def tw11561875435800777290:=()
def tw2029280895753958913:=()
def tw15226280331621265583:=()
def tw7441994865992367849:=()
def tw7861221278935866143:=()
def tw9759563753960893948:=()
def tw5233669682749569675:=()
def tw12641069574028558479:=()
def tw9407423545043880466:=()
def tw6418280806290140973:=()
def tw17514404546270968842:=()
def tw17022910023263803678:=()
def tw7438253673259078516:=()
def tw11192748132356486345:=()
def tw8394285685957213700:=()
def tw11060108855588730692:=()
def tw1079401727410035742:=()
def tw10193194909131443696:=()
def tw13471940838208716748:=()
def tw6011261745163533825:=()
def tw7632165029748266527:=()
def tw9124329306677689989:=()
def tw8106673748090965080:=()
def tw17560609402400749594:=()
def tw9725281281491455974:=()
def tw12854453745747110076:=()
def tw14097053930408970219:=()
def tw7900092252334818373:=()
def tw11708596388212381766:=()
def tw4219787716530421489:=()
def tw1081358299506851034:=()
def tw6303994879560780082:=()
def tw15783760569464349207:=()
def tw658386343364366982:=()
def tw13009204647126785695:=()
def tw7093114960214713865:=()
def tw16436054747170131124:=()
def tw7191378236773873340:=()
def tw4008190624911544147:=()
def tw10818682128415438608:=()
def tw13692750067024670990:=()
def tw14824522743539908900:=()
def tw18020802117550233143:=()
def tw16164503030967457980:=()
def tw1918433411170998553:=()
def tw6202940958657248227:=()
def tw1630663063274645630:=()
def tw17176817148211285079:=()
def tw3160784277139168676:=()
def tw15138359419287026401:=()
def tw15978591725605027104:=()
def tw7079902674902151818:=()
def tw17639481741203171365:=()
def tw11698704659787407757:=()
def tw9603785465525685879:=()
def tw13380384827570962693:=()
def tw16343885319853373930:=()
def tw8849252333963882758:=()
def tw40372763054654007:=()
def tw17846979148517244856:=()
def tw16443354236900621341:=()
def tw2876604912232568495:=()
def tw67933635918573415:=()
def tw17953694922487116027:=()
def tw8609738074508826623:=()
def tw8539895147896162693:=()
def tw13648448959818470450:=()
def tw8171254366166102272:=()
def tw14393074760832410167:=()
def tw15219650051064894283:=()
def tw11442965339332233501:=()
def tw9714989225301285582:=()
def tw15486105027218869934:=()
def tw11912126166213076991:=()
def tw14569858666618858964:=()
def tw2112918660756392855:=()
def tw2348195747863452581:=()
def tw551381478364286685:=()
def tw9033947463807035037:=()
def tw9258275605431030128:=()
def tw7848639697551887570:=()
def tw9968282456628615985:=()
def tw14013914877810078240:=()
def tw8854036039122402445:=()
def tw1503293822433302562:=()
def tw12962810141452407198:=()
def tw6811574049161394828:=()
def tw3637378005114205038:=()
def tw14389105002766156454:=()
def tw4948303982619817632:=()
def tw17752353521710650371:=()
def tw12202552632007329644:=()
def tw13399415019341268398:=()
def tw11290218868114570219:=()
def tw14877109555772159128:=()
def tw7402389290757146933:=()
def tw17411942768074038069:=()
def tw15990312932608179843:=()
def tw1660844970523851416:=()
def tw12593687695141429600:=()
def tw16787803675011668174:=()
def tw1606790054025521815:=()
def tw15839102893733043844:=()
def tw6015443185567242270:=()
def tw14752132603491824559:=()
def tw9358039010409176128:=()
def tw14164470770624256377:=()
def tw12898466954425456251:=()
def tw2839725255564325369:=()
def tw196448519837837092:=()
def tw7417040648517090635:=()
def tw529089737804658362:=()
def tw16922919047950499339:=()
def tw7313170471078626886:=()
def tw12444246695875699417:=()
def tw17276533037246709726:=()
def tw4727035798057075324:=()
def tw7882054641322531242:=()
def tw17478136724962803224:=()
def tw11585862248728614356:=()
def tw1009884064291384472:=()
def tw16200947706998356934:=()
def tw12006687719658470877:=()
def tw4444996850823367412:=()
def tw5080572339333296173:=()
def tw10252664572946951130:=()
def tw279519203812469318:=()
def tw14138355623180432718:=()
def tw8570709286628115272:=()
def tw10888664084337283664:=()
def tw15683749375411547473:=()
def tw14065446004523550571:=()
def tw10224748989709118304:=()
def tw13701632169905208672:=()
def tw4928777391537698421:=()
def tw9012354545193798219:=()
def tw8800319364298784437:=()
def tw4602379369589614723:=()
def tw12537559966975727650:=()
def tw16371945811407400678:=()
def tw710420242478452739:=()
def tw5615517116134241332:=()
def tw11389921003741053066:=()
def tw7597798302281806812:=()
def tw16296851755864918179:=()
def tw3734925507711813362:=()
def tw5188614441912140733:=()
def tw15465981835383805310:=()
def tw12146607930308765215:=()
def tw16518686601064693181:=()
def tw16953458101489633068:=()
def tw4224299084720325384:=()
def tw12718321397532074627:=()
def tw5630959102037701436:=()
def tw13543672445738322806:=()
def tw15021559476854515165:=()
def tw9666663942060551217:=()
def tw7683603477327465401:=()
def tw11331858013125502645:=()
def tw11303842865639927164:=()
def tw11990901289431277260:=()
def tw5771244395012501675:=()
def tw4137681249847983997:=()
def tw12953362625516775599:=()
def tw11410747500002179181:=()
def tw5040018770363861306:=()
def tw16934711215844598421:=()
def tw15033453369408202441:=()
def tw16045607450180388231:=()
def tw4771060270315543247:=()
def tw5296005698452298220:=()
def tw5794265877848566577:=()
def tw10437199994576082210:=()
def tw7434587894770893509:=()
def tw16616939217581748272:=()
def tw12256281973258124931:=()
def tw12246495466496336482:=()
def tw16795711461481193192:=()
def tw14466973777066524743:=()
def tw9091610239979102141:=()
def tw11112363340925394837:=()
def tw17535484985079742169:=()
def tw1252558424865770719:=()
def tw1584907425206302673:=()
def tw15390715323765882580:=()
def tw10248576230444869310:=()
def tw4608736953332116742:=()
def tw8992461745147394621:=()
def tw13897008490666965088:=()
def tw5951921117713205654:=()
def tw3972674822034250183:=()
def tw9181704146667654153:=()
def tw14098236592418022533:=()
def tw8765961630807062120:=()
def tw6372417037381258398:=()
def tw17907781054907790294:=()
def tw4225782379960614846:=()
def tw5419032717401470057:=()
def tw1069824774867490258:=()
def tw17633588588659837848:=()
def tw8821440862956326721:=()
def tw14776299032793511846:=()
def tw8080239984170361270:=()
def tw6608616150991960387:=()
def tw8818215390811281150:=()
def tw13998574159932591752:=()
def tw5148863185971523470:=()
def tw6670419886874020494:=()
def tw3842675039499793718:=()
def tw10194095683680544550:=()
def tw16832293300099804187:=()
def tw5495465672104211208:=()
def tw14556117575134683839:=()
def tw675993686000343418:=()
def tw9986651222178702017:=()
def tw18254545051463284458:=()
def tw10222706524847079735:=()
def tw5394588534861969831:=()
def tw13004885347163929819:=()
def tw372948244308007300:=()
def tw7431344088204649551:=()
def tw2796843358710787108:=()
def tw3876835833632108668:=()
def tw7511725171058495645:=()
def tw8779720222751159293:=()
def tw5278964509211423480:=()
def tw8871878917627988238:=()
def tw9873654953330493674:=()
def tw8991953947809012544:=()
def tw4028966256085791686:=()
def tw9598735628617204342:=()
def tw899770854405476889:=()
def tw17444124117259625252:=()
def tw5008549667026919647:=()
def tw6010825871828040025:=()
def tw9486819395039730172:=()
def tw3960614008943420319:=()
def tw4914278106877330962:=()
def tw13975492502609438152:=()
def tw10131382522003476381:=()
def tw16052073204464061753:=()
def tw10075989634937080262:=()
def tw7459492977378019412:=()
def tw1931092348770663731:=()
def tw13622934636179720795:=()
def tw13334514967798671795:=()
end PySem.W.Fast
open PySem PySem.W PyProof.Rows
set_option maxRecDepth 100000 in
set_option maxHeartbeats 0 in
theorem PySem.Challenge.cw_rotafair_k14_too_wide_holds : PySem.Challenge.rw_rotafair_k14_too_wide.Holds := by
 w_on; o_law; z_head; (case hw=>w_witness2)
 k_fill
 refine K14.walkX (fun _=>rfl) ?_
 refine K14.walk (l:=PySem.Challenge.rw_rotafair_k14_too_wide) rfl rfl (fun w h Y=>Y) ?F
 case F =>
  intro w mg fa h KX G hmg
  refine' K14.all_mk KX G hmg ?J52 ?J73 ?J50 ?J6I ?J8L ?J1M ?J2O ?J3k ?a1 ?l1 ?c1 ?k1 ?a2 ?l2 ?c2 ?k2 ?a3 ?l3 ?c3 ?k3 ?a4 ?l4 ?c4 ?k4 ?a5 ?i5 ?l5 ?c5 ?k5 ?a6 ?i6 ?l6 ?c6 ?k6 ?a7 ?i7 ?l7 ?c7 ?k7 ?a8 ?i8 ?l8 ?c8 ?k8 ?a9 ?i9 ?l9 ?c9 ?k9 ?a10 ?i10 ?l10 ?c10 ?k10 ?a11 ?i11 ?l11 ?c11 ?k11 ?a12 ?i12 ?l12 ?c12 ?k12 ?a13 ?i13 ?l13 ?c13 ?k13 ?a14 ?i14 ?l14 ?c14 ?k14 ?a15 ?i15 ?l15 ?c15 ?k15 ?a16 ?i16 ?l16 ?c16 ?k16 ?a17 ?i17 ?l17 ?c17 ?k17 ?a18 ?i18 ?l18 ?c18 ?k18 ?a19 ?i19 ?l19 ?c19 ?k19 ?a20 ?l20 ?c20 ?k20 ?a21 ?l21 ?c21 ?k21 ?a22 ?l22 ?c22 ?k22 ?a23 ?l23 ?c23 ?k23 ?a24 ?l24 ?c24 ?k24 ?a25 ?l25 ?c25 ?k25 ?a26 ?l26 ?c26 ?k26 ?a27 ?l27 ?c27 ?k27 ?a28 ?l28 ?c28 ?k28 ?a29 ?l29 ?c29 ?k29 ?a30 ?l30 ?c30 ?k30 ?a31 ?l31 ?c31 ?k31 ?a32 ?l32 ?c32 ?k32 ?a33 ?l33 ?c33 ?k33 ?J3u ?J3v ?J3y ?J3l ?J3h ?J3q ?J55 ?J4X ?J4Z ?J4Q ?J51 ?J4R ?J3n ?J3m ?J3t ?J3A ?J3x ?J3s ?J5b ?J5a ?J4N ?J4T ?J4U ?J4O ?J6M ?J6N ?J70 ?J6F ?J72 ?J6X ?J1f ?J2h ?J2l ?J2j ?J1z ?J2o ?JE ?JB ?JL ?JO ?JF ?J0F ?J0i ?J0e ?J0h ?J08 ?JS ?J0f ?J00 ?J0c ?J0J ?J5O ?J5P ?JR ?J0q ?J3i ?J1L ?J5Q ?J0Y ?J1N ?J5C ?J0K
  (case J52=>k_is)
  (case J73=>k_is)
  (case J50=>k_is)
  (case J6I=>k_is)
  (case J8L=>k_is)
  (case J1M=>k_is)
  (case J2O=>k_is)
  (case J3k=>k_is)
  (case a1=>k_is)
  (case l1=>k_is)
  (case c1=>k_is)
  (case k1=>k_is)
  (case a2=>k_is)
  (case l2=>k_is)
  (case c2=>k_is)
  (case k2=>k_is)
  (case a3=>k_is)
  (case l3=>k_is)
  (case c3=>k_is)
  (case k3=>k_is)
  (case a4=>k_is)
  (case l4=>k_is)
  (case c4=>k_is)
  (case k4=>k_is)
  (case a5=>k_is)
  (case i5=>k_is)
  (case l5=>k_is)
  (case c5=>k_is)
  (case k5=>k_is)
  (case a6=>k_is)
  (case i6=>k_is)
  (case l6=>k_is)
  (case c6=>k_is)
  (case k6=>k_is)
  (case a7=>k_is)
  (case i7=>k_is)
  (case l7=>k_is)
  (case c7=>k_is)
  (case k7=>k_is)
  (case a8=>k_is)
  (case i8=>k_is)
  (case l8=>k_is)
  (case c8=>k_is)
  (case k8=>k_is)
  (case a9=>k_is)
  (case i9=>k_is)
  (case l9=>k_is)
  (case c9=>k_is)
  (case k9=>k_is)
  (case a10=>k_is)
  (case i10=>k_is)
  (case l10=>k_is)
  (case c10=>k_is)
  (case k10=>k_is)
  (case a11=>k_is)
  (case i11=>k_is)
  (case l11=>k_is)
  (case c11=>k_is)
  (case k11=>k_is)
  (case a12=>k_is)
  (case i12=>k_is)
  (case l12=>k_is)
  (case c12=>k_is)
  (case k12=>k_is)
  (case a13=>k_is)
  (case i13=>k_is)
  (case l13=>k_is)
  (case c13=>k_is)
  (case k13=>k_is)
  (case a14=>k_is)
  (case i14=>k_is)
  (case l14=>k_is)
  (case c14=>k_is)
  (case k14=>k_is)
  (case a15=>k_is)
  (case i15=>k_is)
  (case l15=>k_is)
  (case c15=>k_is)
  (case k15=>k_is)
  (case a16=>k_is)
  (case i16=>k_is)
  (case l16=>k_is)
  (case c16=>k_is)
  (case k16=>k_is)
  (case a17=>k_is)
  (case i17=>k_is)
  (case l17=>k_is)
  (case c17=>k_is)
  (case k17=>k_is)
  (case a18=>k_is)
  (case i18=>k_is)
  (case l18=>k_is)
  (case c18=>k_is)
  (case k18=>k_is)
  (case a19=>k_is)
  (case i19=>k_is)
  (case l19=>k_is)
  (case c19=>k_is)
  (case k19=>k_is)
  (case a20=>k_is)
  (case l20=>k_is)
  (case c20=>k_is)
  (case k20=>k_is)
  (case a21=>k_is)
  (case l21=>k_is)
  (case c21=>k_is)
  (case k21=>k_is)
  (case a22=>k_is)
  (case l22=>k_is)
  (case c22=>k_is)
  (case k22=>k_is)
  (case a23=>k_is)
  (case l23=>k_is)
  (case c23=>k_is)
  (case k23=>k_is)
  (case a24=>k_is)
  (case l24=>k_is)
  (case c24=>k_is)
  (case k24=>k_is)
  (case a25=>k_is)
  (case l25=>k_is)
  (case c25=>k_is)
  (case k25=>k_is)
  (case a26=>k_is)
  (case l26=>k_is)
  (case c26=>k_is)
  (case k26=>k_is)
  (case a27=>k_is)
  (case l27=>k_is)
  (case c27=>k_is)
  (case k27=>k_is)
  (case a28=>k_is)
  (case l28=>k_is)
  (case c28=>k_is)
  (case k28=>k_is)
  (case a29=>k_is)
  (case l29=>k_is)
  (case c29=>k_is)
  (case k29=>k_is)
  (case a30=>k_is)
  (case l30=>k_is)
  (case c30=>k_is)
  (case k30=>k_is)
  (case a31=>k_is)
  (case l31=>k_is)
  (case c31=>k_is)
  (case k31=>k_is)
  (case a32=>k_is)
  (case l32=>k_is)
  (case c32=>k_is)
  (case k32=>k_is)
  (case a33=>k_is)
  (case l33=>k_is)
  (case c33=>k_is)
  (case k33=>k_is)
  (case J3u=>k_is)
  (case J3v=>k_is)
  (case J3y=>k_is)
  (case J3l=>k_is)
  (case J3h=>k_is)
  (case J3q=>k_is)
  (case J55=>k_is)
  (case J4X=>k_is)
  (case J4Z=>k_is)
  (case J4Q=>k_is)
  (case J51=>k_is)
  (case J4R=>k_is)
  (case J3n=>k_is)
  (case J3m=>k_is)
  (case J3t=>k_is)
  (case J3A=>k_is)
  (case J3x=>k_is)
  (case J3s=>k_is)
  (case J5b=>k_is)
  (case J5a=>k_is)
  (case J4N=>k_is)
  (case J4T=>k_is)
  (case J4U=>k_is)
  (case J4O=>k_is)
  (case J6M=>k_is)
  (case J6N=>k_is)
  (case J70=>k_is)
  (case J6F=>k_is)
  (case J72=>k_is)
  (case J6X=>k_is)
  (case J1f=>k_exc)
  (case J2h=>k_is)
  (case J2l=>k_is)
  (case J2j=>k_is)
  (case J1z=>k_is)
  (case J2o=>k_is)
  (case JE=>kts_exm)
  (case JB=>kit_is)
  (case JL=>kit_is)
  (case JO=>kit_is)
  (case JF=>k_is)
  (case J0F=>k_is)
  (case J0i=>k_is)
  (case J0e=>k_is)
  (case J0h=>k_is)
  (case J08=>k_is)
  (case JS=>k_is)
  (case J0f=>k_is)
  (case J00=>k_is)
  (case J0c=>k_is)
  (case J0J=>k_is)
  (case J5O=>k_is)
  (case J5P=>k_is)
  (case JR=>k_is)
  (case J0q=>k_is)
  (case J3i=>k_is)
  (case J1L=>k_is)
  (case J5Q=>k_is)
  (case J0Y=>k_is)
  (case J1N=>k_is)
  (case J5C=>k_is)
  (case J0K=>k_is)
#print axioms PySem.Challenge.cw_rotafair_k14_too_wide_holds
