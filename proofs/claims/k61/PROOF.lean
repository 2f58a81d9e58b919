import PyProof.Rows.All
import Wide.All
import OpenK.AllK
import Wide.FinOn
import Lean
import PyProof.EqAt
import PyProof.EqKinds
import PyProof.TupleCall
import KE.KIntText
import PyProof.ListRange
import PyProof.Rows.StrMul
import PyProof.Rows.StrCountLaw
import PyProof.Rows.StrLen
import PyProof.ToksMono
import PyProof.Rows.StrJoinRep
import PySem.Challenge.RW_rotafair_k61_columns
set_option Elab.async false
set_option linter.all false
set_option maxRecDepth 100000
namespace L2
open PySem PySem.Spec PyProof.Rows
noncomputable abbrev Key:=Sum Int Str
noncomputable def J9d : Key → Value → Bool
 | .inl k,v=>Value.isInt k v
 | .inr x,v=>Value.isStrOf x v
noncomputable def keyH (w : World) : Key → Int
 | .inl k=>hashInt k
 | .inr x=>hashStr w x
theorem JU : ∀ {k : Key} {v : Value},J9d k v = true → (∃ i t,k = Sum.inl i ∧ v = Value.int i t) ∨ (∃ x t,k = Sum.inr x ∧ v = Value.str x t)
 | .inl i,v,h=>by
  obtain ⟨t,e⟩:=Value.isInt_shape (k:=i) (v:=v) h
  exact .inl ⟨i,t,rfl,e⟩
 | .inr x,v,h=>by
  obtain ⟨t,e⟩:=Value.isStrOf_shape (x:=x) (v:=v) h
  exact .inr ⟨x,t,rfl,e⟩
theorem J9Z (a b : Int) : decide ((Sum.inl a : Key) = Sum.inl b) = (a == b):=by
 by_cases e : a = b
 ·subst e; simp
 ·have h : ¬ (Sum.inl a : Key) = Sum.inl b:=fun q=>e (Sum.inl.inj q)
  rw [decide_eq_false h]
  exact (beq_eq_false_iff_ne.mpr e).symm
theorem J9w (a b : Str) : decide ((Sum.inr a : Key) = Sum.inr b) = decide (a = b):=by
 by_cases e : a = b
 ·subst e; simp
 ·have h : ¬ (Sum.inr a : Key) = Sum.inr b:=fun q=>e (Sum.inr.inj q)
  rw [decide_eq_false h,decide_eq_false e]
theorem Ja2 (a : Int) (b : Str) : decide ((Sum.inl a : Key) = Sum.inr b) = false:=decide_eq_false (fun q=>nomatch q)
theorem J9S (a : Str) (b : Int) : decide ((Sum.inr a : Key) = Sum.inl b) = false:=decide_eq_false (fun q=>nomatch q)
noncomputable def J6D (prog : Program) (w : World) : PySem.KeyKind prog w Key where
 is:=J9d
 hash:=keyH w
 inj:=fun v a b ha hb=>by
  rcases JU ha with ⟨i,t,rfl,rfl⟩ | ⟨x,t,rfl,rfl⟩
  ·rcases JU hb with ⟨j,u,rfl,e⟩ | ⟨y,u,rfl,e⟩
   ·injection e with e1 _; rw [e1]
   ·exact nomatch e
  ·rcases JU hb with ⟨j,u,rfl,e⟩ | ⟨y,u,rfl,e⟩
   ·exact nomatch e
   ·injection e with e1 _; rw [e1]
 byValue:=fun k v h=>by
  rcases JU h with ⟨i,t,rfl,rfl⟩ | ⟨x,t,rfl,rfl⟩ <;> rfl
 pyHash:=fun hv h=>by
  rcases JU hv with ⟨i,t,rfl,rfl⟩ | ⟨x,t,rfl,rfl⟩
  ·exact wpAny_pyHash_int h
  ·exact wpAny_pyHash_str h
 eqBool:=fun hu hv h=>by
  rcases JU hu with ⟨i,t,rfl,rfl⟩ | ⟨x,t,rfl,rfl⟩
  ·rcases JU hv with ⟨j,u,rfl,rfl⟩ | ⟨y,u,rfl,rfl⟩
   ·rw [J9Z] at h; exact wpAny_eqBool_int h
   ·rw [Ja2] at h; exact SeqAt.EqAt.int_str i t y u _ _ _ _ h
  ·rcases JU hv with ⟨j,u,rfl,rfl⟩ | ⟨y,u,rfl,rfl⟩
   ·rw [J9S] at h; exact SeqAt.EqAt.str_int x t j u _ _ _ _ h
   ·rw [J9w] at h; exact wpAny_eqBool_str h
 «strs»:=fun k x t v h=>by
  rcases JU h with ⟨i,u,rfl,e⟩ | ⟨y,u,rfl,e⟩
  ·exact nomatch e
  ·injection e with e1 _
   subst e1
   cases v <;> rfl
end L2
namespace L2
open PySem PySem.Spec PyProof.Rows
inductive V where
 | non | bl (b : Bool) | int (i : Int) | str (x : Str) | byt (b : Array UInt8) | flt (b : UInt64) | ref (a : Addr) | ty (n : String)
 deriving DecidableEq
noncomputable def RelV : V → Value → Prop
 | .non,u=>u = Value.none
 | .bl b,u=>u = Value.bool b
 | .int i,u=>∃ t,u = Value.int i t
 | .str x,u=>∃ t,u = Value.str x t
 | .byt b,u=>∃ t,u = Value.bytes b t
 | .flt b,u=>∃ t,u = Value.float b t
 | .ref a,u=>u = Value.ref a
 | .ty n,u=>u = Value.type n
noncomputable abbrev Vals : List V → List Value → Prop:=Paired RelV
theorem Vals.length {xs : List V} {us : List Value} (r : Vals xs us) : xs.length = us.length:=Paired.length r
theorem Vals.get : ∀ {xs : List V} {us : List Value} {i : Nat} {x : V},Vals xs us → xs[i]? = some x → ∃ u,us[i]? = some u ∧ RelV x u
 | _,_,_,_,.nil,e=>by simp at e
 | _,_,0,_,.cons r _,e=>by simp at e; subst e; exact ⟨_,rfl,r⟩
 | _,_,i + 1,x,.cons _ t,e=>by
  obtain ⟨u,h1,h2⟩:=Vals.get (i:=i) (x:=x) t (by simpa using e)
  exact ⟨u,by simpa using h1,h2⟩
theorem Vals.append : ∀ {xs ys : List V} {us ws : List Value},Vals xs us → Vals ys ws → Vals (xs ++ ys) (us ++ ws)
 | _,_,_,_,.nil,s=>s
 | _,_,_,_,.cons r t,s=>.cons r (Vals.append t s)
theorem Vals.take : ∀ {xs : List V} {us : List Value} (n : Nat),Vals xs us → Vals (xs.take n) (us.take n)
 | _,_,0,_=>.nil
 | _,_,_ + 1,.nil=>.nil
 | _,_,n + 1,.cons r t=>.cons r (Vals.take n t)
theorem Vals.drop : ∀ {xs : List V} {us : List Value} (n : Nat),Vals xs us → Vals (xs.drop n) (us.drop n)
 | _,_,0,r=>r
 | _,_,_ + 1,.nil=>.nil
 | _,_,n + 1,.cons _ t=>Vals.drop n t
noncomputable def RelO : Option V → Option Value → Prop
 | some v,some u=>RelV v u
 | none,none=>True
 | _,_=>False
noncomputable def KV {κ : Type} : List (κ × V) → List (κ × Value) → Prop:=Paired fun (p : κ × V) (q : κ × Value)=>p.1 = q.1 ∧ RelV p.2 q.2
noncomputable def kV : Key → V
 | .inl i=>.int i
 | .inr x=>.str x
inductive HO where
 | lst (xs : List V)
 | tup (xs : List V)
 | dK (kvs : List (Key × V)) | dT (kvs : List (List Key × V))
 | set (S : Int → Bool) (n : Nat)
 | ins (C dx : Addr) (fs : List (Str × V))
 | own (x : Addr)
 | xd (fs : List (Str × V))
 | met (f x : Addr)
 | rng (lo hi : Int)
 | frz (o : Obj) (u : HO)
 | tbl (ps : Array Value)
 | ext (φ : Heap → Prop)
noncomputable abbrev Hp:=Addr → Option HO
noncomputable def upd (H : Hp) (a : Addr) (o : HO) : Hp:=fun b=>if b = a then some o else H b
theorem Jb {H : Hp} {a : Addr} {o : HO} : upd H a o a = some o:=by unfold upd; rw [if_pos rfl]
theorem Jc {H : Hp} {a b : Addr} {o : HO} (h : b ≠ a) : upd H a o b = H b:=by unfold upd; rw [if_neg h]
theorem Jap {H : Hp} {a b : Addr} {o u : HO} (h : H a = some o) (h' : H b = some u) (d : o ≠ u) : a ≠ b:=by
 intro e; subst e; rw [h] at h'; exact d (Option.some.inj h')
theorem Ja {H : Hp} {a b : Addr} {o : HO} (h : H a = some o) (h' : H b = none) : a ≠ b:=by
 intro e; subst e; rw [h] at h'; cases h'
section
variable (P : Program) (w : World)
noncomputable def J1k (H : Hp) (h : Heap) (a : Addr) : HO → Prop
 | .lst xs=>xs.length ≤ sizeLine ∧ ∃ (its : List Value) (n : Nat),Vals xs its ∧ h.get? a = some { cls:=.type "list",data:=.seq its.toArray n }
 | .tup xs=>xs.length ≤ sizeLine ∧ ∃ its : List Value,Vals xs its ∧ IsTup h a its.toArray
 | .dK kvs=>kvs.length ≤ sizeLine ∧ (a == sysModules) = false ∧ ∃ vs,KV kvs vs ∧ h.DictOf (J6D P w) a vs
 | .dT kvs=>kvs.length ≤ sizeLine ∧ (a == sysModules) = false ∧ ∃ xs : List (List Key × Addr × Value),
   Paired (fun (p : List Key × V) (q : List Key × Addr × Value)=>p.1 = q.1 ∧ H q.2.1 = some (.tup (p.1.map kV)) ∧ RelV p.2 q.2.2) kvs xs ∧
   ∃ o es ep,h.get? a = some o ∧ o.ExactDict ∧ o.data = .dict es ep ∧ es.toList = xs.map (entryOfKey (tupleKind (J6D P w))) ∧ (xs.map (·.1)).Nodup
 | .set S n=>h.SetOf (intKind P w) a S n
 | .ins C dx fs=>H dx = some (.own a) ∧ fs.length ≤ 1000 ∧ dx ≠ a ∧ h.get? a = some (PySem.W.instObj C dx) ∧
   ∃ mA,h.Ns1 dx mA ∧ (∀ f,RelO (fs.lookup f) (mA f)) ∧ PySem.Within mA (fs.map (·.1))
 | .own _=>∃ o,h.get? a = some o
 | .xd fs=>∃ mA,h.Ns1 a mA ∧ ∀ f,RelO (fs.lookup f) (mA f)
 | .rng lo hi=>∃ t u v,h.get? a = some { cls:=.type "range",data:=.fields #[.int lo t,.int hi u,.int 1 v] }
 | .frz o u=>h.get? a = some o ∧ J1k H h a u
 | .tbl ps=>h.get? a = some { cls:=.none,data:=.fields ps }
 | .met f x=>h.get? a = some (PySem.W.methodObj (.ref f) (.ref x))
 | .ext φ=>φ h ∧ (∃ o,h.get? a = some o) ∧ ∀ h1 h2 : Heap,φ h1 → (∀ o,h1.get? a = some o → h2.get? a = some o) → φ h2
noncomputable def HOk (H : Hp) (h : Heap) : Prop:=∀ a o,H a = some o → J1k P w H h a o
end
section
variable {P : Program} {w : World} {H H' : Hp} {h h' : Heap} {a : Addr} {o : HO}
theorem J1k.lt (x : J1k P w H h a o) : a < h.objs.size:=by
 cases o with
 | lst xs=>obtain ⟨_,_,_,_,e⟩:=x; exact Heap.lt_size e
 | tup xs=>obtain ⟨_,_,_,p⟩:=x; exact p.lt
 | dK kvs=>obtain ⟨_,_,_,_,o,_,_,e,_⟩:=x; exact Heap.lt_size e
 | dT kvs=>obtain ⟨_,_,_,_,o,_,_,e,_⟩:=x; exact Heap.lt_size e
 | set S n=>obtain ⟨o,_,_,_,e,_⟩:=x; exact Heap.lt_size e
 | ins C dx fs=>obtain ⟨_,_,_,e,_⟩:=x; exact Heap.lt_size e
 | own y=>obtain ⟨_,e⟩:=x; exact Heap.lt_size e
 | xd fs=>obtain ⟨_,⟨_,_,_,e,_⟩,_⟩:=x; exact Heap.lt_size e
 | rng lo hi=>obtain ⟨_,_,_,e⟩:=x; exact Heap.lt_size e
 | frz ob u=>obtain ⟨e,_⟩:=x; exact Heap.lt_size e
 | tbl ps=>exact Heap.lt_size (show h.get? a = some _ from x)
 | met f y=>exact Heap.lt_size (show h.get? a = some _ from x)
 | ext φ=>obtain ⟨_,⟨_,e⟩,_⟩:=x; exact Heap.lt_size e
theorem Paired.mapP {α β : Type} {F G : α → β → Prop} : ∀ {l₁ : List α} {l₂ : List β},Paired F l₁ l₂ → (∀ a b,F a b → G a b) → Paired G l₁ l₂
 | _,_,.nil,_=>.nil
 | _,_,.cons r t,f=>.cons (f _ _ r) (Paired.mapP t f)
theorem J1k.stay (x : J1k P w H h a o) (k : ∀ b u,(b = a ∨ H b = some (.own a)) → h.get? b = some u → h'.get? b = some u)
  (ho : ∀ b,H b = some (.own a) → H' b = some (.own a)) (ht : ∀ b xs,H b = some (.tup xs) → H' b = some (.tup xs)) : J1k P w H' h' a o:=by
 induction o with
 | lst xs=>obtain ⟨z,its,n,r,e⟩:=x; exact ⟨z,its,n,r,k _ _ (.inl rfl) e⟩
 | tup xs=>obtain ⟨z,its,r,ob,e,c⟩:=x; exact ⟨z,its,r,ob,k _ _ (.inl rfl) e,c⟩
 | dK kvs=>obtain ⟨z,y,vs,r,ob,es,ep,e,c⟩:=x; exact ⟨z,y,vs,r,ob,es,ep,k _ _ (.inl rfl) e,c⟩
 | dT kvs =>
  obtain ⟨z,y,xs,r,ob,es,ep,e,c⟩:=x
  exact ⟨z,y,xs,Paired.mapP r fun p q z=>⟨z.1,ht _ _ z.2.1,z.2.2⟩,ob,es,ep,k _ _ (.inl rfl) e,c⟩
 | set S n=>obtain ⟨ob,es,ep,t,e,c⟩:=x; exact ⟨ob,es,ep,t,k _ _ (.inl rfl) e,c⟩
 | ins C dx fs =>
  obtain ⟨d,z,ne,e,mA,⟨od,es,ep,e2,c⟩,r⟩:=x
  exact ⟨ho _ d,z,ne,k _ _ (.inl rfl) e,mA,⟨od,es,ep,k _ _ (.inr d) e2,c⟩,r⟩
 | own y=>obtain ⟨ob,e⟩:=x; exact ⟨ob,k _ _ (.inl rfl) e⟩
 | xd fs=>obtain ⟨mA,⟨od,es,ep,e,c⟩,r⟩:=x; exact ⟨mA,⟨od,es,ep,k _ _ (.inl rfl) e,c⟩,r⟩
 | rng lo hi=>obtain ⟨t,u,v,e⟩:=x; exact ⟨t,u,v,k _ _ (.inl rfl) e⟩
 | frz ob u ih=>obtain ⟨e,q⟩:=x; exact ⟨k _ _ (.inl rfl) e,ih q⟩
 | tbl ps =>
  have e : h.get? a = some { cls:=.none,data:=.fields ps }:=x
  show h'.get? a = some { cls:=.none,data:=.fields ps }
  exact k a _ (.inl rfl) e
 | met f y =>
  have e : h.get? a = some (PySem.W.methodObj (.ref f) (.ref y)):=x
  show h'.get? a = some (PySem.W.methodObj (.ref f) (.ref y))
  exact k a _ (.inl rfl) e
 | ext φ=>obtain ⟨p,⟨o,e⟩,st⟩:=x; exact ⟨st _ _ p fun o q=>k _ _ (.inl rfl) q,⟨o,k _ _ (.inl rfl) e⟩,st⟩
theorem HOk.lt (x : HOk P w H h) (e : H a = some o) : a < h.objs.size:=(x a o e).lt
theorem HOk.fresh (x : HOk P w H h) (e : h.objs.size ≤ a) : H a = none:=by
 cases q : H a with
 | none=>rfl
 | some u=>exact absurd (Nat.lt_of_lt_of_le (x.lt q) e) (Nat.lt_irrefl _)
theorem HOk.kept (x : HOk P w H h) (k : ∀ b u,h.get? b = some u → h'.get? b = some u) : HOk P w H h':=fun a o e =>
 (x a o e).stay (fun b u _ q=>k b u q) (fun _ q=>q) fun _ _ q=>q
theorem HOk.laid (x : HOk P w H h) (k : ∀ b u,h.get? b = some u → h'.get? b = some u) (hp : h.objs.size ≤ a) (new : J1k P w (upd H a o) h' a o) : HOk P w (upd H a o) h':=fun b u e=>by
 have hn:=x.fresh hp
 by_cases hb : b = a
 ·subst hb; rw [Jb] at e; cases e; exact new
 ·rw [Jc hb] at e
  exact (x b u e).stay (fun c v _ q=>k c v q) (fun c q=>by rw [Jc (Ja q hn)]; exact q) fun c xs q=>by rw [Jc (Ja q hn)]; exact q
end
noncomputable def Rd (H : Hp) (a : Addr) (u : HO) : Prop:=H a = some u ∨ ∃ o,H a = some (.frz o u)
theorem Rd.ok {P : Program} {w : World} {H : Hp} {h : Heap} {a : Addr} {u : HO} (r : Rd H a u) (x : HOk P w H h) : J1k P w H h a u:=by
 rcases r with r | ⟨o,r⟩
 ·exact x a u r
 ·obtain ⟨_,q⟩:=x a _ r
  exact q
noncomputable def Mut : Option HO → Prop
 | some (.lst _)=>True
 | some (.dK _)=>True
 | some (.dT _)=>True
 | some (.set _ _)=>True
 | some (.ins _ _ _)=>True
 | some (.ext _)=>True
 | _=>False
section
variable {P : Program} {w : World} {H : Hp} {h h' : Heap} {x e : Addr} {o' : HO}
theorem HOk.write (ok : HOk P w H h) (mu : Mut (H x)) (he : e = x ∨ H e = some (.own x)) (k : ∀ b u,b ≠ e → h.get? b = some u → h'.get? b = some u) (heo : ∃ u,h'.get? e = some u)
  (new : J1k P w (upd H x o') h' x o') : HOk P w (upd H x o') h':=fun b u q=>by
 have nown : ∀ c y,H c = some (.own y) → c ≠ x:=fun c y r z=>by subst z; rw [r] at mu; exact mu
 have ntup : ∀ c xs,H c = some (.tup xs) → c ≠ x:=fun c xs r z=>by subst z; rw [r] at mu; exact mu
 by_cases hb : b = x
 ·subst hb; rw [Jb] at q; cases q; exact new
 ·rw [Jc hb] at q
  by_cases hbe : b = e
  ·have q' : H b = some (.own x):=by
    rcases he with z | z
    ·exact absurd (hbe.trans z) hb
    ·rw [hbe]; exact z
   rw [q] at q'; cases q'
   obtain ⟨v,hv⟩:=heo
   exact ⟨v,by rw [hbe]; exact hv⟩
  ·refine (ok b u q).stay (fun c v hc r=>k c v ?_ r) (fun c r=>by rw [Jc (nown c b r)]; exact r) fun c xs r=>by rw [Jc (ntup c xs r)]; exact r
   rcases hc with rfl | hc
   ·exact hbe
   ·rintro rfl
    rcases he with z | z
    ·exact nown c b hc z
    ·rw [hc] at z; cases z; exact hb rfl
end
structure Un (fs ex : List Addr) (H H' : Hp) (h h' : Heap) : Prop where
 keep : ∀ b o,h.get? b = some o → H b = none → b ∉ fs → b ∉ ex → h'.get? b = some o
 slot : ∀ b o,h.get? b = some o → H b = none → b ∈ fs → b ∉ ex → ∃ sl,h'.get? b = some { o with slots:=sl }
 free : ∀ b o,h.get? b = some o → H b = none → b ∉ ex → H' b = none
 there : ∀ b o,h.get? b = some o → b ∉ ex → ∃ o',h'.get? b = some o'
 tups : ∀ b xs,H b = some (.tup xs) → H' b = some (.tup xs)
 frzs : ∀ b o u,H b = some (.frz o u) → H' b = some (.frz o u)
 tbls : ∀ b ps,H b = some (.tbl ps) → ∃ more,H' b = some (.tbl (ps ++ more))
section
variable {fs fs' ex ex' : List Addr} {H H1 H2 : Hp} {h h1 h2 h' : Heap} {a x e : Addr} {o : HO}
theorem Un.any (u : Un fs ex H H1 h h1) {b : Addr} {ob : Obj} (q : h.get? b = some ob) (n : H b = none) (hx : b ∉ ex) : ∃ sl,h1.get? b = some { ob with slots:=sl }:=by
 by_cases hb : b ∈ fs
 ·exact u.slot b ob q n hb hx
 ·exact ⟨ob.slots,u.keep b ob q n hb hx⟩
theorem Un.kept (k : ∀ b u,h.get? b = some u → h'.get? b = some u) : Un fs ex H H h h' :=
 ⟨fun b ob q _ _ _=>k b ob q,fun b ob q _ _ _=>⟨ob.slots,k b ob q⟩,fun _ _ _ n _=>n,fun b ob q _=>⟨ob,k b ob q⟩,fun _ _ q=>q,fun _ _ _ q=>q,fun _ ps q=>⟨#[],by rw [q]; simp⟩⟩
theorem Un.refl : Un fs ex H H h h:=Un.kept fun _ _ q=>q
theorem Un.laid (k : ∀ b u,h.get? b = some u → h'.get? b = some u) (hp : h.objs.size ≤ a) (hn : H a = none) : Un fs ex H (upd H a o) h h' where
 keep:=fun b u q _ _ _=>k b u q
 slot:=fun b u q _ _ _=>⟨u.slots,k b u q⟩
 free:=fun b u q n _=>by rw [Jc (Nat.ne_of_lt (Nat.lt_of_lt_of_le (Heap.lt_size q) hp))]; exact n
 there:=fun b u q _=>⟨u,k b u q⟩
 tups:=fun b xs q=>by rw [Jc (Ja q hn)]; exact q
 frzs:=fun b u xs q=>by rw [Jc (Ja q hn)]; exact q
 tbls:=fun b ps q=>⟨#[],by rw [Jc (Ja q hn),q]; simp⟩
theorem Un.write (mu : Mut (H x)) (he : e = x ∨ H e = some (.own x)) (k : ∀ b u,b ≠ e → h.get? b = some u → h'.get? b = some u) (heo : ∃ u,h'.get? e = some u) : Un fs ex H (upd H x o) h h':=by
 have hx : ∀ b,H b = none → b ≠ x:=fun b n z=>by subst z; rw [n] at mu; exact mu
 have hb : ∀ b,H b = none → b ≠ e:=fun b n z=>by
  subst z
  rcases he with r | r
  ·exact hx b n r
  ·rw [n] at r; cases r
 have hm : ∀ b u,H b = some u → ¬ Mut (some u) → b ≠ x:=fun b u q nm z=>by subst z; rw [q] at mu; exact nm mu
 refine ⟨fun b u q n _ _=>k b u (hb b n) q,fun b u q n _ _=>⟨u.slots,k b u (hb b n) q⟩,fun b u q n _=>by rw [Jc (hx b n)]; exact n,fun b u q _=>?_,
  fun b xs q=>by rw [Jc (hm b _ q fun z=>z)]; exact q,fun b u xs q=>by rw [Jc (hm b _ q fun z=>z)]; exact q,fun b ps q=>⟨#[],by rw [Jc (hm b _ q fun z=>z),q]; simp⟩⟩
 by_cases hbe : b = e
 ·subst hbe; exact heo
 ·exact ⟨u,k b u hbe q⟩
end
noncomputable def trk (h : Heap) (H : Hp) : List Addr:=(List.range h.objs.size).filter fun a=>(H a).isSome
noncomputable def hidT (h : Heap) (H : Hp) : Heap:=PySem.W.hideAll h (trk h H)
theorem J78 (h : Heap) (H : Hp) : (hidT h H).objs.size = h.objs.size:=PySem.W.hideAll_size _ _
theorem J7R {h : Heap} {H : Hp} {b : Addr} {o : Obj} (e : h.get? b = some o) (n : H b = none) : (hidT h H).get? b = some o :=
 PySem.W.hideAll_get _ e fun hm=>by
  have q : (H b).isSome = true:=(List.mem_filter.mp hm).2
  rw [n] at q; simp at q
theorem J8O {h : Heap} {H : Hp} {b : Addr} {o : Obj} (e : (hidT h H).get? b = some o) : h.get? b = some o ∧ H b = none:=by
 have e' : h.get? b = some o:=PySem.W.of_hideAll (trk h H) e
 refine ⟨e',?_⟩
 cases q : H b with
 | none=>rfl
 | some x =>
  have hm : b ∈ trk h H:=List.mem_filter.mpr ⟨List.mem_range.mpr (Heap.lt_size e'),by simp [q]⟩
  have z : (hidT h H).get? b = none:=PySem.W.hideAll_none (trk h H) hm
  rw [z] at e; cases e
end L2
namespace L2
open PySem PySem.Spec PyProof.Rows
structure Mod (K : PySem.W.Frag) (mg : Str → Option Value) (base : Heap) : Prop where
 kin : K.In base
 glob : base.Ns mainGlobals mg
 blt : ∃ mb,base.Ns builtinsNs mb ∧ ∀ x : Str,x ≠ "__name__" → mb x = bootBuiltins x
 nolimit : base.NoLimit
structure Cx where
 prog : Program
 w : World
 K : PySem.W.Frag
 mg : Str → Option Value
 base : Heap
 A : Around
 N : List Str
 s₀ : Shared
 H₀ : Hp
 env : Env
 outer : List Env
 stack : List Env
 ex : List Addr
 fn : Str → Bool
 calm : Bool
 pn : List (Addr × Obj)
 xe : Value → Shared → Prop
noncomputable def frs (l : List Env) : List Addr:=l.filterMap (·.frame)
noncomputable abbrev Cx.fs (X : Cx) : List Addr:=frs X.outer
noncomputable def Vis (sc : Scope) (x : Str) : Prop:=sc.names.lookup x = some .local ∨ sc.names.lookup x = some .cell ∨ sc.names.lookup x = some .free
noncomputable def Loc (sc : Scope) (x : Str) : Prop:=sc.names.lookup x = some .local ∨ sc.names.lookup x = some .cell
noncomputable def Look (env : Env) (h : Heap) (m : Str → Option Value) (x : Str) (u : Value) : Prop :=
 (env.kindOf x = some .local ∧ m x = some u) ∨ ((env.kindOf x = some .cell ∨ env.kindOf x = some .free) ∧ ∃ c,env.cells.lookup x = some c ∧ h.IsCell c (some u))
structure Cx.Ok (X : Cx) : Prop where
 mod : Mod X.K X.mg X.base
 kind : X.env.scope.kind = .function
 glob : X.env.globals = mainGlobals
 blt : X.env.builtins = builtinsNs
 above : X.s₀.heap.objs.size ≤ X.env.locals
 inj : ∀ x y c,X.env.cells.lookup x = some c → X.env.cells.lookup y = some c → x = y
 has : ∀ x,(X.env.kindOf x = some .cell ∨ X.env.kindOf x = some .free) → ∃ c,X.env.cells.lookup x = some c
 cab : ∀ x c,X.fn x = true → X.env.cells.lookup x = some c → X.s₀.heap.objs.size ≤ c
 hd : X.calm = true → X.A.handled = none
 frames : X.A.frames = some X.stack
 stk : X.stack = X.outer ∨ (X.stack = X.env :: X.outer ∧ X.env.frame = some X.env.locals)
 exf : ∀ b ∈ X.ex,b ≠ X.env.locals ∧ ∀ x c,X.env.cells.lookup x = some c → c ≠ b
 bs : ∀ b o,X.base.get? b = some o → X.s₀.heap.get? b = some o ∧ X.H₀ b = none
 bsz : X.base.objs.size ≤ X.s₀.heap.objs.size
 noex : ∀ b o,X.base.get? b = some o → b ∉ X.ex
 exfs : ∀ b ∈ X.ex,b ∉ X.fs
 funs : X.s₀.heap.FunFrames X.base X.outer
 frf : ∀ b ∈ X.fs,X.H₀ b = none
structure Inv (X : Cx) (pins : List (Addr × Obj)) (σ : List (Option V)) (H : Hp) (s : Shared) : Prop where
 ok : X.Ok
 os : s.os = X.s₀.os
 bare : AllBare s.gens
 base : Un X.fs X.ex X.H₀ H X.s₀.heap s.heap
 loc : ∃ m,s.heap.Ns X.env.locals m ∧ ∀ (i : Nat) (x : Str) (v : V),X.N[i]? = some x → σ[i]? = some (some v) → Vis X.env.scope x → ∃ u,RelV v u ∧ Look X.env s.heap m x u
 cell : ∀ x c,X.env.cells.lookup x = some c → ∃ v,s.heap.IsCell c v
 free : H X.env.locals = none
 freeC : ∀ x c,X.env.cells.lookup x = some c → H c = none
 pin : ∀ p ∈ X.pn ++ pins,s.heap.get? p.1 = some p.2 ∧ H p.1 = none ∧ p.1 ≠ X.env.locals ∧ p.1 ∉ X.fs ∧ ∀ v,p.2.data ≠ .cell v
 hok : HOk X.prog X.w H s.heap
 len : σ.length = X.N.length
section
variable {X : Cx} {pins : List (Addr × Obj)} {σ : List (Option V)} {H H' : Hp} {s : Shared} {h' : Heap}
theorem Cx.Ok.nofr (ok : X.Ok) {b : Addr} {o : Obj} (e : X.base.get? b = some o) : b ∉ X.fs:=fun hb=>by
 have:=(ok.funs.mem hb).1
 rw [e] at this; cases this
theorem Inv.bs (I : Inv X pins σ H s) : ∀ b o,X.base.get? b = some o → s.heap.get? b = some o ∧ H b = none:=fun b o e =>
 ⟨I.base.keep b o (I.ok.bs b o e).1 (I.ok.bs b o e).2 (I.ok.nofr e) (I.ok.noex b o e),I.base.free b o (I.ok.bs b o e).1 (I.ok.bs b o e).2 (I.ok.noex b o e)⟩
theorem Inv.bk (I : Inv X pins σ H s) : ∀ b o,X.base.get? b = some o → s.heap.get? b = some o:=fun b o e=>(I.bs b o e).1
theorem Inv.mod (I : Inv X pins σ H s) : Mod X.K X.mg X.base:=I.ok.mod
theorem Inv.kIn (I : Inv X pins σ H s) : X.K.In s.heap:=I.ok.mod.kin.keeps I.bk
theorem Inv.lt (I : Inv X pins σ H s) : X.env.locals < s.heap.objs.size:=let ⟨_,hn,_⟩:=I.loc; hn.lt
theorem Inv.sz (I : Inv X pins σ H s) : X.s₀.heap.objs.size ≤ s.heap.objs.size:=Nat.le_trans I.ok.above (Nat.le_of_lt I.lt)
theorem Inv.nofs (I : Inv X pins σ H s) {a : Addr} (h : s.heap.objs.size ≤ a) : a ∉ X.fs:=fun hb=>by
 obtain ⟨_,o,ho,_⟩:=I.ok.funs.mem hb
 exact absurd (Nat.lt_of_lt_of_le (Heap.lt_size ho) (Nat.le_trans I.sz h)) (Nat.lt_irrefl _)
theorem Inv.cne (I : Inv X pins σ H s) : ∀ x c,X.env.cells.lookup x = some c → c ≠ X.env.locals:=fun x c e z=>by
 obtain ⟨v,o,ho,hd⟩:=I.cell x c e
 obtain ⟨m,⟨o',es,ep,ho',hd',_⟩,_⟩:=I.loc
 rw [z,ho'] at ho; cases ho; rw [hd'] at hd; cases hd
theorem Inv.funs (I : Inv X pins σ H s) : s.heap.FunFrames X.base X.outer:=by
 have all : ∀ (l : List Env),(∀ b ∈ frs l,b ∈ X.fs) → X.s₀.heap.FunFrames X.base l → s.heap.FunFrames X.base l:=by
  intro l
  induction l with
  | nil=>intro _ _; trivial
  | cons env r ih =>
   intro hs hl
   obtain ⟨hk,⟨L,o,hf,hn,ho,hd⟩,hr⟩:=hl
   have hL : L ∈ X.fs:=hs L (by unfold frs; rw [List.filterMap_cons,hf]; exact List.mem_cons_self)
   obtain ⟨sl,e⟩:=I.base.slot L o ho (I.ok.frf L hL) hL fun z=>I.ok.exfs L z hL
   exact ⟨hk,⟨L,_,hf,hn,e,hd⟩,ih (fun b hb=>hs b (by unfold frs; rw [List.filterMap_cons,hf]; exact List.mem_cons_of_mem _ hb)) hr⟩
 exact all X.outer (fun _ hb=>hb) I.ok.funs
theorem Inv.stack (I : Inv X pins σ H s) : s.heap.FunFrames X.base X.stack:=by
 rcases I.ok.stk with e | ⟨e,hf⟩
 ·rw [e]; exact I.funs
 ·rw [e]
  obtain ⟨m,hn,_⟩:=I.loc
  refine .cons (by rw [I.ok.kind]; decide) hf hn ?_ I.funs
  exact Heap.get?_none_of_le (Nat.le_trans I.ok.bsz I.ok.above)
theorem Inv.stkSub (I : Inv X pins σ H s) : ∀ b ∈ frs X.stack,b ∈ X.env.locals :: X.fs:=fun b hb=>by
 rcases I.ok.stk with e | ⟨e,hf⟩
 ·rw [e] at hb; exact List.mem_cons_of_mem _ hb
 ·rw [e] at hb
  unfold frs at hb
  rw [List.filterMap_cons,hf] at hb
  exact hb
theorem Inv.stkFree (I : Inv X pins σ H s) : ∀ b ∈ frs X.stack,H b = none:=fun b hb=>by
 rcases List.mem_cons.mp (I.stkSub b hb) with e | hb
 ·rw [e]; exact I.free
 ·obtain ⟨_,o,ho,_⟩:=I.ok.funs.mem hb
  exact I.base.free b o ho (I.ok.frf b hb) fun z=>I.ok.exfs b z hb
theorem Inv.step {g' : Array GenState} {t' : Nat} {d' : Drawn} {ch : List Addr} (I : Inv X pins σ H s)
  (hch : ∀ b ∈ ch,(b ∈ X.ex ∨ X.s₀.heap.objs.size ≤ b) ∧ b ≠ X.env.locals ∧ (∀ x c,X.env.cells.lookup x = some c → c ≠ b) ∧ ∀ p ∈ X.pn ++ pins,p.1 ≠ b)
  (keep : ∀ b o,b ≠ X.env.locals → b ∉ X.fs → b ∉ ch → s.heap.get? b = some o → H b = none → h'.get? b = some o)
  (slot : ∀ b o,b ≠ X.env.locals → b ∈ X.fs → b ∉ ch → s.heap.get? b = some o → H b = none → ∃ sl,h'.get? b = some { o with slots:=sl }) (free : ∀ b o,b ∉ ch → s.heap.get? b = some o → H b = none → H' b = none)
  (there : ∀ b o,b ∉ ch → s.heap.get? b = some o → ∃ o',h'.get? b = some o')
  (tups : ∀ b xs,H b = some (.tup xs) → H' b = some (.tup xs)) (frzs : ∀ b o u,H b = some (.frz o u) → H' b = some (.frz o u)) (tbls : ∀ b ps,H b = some (.tbl ps) → ∃ more,H' b = some (.tbl (ps ++ more)))
  (ns : ∀ m,s.heap.Ns X.env.locals m → h'.Ns X.env.locals m) (hok : HOk X.prog X.w H' h') (hg : AllBare g') :
  Inv X pins σ H' { s with heap:=h',gens:=g',drawn:=d',toks:=t' }:=by
 have neL : ∀ b o,X.s₀.heap.get? b = some o → b ≠ X.env.locals:=fun b o e=>Nat.ne_of_lt (Nat.lt_of_lt_of_le (Heap.lt_size e) I.ok.above)
 have neC : ∀ b o,X.s₀.heap.get? b = some o → b ∉ X.ex → b ∉ ch:=fun b o e hx hb=>by
  rcases (hch b hb).1 with z | z
  ·exact hx z
  ·exact absurd (Nat.lt_of_lt_of_le (Heap.lt_size e) z) (Nat.lt_irrefl _)
 have cellK : ∀ x c,X.env.cells.lookup x = some c → ∀ v,s.heap.IsCell c v → h'.IsCell c v:=fun x c e v ⟨o,ho,hd⟩=>by
  have nch : c ∉ ch:=fun z=>(hch c z).2.2.1 x c e rfl
  by_cases hc : c ∈ X.fs
  ·obtain ⟨sl,q⟩:=slot c o (I.cne x c e) hc nch ho (I.freeC x c e)
   exact ⟨_,q,hd⟩
  ·exact ⟨o,keep c o (I.cne x c e) hc nch ho (I.freeC x c e),hd⟩
 refine ⟨I.ok,I.os,hg,⟨fun b o e n hb hx=>?_,fun b o e n hb hx=>?_,fun b o e n hx=>?_,fun b o e hx=>?_,fun b xs e=>tups b xs (I.base.tups b xs e),fun b o xs e=>frzs b o xs (I.base.frzs b o xs e),fun b ps e=>?_⟩,?_,fun x c e=>?_,?_,fun x c e=>?_,fun p hp=>?_,hok,I.len⟩
 ·exact keep b o (neL b o e) hb (neC b o e hx) (I.base.keep b o e n hb hx) (I.base.free b o e n hx)
 ·obtain ⟨sl,e1⟩:=I.base.slot b o e n hb hx
  obtain ⟨sl',e2⟩:=slot b _ (neL b o e) hb (neC b o e hx) e1 (I.base.free b o e n hx)
  exact ⟨sl',e2⟩
 ·obtain ⟨o',e1⟩:=I.base.there b o e hx
  exact free b o' (neC b o e hx) e1 (I.base.free b o e n hx)
 ·obtain ⟨o',e1⟩:=I.base.there b o e hx
  exact there b o' (neC b o e hx) e1
 ·obtain ⟨m1,e1⟩:=I.base.tbls b ps e
  obtain ⟨m2,e2⟩:=tbls b _ e1
  exact ⟨m1 ++ m2,by rw [e2,Array.append_assoc]⟩
 ·obtain ⟨m,hn,hl⟩:=I.loc
  refine ⟨m,ns m hn,fun i x v e1 e2 e3=>?_⟩
  obtain ⟨u,r,l⟩:=hl i x v e1 e2 e3
  refine ⟨u,r,?_⟩
  rcases l with l | ⟨k,c,e,z⟩
  ·exact .inl l
  ·exact .inr ⟨k,c,e,cellK x c e _ z⟩
 ·obtain ⟨v,z⟩:=I.cell x c e
  exact ⟨v,cellK x c e v z⟩
 ·obtain ⟨m,⟨o,_,_,ho,_⟩,_⟩:=I.loc
  exact free _ o (fun z=>(hch _ z).2.1 rfl) ho I.free
 ·obtain ⟨v,o,ho,hd⟩:=I.cell x c e
  exact free c o (fun z=>(hch c z).2.2.1 x c e rfl) ho (I.freeC x c e)
 ·obtain ⟨e,n,ne,nf,d⟩:=I.pin p hp
  have nch : p.1 ∉ ch:=fun z=>(hch p.1 z).2.2.2 p hp rfl
  exact ⟨keep p.1 p.2 ne nf nch e n,free p.1 p.2 nch e n,ne,nf,d⟩
theorem Inv.un {t' : Nat} (I : Inv X pins σ H s) (u : Un X.fs [] H H' s.heap h') (hok : HOk X.prog X.w H' h') : Inv X pins σ H' { s with heap:=h',toks:=t' }:=by
 obtain ⟨m,⟨o,es,ep,ho,r⟩,_⟩:=id I.loc
 obtain ⟨sl,hL⟩:=u.any ho I.free (by simp)
 exact I.step (g':=s.gens) (d':=s.drawn) (ch:=[]) (fun _ z=>nomatch z) (fun b o _ hb _ e n=>u.keep b o e n hb (by simp)) (fun b o _ hb _ e n=>u.slot b o e n hb (by simp)) (fun b o _ e n=>u.free b o e n (by simp)) (fun b o _ e=>u.there b o e (by simp)) u.tups u.frzs u.tbls (fun m' hm=>by
  obtain ⟨o',es',ep',ho',r'⟩:=hm
  rw [ho] at ho'; cases ho'
  exact ⟨_,es',ep',hL,r'⟩) hok I.bare
theorem Inv.call {g' : Array GenState} {t' : Nat} {d' : Drawn} {ch : List Addr} (I : Inv X pins σ H s) (u : Un (frs X.stack) ch H H' s.heap h') (hok : HOk X.prog X.w H' h') (hg : AllBare g')
  (hch : ∀ b ∈ ch,(b ∈ X.ex ∨ X.s₀.heap.objs.size ≤ b) ∧ b ≠ X.env.locals ∧ (∀ x c,X.env.cells.lookup x = some c → c ≠ b) ∧ ∀ p ∈ X.pn ++ pins,p.1 ≠ b) :
  Inv X pins σ H' { s with heap:=h',gens:=g',drawn:=d',toks:=t' }:=by
 obtain ⟨m,⟨o,es,ep,ho,r⟩,_⟩:=id I.loc
 obtain ⟨sl,hL⟩:=u.any ho I.free fun z=>(hch _ z).2.1 rfl
 exact I.step (ch:=ch) hch (fun b o hL hb hc e n=>u.keep b o e n (fun z=>(List.mem_cons.mp (I.stkSub b z)).elim hL hb) hc) (fun b o _ _ hc e n=>u.any e n hc) (fun b o hc e n=>u.free b o e n hc) (fun b o hc e=>u.there b o e hc) u.tups u.frzs u.tbls (fun m' hm=>by
  obtain ⟨o',es',ep',ho',r'⟩:=hm
  rw [ho] at ho'; cases ho'
  exact ⟨_,es',ep',hL,r'⟩) hok hg
theorem Inv.turned {t' : Nat} {it : Addr} (I : Inv X pins σ H s) (k : ∀ b o,b ≠ it → s.heap.get? b = some o → h'.get? b = some o) (hn : H it = none) (hL : it ≠ X.env.locals)
  (h1 : it ∈ X.ex ∨ X.s₀.heap.objs.size ≤ it) (h2 : ∀ x c,X.env.cells.lookup x = some c → c ≠ it) (h3 : ∀ p ∈ X.pn ++ pins,p.1 ≠ it) : Inv X pins σ H { s with heap:=h',toks:=t' }:=by
 have nit : ∀ b u,H b = some u → b ≠ it:=fun b u e z=>by rw [z,hn] at e; cases e
 refine I.step (g':=s.gens) (d':=s.drawn) (ch:=[it]) (fun b hb=>?_) (fun b o _ _ hc e _=>k b o (fun z=>hc (by simp [z])) e) (fun b o _ _ hc e _=>⟨o.slots,k b o (fun z=>hc (by simp [z])) e⟩) (fun _ _ _ _ n=>n)
  (fun b o hc e=>⟨o,k b o (fun z=>hc (by simp [z])) e⟩) (fun _ _ e=>e) (fun _ _ _ e=>e) (fun b ps e=>⟨#[],by rw [e]; simp⟩) (fun m hm=>?_) (fun b u e=>?_) I.bare
 ·have e : b = it:=by simpa using hb
  subst e
  exact ⟨h1,hL,h2,h3⟩
 ·obtain ⟨o,es,ep,ho,r⟩:=hm
  exact ⟨o,es,ep,k _ o (Ne.symm hL) ho,r⟩
 ·refine (I.hok b u e).stay (fun c v hc q=>k c v ?_ q) (fun _ q=>q) fun _ _ q=>q
  rcases hc with z | z
  ·rw [z]; exact nit b u e
  ·exact nit c _ z
theorem Inv.tok (I : Inv X pins σ H s) (t : Nat) : Inv X pins σ H { s with toks:=t }:=I.un (h':=s.heap) (t':=t) Un.refl I.hok
theorem Inv.kept {t' : Nat} (I : Inv X pins σ H s) (k : ∀ b u,s.heap.get? b = some u → h'.get? b = some u) : Inv X pins σ H { s with heap:=h',toks:=t' }:=I.un (Un.kept k) (I.hok.kept k)
theorem Inv.laid {a : Addr} {o : HO} {t' : Nat} (I : Inv X pins σ H s) (k : ∀ b u,s.heap.get? b = some u → h'.get? b = some u) (hp : s.heap.objs.size ≤ a) (new : J1k X.prog X.w (upd H a o) h' a o) :
  Inv X pins σ (upd H a o) { s with heap:=h',toks:=t' }:=I.un (Un.laid k hp (I.hok.fresh hp)) (I.hok.laid k hp new)
theorem Inv.write {x e : Addr} {o : HO} {t' : Nat} (I : Inv X pins σ H s) (mu : Mut (H x)) (he : e = x ∨ H e = some (.own x)) (k : ∀ b u,b ≠ e → s.heap.get? b = some u → h'.get? b = some u) (heo : ∃ u,h'.get? e = some u)
  (new : J1k X.prog X.w (upd H x o) h' x o) : Inv X pins σ (upd H x o) { s with heap:=h',toks:=t' }:=I.un (Un.write mu he k heo) (I.hok.write mu he k heo new)
theorem Inv.pins_of {pins' : List (Addr × Obj)} (I : Inv X pins σ H s) (h : ∀ p ∈ pins',s.heap.get? p.1 = some p.2 ∧ H p.1 = none ∧ p.1 ≠ X.env.locals ∧ p.1 ∉ X.fs ∧ ∀ v,p.2.data ≠ .cell v) : Inv X pins' σ H s :=
 ⟨I.ok,I.os,I.bare,I.base,I.loc,I.cell,I.free,I.freeC,fun p hp=>(List.mem_append.mp hp).elim (fun z=>I.pin p (List.mem_append_left _ z)) (h p),I.hok,I.len⟩
theorem J3O {N : List Str} (hN : N.Nodup) {i j : Nat} {x : Str} (a : N[i]? = some x) (b : N[j]? = some x) : i = j:=by
 obtain ⟨h1,e1⟩:=List.getElem?_eq_some_iff.mp a
 obtain ⟨h2,e2⟩:=List.getElem?_eq_some_iff.mp b
 exact (List.getElem_inj hN).mp (e1.trans e2.symm)
theorem J72 {M : Model} {A : Around} {E : Value → Shared → Prop} {i : Nat} {x : Str} {v : V} {u : Value} {Q : Unit → Shared → Prop} (I : Inv X pins σ H s) (hN : X.N.Nodup) (hi : X.N[i]? = some x) (hx : Loc X.env.scope x) (r : RelV v u)
  (h : ∀ s',Inv X pins (σ.set i (some v)) H s' → (∃ a,Heap.SameBut a s.heap s'.heap ∧ (a = X.env.locals ∨ X.env.cells.lookup x = some a)) → Q () s') (hf : X.fn x = true ∨ X.env.scope.names.lookup x = some .local:=by first | exact .inl rfl | exact .inr rfl | assumption) : wpAny M A (storeName X.env x u) Q E s:=by
 obtain ⟨m,hn,hl⟩:=id I.loc
 have hcls : (X.env.scope.kind == .class || (X.env.scope.kind == .module && X.env.locals != X.env.globals)) = false:=by rw [I.ok.kind]; rfl
 have hiσ : i < σ.length:=by rw [I.len]; exact (List.getElem?_eq_some_iff.mp hi).1
 have cne:=I.cne
 have tracked : ∀ {a : Addr} {h' : Heap},(∃ o,s.heap.get? a = some o ∧ H a = none) → Heap.SameBut a s.heap h' → HOk X.prog X.w H h':=fun {a h'} ha hs b ob e=>by
  obtain ⟨_,_,hfree⟩:=ha
  refine (I.hok b ob e).stay (fun c w' hc q=>(hs.2 c ?_).trans q) (fun _ q=>q) fun _ _ q=>q
  rintro rfl
  rcases hc with rfl | hc
  ·rw [hfree] at e; cases e
  ·rw [hfree] at hc; cases hc
 rcases hx with hk | hk
 ·refine wpAny_storeName_local hk hn (fun h' hn' hs=>?_) hcls
  obtain ⟨oL,_,_,hoL,_⟩:=id hn
  refine h _ ⟨I.ok,I.os,I.bare,⟨fun b o e n hb hx=>?_,fun b o e n hb hx=>?_,I.base.free,fun b o e hx=>?_,I.base.tups,I.base.frzs,I.base.tbls⟩,⟨_,hn',fun j y v' e1 e2 e3=>?_⟩,fun y c e=>?_,I.free,I.freeC,fun p hp=>?_,tracked ⟨oL,hoL,I.free⟩ hs,by simpa using I.len⟩ ⟨_,hs,.inl rfl⟩
  ·exact (hs.2 b (Nat.ne_of_lt (Nat.lt_of_lt_of_le (Heap.lt_size e) I.ok.above))).trans (I.base.keep b o e n hb hx)
  ·obtain ⟨sl,e1⟩:=I.base.slot b o e n hb hx
   exact ⟨sl,(hs.2 b (Nat.ne_of_lt (Nat.lt_of_lt_of_le (Heap.lt_size e) I.ok.above))).trans e1⟩
  ·obtain ⟨o',e1⟩:=I.base.there b o e hx
   exact ⟨o',(hs.2 b (Nat.ne_of_lt (Nat.lt_of_lt_of_le (Heap.lt_size e) I.ok.above))).trans e1⟩
  ·by_cases hj : j = i
   ·subst hj
    rw [hi] at e1; cases e1
    rw [List.getElem?_set_self hiσ] at e2
    cases e2
    exact ⟨u,r,.inl ⟨hk,by simp⟩⟩
   ·rw [List.getElem?_set_ne (Ne.symm hj)] at e2
    obtain ⟨u',r',q⟩:=hl j y v' e1 e2 e3
    refine ⟨u',r',?_⟩
    rcases q with ⟨k,e⟩ | ⟨k,c,e,z⟩
    ·refine .inl ⟨k,?_⟩
     have : y ≠ x:=fun e=>hj (J3O hN e1 (e ▸ hi))
     simp [this,e]
    ·exact .inr ⟨k,c,e,z.sameBut hs (cne y c e)⟩
  ·obtain ⟨w',z⟩:=I.cell y c e
   exact ⟨w',z.sameBut hs (cne y c e)⟩
  ·obtain ⟨e,n,ne,nf,d⟩:=I.pin p hp
   exact ⟨(hs.2 p.1 ne).trans e,n,ne,nf,d⟩
 ·have hfn : X.fn x = true:=by
   rcases hf with z | z
   ·exact z
   ·rw [z] at hk; cases hk
  obtain ⟨c,hc⟩:=I.ok.has x (.inl hk)
  obtain ⟨w',z⟩:=I.cell x c hc
  refine wpAny_storeName_cell I.ok.kind hk hc z (fun h' hc' hs=>?_)
  obtain ⟨oc,hoc,hocd⟩:=id z
  refine h { s with heap:=h' } ⟨I.ok,I.os,I.bare,⟨fun b o e n hb hx=>?_,fun b o e n hb hx=>?_,I.base.free,fun b o e hx=>?_,I.base.tups,I.base.frzs,I.base.tbls⟩,⟨m,hn.sameBut hs (Ne.symm (cne x c hc)),fun j y v' e1 e2 e3=>?_⟩,fun y c' e=>?_,I.free,I.freeC,fun p hp=>?_,tracked ⟨oc,hoc,I.freeC x c hc⟩ hs,by simpa using I.len⟩ ⟨c,hs,.inr hc⟩
  ·exact (hs.2 b (Nat.ne_of_lt (Nat.lt_of_lt_of_le (Heap.lt_size e) (I.ok.cab x c hfn hc)))).trans (I.base.keep b o e n hb hx)
  ·obtain ⟨sl,e1⟩:=I.base.slot b o e n hb hx
   exact ⟨sl,(hs.2 b (Nat.ne_of_lt (Nat.lt_of_lt_of_le (Heap.lt_size e) (I.ok.cab x c hfn hc)))).trans e1⟩
  ·obtain ⟨o',e1⟩:=I.base.there b o e hx
   exact ⟨o',(hs.2 b (Nat.ne_of_lt (Nat.lt_of_lt_of_le (Heap.lt_size e) (I.ok.cab x c hfn hc)))).trans e1⟩
  ·by_cases hj : j = i
   ·subst hj
    rw [hi] at e1; cases e1
    rw [List.getElem?_set_self hiσ] at e2
    cases e2
    exact ⟨u,r,.inr ⟨.inl hk,c,hc,hc'⟩⟩
   ·rw [List.getElem?_set_ne (Ne.symm hj)] at e2
    obtain ⟨u',r',q⟩:=hl j y v' e1 e2 e3
    refine ⟨u',r',?_⟩
    rcases q with q | ⟨k,c',e,z'⟩
    ·exact .inl q
    ·refine .inr ⟨k,c',e,z'.sameBut hs ?_⟩
     rintro rfl
     exact hj (J3O hN e1 (I.ok.inj _ _ _ e hc ▸ hi))
  ·by_cases hcc : c' = c
   ·subst hcc; exact ⟨_,hc'⟩
   ·obtain ⟨w2,z2⟩:=I.cell y c' e
    exact ⟨w2,z2.sameBut hs hcc⟩
  ·obtain ⟨e,n,ne,nf,d⟩:=I.pin p hp
   refine ⟨(hs.2 p.1 ?_).trans e,n,ne,nf,d⟩
   intro q
   rw [q,hoc] at e
   have q' : oc = p.2:=Option.some.inj e
   exact d w' (by rw [← q']; exact hocd)
theorem J1Y {M : Model} {A : Around} {E : Value → Shared → Prop} {i : Nat} {x : Str} {v : V} {u : Value} {Q : Unit → Shared → Prop} (I : Inv X pins σ H s) (hN : X.N.Nodup) (hi : X.N[i]? = some x) (hx : Loc X.env.scope x) (r : RelV v u)
  (h : ∀ s',Inv X pins (σ.set i (some v)) H s' → Q () s') (hf : X.fn x = true ∨ X.env.scope.names.lookup x = some .local:=by first | exact .inl rfl | exact .inr rfl | assumption) : wpAny M A (storeName X.env x u) Q E s :=
 J72 I hN hi hx r (fun s' I' _=>h s' I') hf
theorem Inv.call' {s' : Shared} {ch : List Addr} (I : Inv X pins σ H s) (ho : s'.os = s.os) (u : Un (frs X.stack) ch H H' s.heap s'.heap) (hok : HOk X.prog X.w H' s'.heap) (hg : AllBare s'.gens)
  (hch : ∀ b ∈ ch,(b ∈ X.ex ∨ X.s₀.heap.objs.size ≤ b) ∧ b ≠ X.env.locals ∧ (∀ x c,X.env.cells.lookup x = some c → c ≠ b) ∧ ∀ p ∈ X.pn ++ pins,p.1 ≠ b) : Inv X pins σ H' s':=by
 obtain ⟨h',g',d',t',o'⟩:=s'
 have e : o' = s.os:=ho
 subst e
 exact I.call (g':=g') (t':=t') (d':=d') u hok hg hch
end
noncomputable abbrev XK:=Value → Option Addr → Hp → Prop
noncomputable abbrev St:=List (Option V)
noncomputable abbrev VK:=V → Hp → Prop
noncomputable abbrev TE:=St → Hp → VK → Prop
noncomputable abbrev TT:=St → Hp → (Bool → Hp → Prop) → Prop
noncomputable abbrev TA:=St → Hp → (List V → Hp → Prop) → Prop
structure Ends where
 nx : St → Hp → Prop
 rt : VK
 bk : St → Hp → Prop:=fun _ _=>False
 ct : St → Hp → Prop:=fun _ _=>False
noncomputable abbrev TS:=Ends → St → Hp → Prop
noncomputable def EP (X : Cx) (pins : List (Addr × Obj)) (σ : St) (Q : VK) (u : Value) (s' : Shared) : Prop:=∃ v H',Inv X pins σ H' s' ∧ RelV v u ∧ Q v H'
noncomputable def TP (X : Cx) (pins : List (Addr × Obj)) (σ : St) (Q : Bool → Hp → Prop) (b : Bool) (s' : Shared) : Prop:=∃ H',Inv X pins σ H' s' ∧ Q b H'
noncomputable def AP (X : Cx) (pins : List (Addr × Obj)) (σ : St) (Q : List V → Hp → Prop) (us : List Value) (s' : Shared) : Prop:=∃ vs H',Inv X pins σ H' s' ∧ Vals vs us ∧ Q vs H'
noncomputable def SP (X : Cx) (pins : List (Addr × Obj)) (D : Ends) (f : Flow) (s' : Shared) : Prop :=
 match f with
 | .next=>∃ σ' H',Inv X pins σ' H' s' ∧ D.nx σ' H'
 | .brk=>∃ σ' H',Inv X pins σ' H' s' ∧ D.bk σ' H'
 | .cont=>∃ σ' H',Inv X pins σ' H' s' ∧ D.ct σ' H'
 | .ret u=>∃ v σ' H',Inv X pins σ' H' s' ∧ RelV v u ∧ D.rt v H'
noncomputable def PE (X : Cx) (e : Expr) (t : TE) : Prop :=
 ∀ (pins : List (Addr × Obj)) (s : Shared) (σ : St) (H : Hp) (Q : VK),Inv X pins σ H s → t σ H Q → wpAny (model X.prog X.w) X.A (eval e X.env) (EP X pins σ Q) X.xe s
noncomputable def PT (X : Cx) (e : Expr) (t : TT) : Prop :=
 ∀ (pins : List (Addr × Obj)) (s : Shared) (σ : St) (H : Hp) (Q : Bool → Hp → Prop),Inv X pins σ H s → t σ H Q → wpAny (model X.prog X.w) X.A (isTrue e X.env (eval e X.env)) (TP X pins σ Q) X.xe s
noncomputable def PW (X : Cx) (e : Expr) (t : TT) : Prop :=
 ∀ (whole : Sem Value) (pins : List (Addr × Obj)) (s : Shared) (σ : St) (H : Hp) (Q : Bool → Hp → Prop),Inv X pins σ H s → t σ H Q → wpAny (model X.prog X.w) X.A (isTrue e X.env whole) (TP X pins σ Q) X.xe s
theorem PW.pt {X : Cx} {e : Expr} {t : TT} (h : PW X e t) : PT X e t:=h _
noncomputable def PA (X : Cx) (es : List Expr) (t : TA) : Prop :=
 ∀ (pos : Pos) (pins : List (Addr × Obj)) (s : Shared) (σ : St) (H : Hp) (Q : List V → Hp → Prop),Inv X pins σ H s → t σ H Q → wpAny (model X.prog X.w) X.A (spliced (backTo pos (starEach es X.env))) (AP X pins σ Q) X.xe s
noncomputable def PS (X : Cx) (st : Stmt) (t : TS) : Prop :=
 ∀ (pins : List (Addr × Obj)) (s : Shared) (σ : St) (H : Hp) (D : Ends),Inv X pins σ H s → t D σ H → wpAny (model X.prog X.w) X.A (exec st X.env) (SP X pins D) X.xe s
noncomputable def PSs (X : Cx) (st : List Stmt) (t : TS) : Prop :=
 ∀ (pins : List (Addr × Obj)) (s : Shared) (σ : St) (H : Hp) (D : Ends),Inv X pins σ H s → t D σ H → wpAny (model X.prog X.w) X.A (execs st X.env) (SP X pins D) X.xe s
theorem thn {α : Type} {t : Sem α} {Q Q' : α → Shared → Prop} {M : Model} {A : Around} {E : Value → Shared → Prop} {s : Shared} (h : wpAny M A t Q E s) (hQ : ∀ a s,Q a s → Q' a s) : wpAny M A t Q' E s:=wpAny_mono h hQ fun _ _ x=>x
end L2
namespace L2
open PySem PySem.Spec PyProof.Rows
section
variable {X : Cx}
noncomputable def tVar (i : Nat) : TE:=fun σ H Q=>∃ v,σ[i]? = some (some v) ∧ Q v H
noncomputable def tC (v : V) : TE:=fun _ H Q=>Q v H
theorem J9R {i : Nat} {x : Str} {pos : Pos} (hN : X.N[i]? = some x) (hv : Vis X.env.scope x) (hd : (x == ("__debug__" : Str)) = false:=by decide) (hcd : (x == ("__classdict__" : Str)) = false:=by decide) : PE X (.Name x pos) (tVar i):=by
 intro pins s σ H Q I h
 obtain ⟨v,e,h⟩:=h
 obtain ⟨m,hn,hl⟩:=I.loc
 obtain ⟨u,r,l⟩:=hl i x v hN e hv
 have fin : EP X pins σ Q u s:=⟨v,H,I,r,h⟩
 rcases l with ⟨hk,hm⟩ | ⟨hk,c,hc,hcell⟩
 ·exact wpAny_Name (wpAny_loadName_local I.ok.kind hk hn hm fin) hd
 ·rcases hk with hk | hk
  ·exact wpAny_Name (wpAny_loadName_cell I.ok.kind hk hc hcell fin) hd
  ·exact wpAny_Name (wpAny_loadName_free I.ok.kind hk hc hcell fin hcd) hd
theorem J7 {i j pos} : PE X (.Constant (.int i) j pos) (tC (.int i)):=fun _ _ _ H _ I h=>wpAny_Constant_int ⟨.int i,H,I.tok _,⟨_,rfl⟩,h⟩
theorem J0W {b j pos} : PE X (.Constant (.bool b) j pos) (tC (.bl b)):=fun _ _ _ H _ I h=>Constant_bool ⟨.bl b,H,I,rfl,h⟩
theorem J9X {x j pos} : PE X (.Constant (.str x) j pos) (tC (.str x)):=fun _ _ _ H _ I h=>Calls.Constant_str ⟨.str x,H,I.tok _,⟨_,rfl⟩,h⟩
noncomputable def Gl (X : Cx) (x : Str) : Prop:=X.env.kindOf x = some .globalImplicit
theorem J26 {E : Value → Shared → Prop} {pins : List (Addr × Obj)} {s : Shared} {σ : St} {H : Hp} {x : Str} {u : Value} {pos : Pos} {Q : Value → Shared → Prop} (I : Inv X pins σ H s) (hg : Gl X x) (hm : X.mg x = some u) (h : Q u s)
  (hd : (x == ("__debug__" : Str)) = false:=by decide) : wpAny (model X.prog X.w) X.A (eval (.Name x pos) X.env) Q E s :=
 Calls.Name_function_global I.ok.kind hg (Calls.loadGlobal_global (by rw [I.ok.glob]; exact I.mod.glob.keeps I.bk) hm h) hd
theorem J3X {E : Value → Shared → Prop} {pins : List (Addr × Obj)} {s : Shared} {σ : St} {H : Hp} {x : Str} {u : Value} {pos : Pos} {Q : Value → Shared → Prop} (I : Inv X pins σ H s) (hg : Gl X x) (hm : X.mg x = none) (hv : bootBuiltins x = some u) (h : Q u s)
  (hn : x ≠ "__name__":=by decide) (hd : (x == ("__debug__" : Str)) = false:=by decide) : wpAny (model X.prog X.w) X.A (eval (.Name x pos) X.env) Q E s:=by
 obtain ⟨mb,h1,h2⟩:=I.mod.blt
 exact Calls.Name_function_global I.ok.kind hg (Calls.loadGlobal_builtin (by rw [I.ok.glob]; exact I.mod.glob.keeps I.bk) hm (by rw [I.ok.blt]; exact h1.keeps I.bk) ((h2 x hn).trans hv) h) hd
theorem J4T {x : Str} {v : V} {u : Value} {pos : Pos} (hg : Gl X x) (hm : X.mg x = some u) (r : RelV v u) (hd : (x == ("__debug__" : Str)) = false:=by decide) : PE X (.Name x pos) (tC v) :=
 fun _ _ _ H _ I h=>J26 I hg hm ⟨v,H,I,r,h⟩ hd
theorem J8Q {x : Str} {v : V} {u : Value} {pos : Pos} (hg : Gl X x) (hm : X.mg x = none) (hv : bootBuiltins x = some u) (r : RelV v u) (hn : x ≠ "__name__":=by decide) (hd : (x == ("__debug__" : Str)) = false:=by decide) : PE X (.Name x pos) (tC v) :=
 fun _ _ _ H _ I h=>J3X I hg hm hv ⟨v,H,I,r,h⟩ hn hd
variable {a b : Expr} {ta tb : TE} {pos : Pos}
noncomputable def tB (t : TE) : TT:=fun σ H Q=>t σ H fun x H1=>∃ c,x = .bl c ∧ Q c H1
theorem J1X {e : Expr} {t : TE} (h : PE X e t) (he : ∀ whole,isTrue e X.env whole = (do let v ← whole; standAt e.pos; holding [v] (truthy v)):=by intro _; rfl) : PT X e (tB t):=by
 intro pins s σ H Q I hw
 refine isTrue_plain (thn (h pins s σ H _ I hw) fun v s1 ⟨x,H1,I1,r1,q1⟩=>?_) (he _)
 obtain ⟨d,rfl,q⟩:=q1
 cases r1
 exact wpAny_truthy_bool ⟨H1,I1,q⟩
variable {tA tB' : TT} {rest : List Expr}
noncomputable def tAnd (t u : TT) : TT:=fun σ H Q=>t σ H fun c H1=>if c = true then u σ H1 Q else Q false H1
noncomputable def tOr (t u : TT) : TT:=fun σ H Q=>t σ H fun c H1=>if c = true then Q true H1 else u σ H1 Q
noncomputable def tNot (t : TT) : TT:=fun σ H Q=>t σ H fun c H1=>Q (!c) H1
theorem J1g (ha : PT X a tA) : PW X (.BoolOp .And [a] pos) tA:=by
 intro wh pins s σ H Q I h
 refine isTrue_and (thn (ha pins s σ H Q I h) fun c s1 e=>?_)
 cases c with
 | true=>exact isTrue_and_nil e
 | false=>exact e
theorem J4U (ha : PT X a tA) : PW X (.BoolOp .Or [a] pos) tA:=by
 intro wh pins s σ H Q I h
 refine isTrue_or (thn (ha pins s σ H Q I h) fun c s1 e=>?_)
 cases c with
 | false=>exact isTrue_or_nil e
 | true=>exact e
theorem J1n (ha : PT X a tA) (hb : PW X (.BoolOp .And (b :: rest) pos) tB') : PW X (.BoolOp .And (a :: b :: rest) pos) (tAnd tA tB'):=by
 intro wh pins s σ H Q I h
 refine isTrue_and (thn (ha pins s σ H _ I h) fun c s1 ⟨H1,I1,q1⟩=>?_)
 cases c with
 | true=>exact hb wh pins s1 σ H1 Q I1 q1
 | false=>exact ⟨H1,I1,q1⟩
theorem J6H (ha : PT X a tA) (hb : PW X (.BoolOp .Or (b :: rest) pos) tB') : PW X (.BoolOp .Or (a :: b :: rest) pos) (tOr tA tB'):=by
 intro wh pins s σ H Q I h
 refine isTrue_or (thn (ha pins s σ H _ I h) fun c s1 ⟨H1,I1,q1⟩=>?_)
 cases c with
 | true=>exact ⟨H1,I1,q1⟩
 | false=>exact hb wh pins s1 σ H1 Q I1 q1
theorem J30 (ha : PT X a tA) : PT X (.UnaryOp .Not a pos) (tNot tA):=by
 intro pins s σ H Q I h
 exact isTrue_not (ha pins s σ H (fun c H1=>Q (!c) H1) I h)
noncomputable def Jah (ta tb : TE) : TE:=fun σ H Q=>ta σ H fun x H1=>∃ c,x = .bl c ∧ if c = true then tb σ H1 Q else Q (.bl false) H1
noncomputable def Jam (ta : TE) : TE:=fun σ H Q=>ta σ H fun x H1=>∃ c,x = .bl c ∧ Q (.bl (!c)) H1
theorem J9L {op} {t : TE} (h : PE X a t) : PE X (.BoolOp op [a] pos) t:=fun pins s σ H Q I hw=>BoolOp_one (h pins s σ H Q I hw)
theorem J8c (ha : PE X a ta) (hb : PE X (.BoolOp .And (b :: rest) pos) tb) : PE X (.BoolOp .And (a :: b :: rest) pos) (Jah ta tb):=by
 intro pins s σ H Q I h
 refine BoolOp_and (thn (ha pins s σ H _ I h) fun v s1 ⟨x,H1,I1,r1,q1⟩=>?_)
 obtain ⟨c,rfl,q1⟩:=q1
 cases r1
 refine wpAny_truthy_bool ?_
 cases c with
 | true=>exact hb pins s1 σ H1 Q I1 q1
 | false=>exact ⟨.bl false,H1,I1,rfl,q1⟩
theorem J9M (ha : PE X a ta) : PE X (.UnaryOp .Not a pos) (Jam ta):=by
 intro pins s σ H Q I h
 refine UnaryOp_ (thn (ha pins s σ H _ I h) fun v s1 ⟨x,H1,I1,r1,q1⟩=>?_)
 obtain ⟨c,rfl,q1⟩:=q1
 cases r1
 exact not_of (wpAny_truthy_bool ⟨.bl (!c),H1,I1,rfl,q1⟩)
noncomputable def tIf (t : TT) (ta tb : TE) : TE:=fun σ H Q=>t σ H fun c H1=>if c = true then ta σ H1 Q else tb σ H1 Q
theorem J8j {c : Expr} (hc : PT X c tA) (ha : PE X a ta) (hb : PE X b tb) : PE X (.IfExp c a b pos) (tIf tA ta tb):=by
 intro pins s σ H Q I h
 refine wpAny_IfExp (thn (hc pins s σ H _ I h) fun d s1 ⟨H1,I1,q1⟩=>?_)
 cases d with
 | true=>exact ha pins s1 σ H1 Q I1 q1
 | false=>exact hb pins s1 σ H1 Q I1 q1
end
end L2
namespace L2
open PySem PySem.Spec PyProof.Rows
noncomputable def SqL (K : PySem.W.Frag) (H : Hp) (a : Addr) (xs : List V) : Prop :=
 Rd H a (.lst xs) ∨
  ∃ (o : Obj) (its : Array Value) (n : Nat),K.lookup a = some o ∧ o.cls = .type "list" ∧ o.dict = none ∧ o.data = .seq its n ∧ its.size ≤ sizeLine ∧ Vals xs its.toList
noncomputable def SqT (K : PySem.W.Frag) (H : Hp) (a : Addr) (xs : List V) : Prop :=
 Rd H a (.tup xs) ∨
  ∃ (o : Obj) (its : Array Value) (n : Nat),K.lookup a = some o ∧ o.cls = .type "tuple" ∧ o.data = .seq its n ∧ its.size ≤ sizeLine ∧ Vals xs its.toList
noncomputable def absV : Value → Option V
 | .none=>some .non
 | .bool b=>some (.bl b)
 | .int i _=>some (.int i)
 | .str x _=>some (.str x)
 | .bytes b _=>some (.byt b)
 | .float b _=>some (.flt b)
 | .ref a=>some (.ref a)
 | .type n=>some (.ty n)
 | _=>none
theorem RelV.abs {x : V} {u : Value} (r : RelV x u) : absV u = some x:=by
 cases x with
 | non=>cases r; rfl
 | bl _=>cases r; rfl
 | int _=>obtain ⟨t,rfl⟩:=r; rfl
 | str _=>obtain ⟨t,rfl⟩:=r; rfl
 | byt _=>obtain ⟨t,rfl⟩:=r; rfl
 | flt _=>obtain ⟨t,rfl⟩:=r; rfl
 | ref _=>cases r; rfl
 | ty _=>cases r; rfl
theorem RelV.inj {x y : V} {u : Value} (r : RelV x u) (q : RelV y u) : x = y:=Option.some.inj (r.abs.symm.trans q.abs)
theorem Vals.inj : ∀ {xs ys : List V} {us : List Value},Vals xs us → Vals ys us → xs = ys
 | _,_,_,.nil,.nil=>rfl
 | _,_,_,.cons r t,.cons r' t'=>by rw [r.inj r',Vals.inj t t']
section
variable {X : Cx} {pins : List (Addr × Obj)} {σ : St} {H : Hp} {s : Shared} {a : Addr} {xs ys : List V}
theorem SqL.of {K : PySem.W.Frag} (h : H a = some (.lst xs)) : SqL K H a xs:=.inl (.inl h)
theorem SqT.of {K : PySem.W.Frag} (h : H a = some (.tup xs)) : SqT K H a xs:=.inl (.inl h)
theorem Inv.list (I : Inv X pins σ H s) (h : SqL X.K H a xs) : ∃ its : List Value,Vals xs its ∧ PlainL s.heap a its.toArray ∧ xs.length ≤ sizeLine:=by
 rcases h with h | ⟨o,its,n,hk,hc,hd,hs,hz,r⟩
 ·obtain ⟨z,its,n,r,e⟩:=h.ok I.hok
  exact ⟨its,r,⟨_,n,e,rfl,rfl,rfl⟩,z⟩
 ·refine ⟨its.toList,r,⟨o,n,I.kIn a o hk,hc,hd,by simpa using hs⟩,?_⟩
  have e:=r.length
  simp only [Array.length_toList] at e
  omega
theorem Inv.tuple (I : Inv X pins σ H s) (h : SqT X.K H a xs) : ∃ its : List Value,Vals xs its ∧ IsTup s.heap a its.toArray ∧ xs.length ≤ sizeLine:=by
 rcases h with h | ⟨o,its,n,hk,hc,hs,hz,r⟩
 ·obtain ⟨z,its,r,p⟩:=h.ok I.hok
  exact ⟨its,r,p,z⟩
 ·refine ⟨its.toList,r,⟨o,I.kIn a o hk,hc,n,by simpa using hs⟩,?_⟩
  have e:=r.length
  simp only [Array.length_toList] at e
  omega
theorem Inv.list_inj (I : Inv X pins σ H s) (h : SqL X.K H a xs) (h' : SqL X.K H a ys) : xs = ys:=by
 obtain ⟨its,r,⟨o,n,e,_,_,d⟩,_⟩:=I.list h
 obtain ⟨its',r',⟨o',n',e',_,_,d'⟩,_⟩:=I.list h'
 rw [e] at e'; cases e'
 rw [d] at d'
 injection d' with d1 _
 have : its = its':=by simpa using congrArg Array.toList d1
 subst this
 exact r.inj r'
theorem Inv.tuple_inj (I : Inv X pins σ H s) (h : SqT X.K H a xs) (h' : SqT X.K H a ys) : xs = ys:=by
 obtain ⟨its,r,⟨o,e,_,n,d⟩,_⟩:=I.tuple h
 obtain ⟨its',r',⟨o',e',_,n',d'⟩,_⟩:=I.tuple h'
 rw [e] at e'; cases e'
 rw [d] at d'
 injection d' with d1 _
 have : its = its':=by simpa using congrArg Array.toList d1
 subst this
 exact r.inj r'
end
noncomputable abbrev Cx.wish (X : Cx) (E : Value → Shared → Prop) : Cx:={ X with xe:=E }
noncomputable abbrev Cx.nox (X : Cx) : Cx:=X.wish fun _ _=>False
theorem Cx.Ok.wish {X : Cx} (ok : X.Ok) (E : Value → Shared → Prop) : (X.wish E).Ok :=
 ⟨ok.mod,ok.kind,ok.glob,ok.blt,ok.above,ok.inj,ok.has,ok.cab,ok.hd,ok.frames,ok.stk,ok.exf,ok.bs,ok.bsz,ok.noex,ok.exfs,ok.funs,ok.frf⟩
theorem Cx.Ok.unwish {X : Cx} {E : Value → Shared → Prop} (ok : (X.wish E).Ok) : X.Ok :=
 ⟨ok.mod,ok.kind,ok.glob,ok.blt,ok.above,ok.inj,ok.has,ok.cab,ok.hd,ok.frames,ok.stk,ok.exf,ok.bs,ok.bsz,ok.noex,ok.exfs,ok.funs,ok.frf⟩
section
variable {X : Cx} {pins : List (Addr × Obj)} {σ : St} {H : Hp} {s : Shared} {E : Value → Shared → Prop}
theorem Inv.wish (I : Inv X pins σ H s) (E : Value → Shared → Prop) : Inv (X.wish E) pins σ H s:=⟨I.ok.wish E,I.os,I.bare,I.base,I.loc,I.cell,I.free,I.freeC,I.pin,I.hok,I.len⟩
theorem Inv.unwish (I : Inv (X.wish E) pins σ H s) : Inv X pins σ H s:=⟨I.ok.unwish,I.os,I.bare,I.base,I.loc,I.cell,I.free,I.freeC,I.pin,I.hok,I.len⟩
theorem SP.unwish {D : Ends} {f : Flow} {s' : Shared} (h : SP (X.wish E) pins D f s') : SP X pins D f s':=by
 cases f with
 | next=>obtain ⟨σ',H',I,q⟩:=h; exact ⟨σ',H',I.unwish,q⟩
 | brk=>obtain ⟨σ',H',I,q⟩:=h; exact ⟨σ',H',I.unwish,q⟩
 | cont=>obtain ⟨σ',H',I,q⟩:=h; exact ⟨σ',H',I.unwish,q⟩
 | ret u=>obtain ⟨v,σ',H',I,r,q⟩:=h; exact ⟨v,σ',H',I.unwish,r,q⟩
theorem PSs.nox {st : List Stmt} {t : TS} (h : PSs X.nox st t) : PSs X st t:=fun pins s σ H D I hw =>
 wpAny_mono (h pins s σ H D (I.wish _) hw) (fun _ _ q=>q.unwish) fun _ _ z=>False.elim z
end
section
variable {X : Cx} {st : Stmt} {rest : List Stmt} {t u : TS} {e : Expr} {te : TE} {pos : Pos}
noncomputable def Jau : TS:=fun D σ H=>D.nx σ H
noncomputable def tSeq (t u : TS) : TS:=fun D σ H=>t { D with nx:=u D } σ H
theorem Jw : PSs X [] Jau:=fun _ _ σ H _ I h=>wpAny_execs_nil ⟨σ,H,I,h⟩
theorem J2 (h1 : PS X st t) (h2 : PSs X rest u) : PSs X (st :: rest) (tSeq t u):=by
 intro pins s σ H D I h
 refine wpAny_execs_cons (thn (h1 pins s σ H { D with nx:=u D } I h) fun f s1 q=>?_)
 cases f with
 | next =>
  obtain ⟨σ',H',I',q⟩:=q
  exact h2 pins s1 σ' H' D I' q
 | ret v=>exact q
 | brk=>exact q
 | cont=>exact q
theorem J9 (h1 : PS X st t) : PSs X [st] t:=by
 intro pins s σ H D I h
 refine wpAny_execs_cons (thn (h1 pins s σ H D I h) fun f s1 q=>?_)
 cases f with
 | next=>exact wpAny_execs_nil q
 | ret v=>exact q
 | brk=>exact q
 | cont=>exact q
theorem Inv.quiet {pins : List (Addr × Obj)} {σ : St} {H : Hp} {s : Shared} (I : Inv X pins σ H s) : interactive X.env = false:=by simp [interactive,I.ok.kind]
noncomputable def J9l (te : TE) : TS:=fun D σ H=>te σ H fun _ H1=>D.nx σ H1
theorem J3h (he : PE X e te) (hs : swapsWith e none pos.line X.env = pure false:=by rfl) : PS X (.Expr e pos) (J9l te):=by
 intro pins s σ H D I h
 exact wpAny_Expr_any (thn (he pins s σ H _ I h) fun v s1 ⟨x,H1,I1,r1,q1⟩=>⟨σ,H1,I1,q1⟩) I.quiet hs
noncomputable def tRet (te : TE) : TS:=fun D σ H=>te σ H D.rt
theorem Jl (he : PE X e te) : PS X (.Return (some e) pos) (tRet te):=by
 intro pins s σ H D I h
 exact wpAny_Return_some (thn (he pins s σ H _ I h) fun v s1 ⟨x,H1,I1,r1,q1⟩=>⟨x,σ,H1,I1,r1,q1⟩)
noncomputable def tIfS (c : TT) (t u : TS) : TS:=fun D σ H=>c σ H fun b H1=>if b = true then t D σ H1 else u D σ H1
theorem J04 {c : Expr} {a b : List Stmt} {tc : TT} (hc : PT X c tc) (ha : PSs X a t) (hb : PSs X b u) : PS X (.If c a b pos) (tIfS tc t u):=by
 intro pins s σ H D I h
 refine wpAny_If (thn (hc pins s σ H _ I h) fun d s1 ⟨H1,I1,q1⟩=>?_)
 cases d with
 | true=>exact ha pins s1 σ H1 D I1 q1
 | false=>exact hb pins s1 σ H1 D I1 q1
noncomputable def J9F : TS:=fun _ _ _=>False
theorem J8w : PS X st J9F:=fun _ _ _ _ _ _ h=>h.elim
end
noncomputable abbrev TG:=V → St → Hp → (St → Hp → Prop) → Prop
noncomputable abbrev TGs:=List V → St → Hp → (St → Hp → Prop) → Prop
noncomputable def PG (X : Cx) (target : Expr) (t : TG) : Prop :=
 ∀ (pins : List (Addr × Obj)) (s : Shared) (σ : St) (H : Hp) (v : V) (u : Value) (Q : St → Hp → Prop),Inv X pins σ H s → RelV v u → t v σ H Q →
  wpAny (model X.prog X.w) X.A (assign target X.env u) (fun _ s'=>∃ σ' H',Inv X pins σ' H' s' ∧ Q σ' H') X.xe s
noncomputable def PGs (X : Cx) (ts : List Expr) (t : TGs) : Prop :=
 ∀ (pins : List (Addr × Obj)) (s : Shared) (σ : St) (H : Hp) (vs : List V) (us : List Value) (Q : St → Hp → Prop),Inv X pins σ H s → Vals vs us → t vs σ H Q →
  wpAny (model X.prog X.w) X.A (assignInOrder ((assignEach ts X.env).map (·.2)) us) (fun _ s'=>∃ σ' H',Inv X pins σ' H' s' ∧ Q σ' H') X.xe s
noncomputable abbrev TIp:=V → V → Hp → VK → Prop
noncomputable def PIp (X : Cx) (op : Operator) (t : TIp) : Prop :=
 ∀ (pins : List (Addr × Obj)) (s : Shared) (σ : St) (H : Hp) (x y : V) (v u : Value) (Q : VK),Inv X pins σ H s → RelV x v → RelV y u → t x y H Q →
  wpAny (model X.prog X.w) X.A (inplaceOp op v u) (EP X pins σ Q) X.xe s
section
variable {X : Cx} {pos : Pos}
noncomputable def J4m (i : Nat) : TG:=fun v σ H Q=>Q (σ.set i (some v)) H
theorem Jd {i : Nat} {x : Str} (hN : X.N.Nodup) (hi : X.N[i]? = some x) (hx : Loc X.env.scope x) (hf : X.fn x = true ∨ X.env.scope.names.lookup x = some .local:=by first | exact .inl rfl | exact .inr rfl | assumption) : PG X (.Name x pos) (J4m i):=by
 intro pins s σ H v u Q I r h
 exact wpAny_assign_Name (J1Y I hN hi hx r (fun s' I'=>⟨_,H,I',h⟩) hf)
noncomputable def gNil : TGs:=fun vs σ H Q=>vs = [] ∧ Q σ H
noncomputable def Jae (t : TG) (u : TGs) : TGs:=fun vs σ H Q=>∃ v r,vs = v :: r ∧ t v σ H fun σ' H'=>u r σ' H' Q
theorem J1Q : PGs X [] gNil:=by
 intro pins s σ H vs us Q I r h
 obtain ⟨e,h⟩:=h
 subst e
 cases r
 exact assignInOrder_nil ⟨σ,H,I,h⟩
theorem Jo {e : Expr} {es : List Expr} {t : TG} {u : TGs} (h1 : PG X e t) (h2 : PGs X es u)
  (hs : (assignEach (e :: es) X.env).map (·.2) = assign e X.env :: (assignEach es X.env).map (·.2):=by rfl) : PGs X (e :: es) (Jae t u):=by
 intro pins s σ H vs us Q I r h
 obtain ⟨v,vr,e1,h⟩:=h
 subst e1
 cases r with
 | cons r rr =>
  rw [hs]
  refine assignInOrder_cons (thn (h1 pins s σ H _ _ _ I r h) fun _ s1 ⟨σ1,H1,I1,q1⟩=>?_)
  exact h2 pins s1 σ1 H1 _ _ Q I1 rr q1
noncomputable def gTup (K : PySem.W.Frag) (n : Nat) (t : TGs) : TG:=fun v σ H Q=>∃ a xs,v = .ref a ∧ SqT K H a xs ∧ xs.length = n ∧ t xs σ H Q
theorem J2x {es : List Expr} {k : Nat} {t : TGs} {n : Nat} (hc : X.calm = true) (h : PGs X es t)
  (hn : (assignEach es X.env).length = n:=by rfl) (hst : (assignEach es X.env).findIdx? (·.1) = none:=by rfl) : PG X (.Tuple es k pos) (gTup X.K n t):=by
 intro pins s σ H v u Q I r hw
 obtain ⟨a,xs,e1,hq,hl,hw⟩:=hw
 subst e1
 cases r
 obtain ⟨its,rv,ht,hz⟩:=I.tuple hq
 refine assign_Tuple_tuple (I.ok.hd hc) ht (by simp [hn,← hl,rv.length]) hst fun h' hx=>?_
 have I1 : Inv X pins σ H { s with heap:=h' }:=I.kept (t':=s.toks) fun b o e=>hx b o (Nat.ne_of_lt (Heap.lt_size e)) e
 exact h pins _ σ H xs _ Q I1 (by simpa using rv) hw
noncomputable def tAsg (te : TE) (g : TG) : TS:=fun D σ H=>te σ H fun x H1=>g x σ H1 D.nx
theorem J7P {tg e : Expr} {te : TE} {g : TG} (he : PE X e te) (hg : PG X tg g) (hs : swapsWithSole [tg] e pos.line X.env = pure false:=by rfl) (hw : swappedStores [tg] e X.env = pure none:=by rfl)
  (h1 : (assignEach [tg] X.env).map (·.2) = [assign tg X.env]:=by rfl) : PS X (.Assign [tg] e pos) (tAsg te g):=by
 intro pins s σ H D I h
 refine wpAny_Assign_stores (thn (he pins s σ H _ I h) fun v s1 ⟨x,H1,I1,r1,q1⟩=>?_) hs hw
 rw [h1]
 exact thn (hg pins s1 σ H1 x v _ I1 r1 q1) fun _ s2 q=>q
theorem Jj {i : Nat} {x : Str} {e : Expr} {te : TE} {pos' : Pos} (hN : X.N.Nodup) (hi : X.N[i]? = some x) (hx : Loc X.env.scope x) (he : PE X e te) (hs : swapsWith e (some (.Name x pos')) pos.line X.env = pure false:=by rfl) (hf : X.fn x = true ∨ X.env.scope.names.lookup x = some .local:=by first | exact .inl rfl | exact .inr rfl | assumption) :
  PS X (.Assign [.Name x pos'] e pos) (tAsg te (J4m i)):=by
 intro pins s σ H D I h
 refine wpAny_Assign_Name (thn (he pins s σ H _ I h) fun v s1 ⟨y,H1,I1,r1,q1⟩=>?_) hs
 exact J1Y I1 hN hi hx r1 (fun s2 I2=>⟨_,H1,I2,q1⟩) hf
noncomputable def tAug (i : Nat) (te : TE) (ti : TIp) : TS:=fun D σ H=>∃ x,σ[i]? = some (some x) ∧ te σ H fun y H1=>ti x y H1 fun z H2=>D.nx (σ.set i (some z)) H2
theorem J81 {i : Nat} {x : Str} {e : Expr} {te : TE} {op : Operator} {ti : TIp} {pos' : Pos} (hN : X.N.Nodup) (hi : X.N[i]? = some x) (hx : Loc X.env.scope x) (he : PE X e te) (ho : PIp X op ti) (hf : X.fn x = true ∨ X.env.scope.names.lookup x = some .local:=by first | exact .inl rfl | exact .inr rfl | assumption) :
  PS X (.AugAssign (.Name x pos') op e pos) (tAug i te ti):=by
 intro pins s σ H D I h
 obtain ⟨v,e1,h⟩:=h
 obtain ⟨m,hn,hl⟩:=I.loc
 have vis : Vis X.env.scope x:=by rcases hx with k | k; exact .inl k; exact .inr (.inl k)
 obtain ⟨u,r,l⟩:=hl i x v hi e1 vis
 refine wpAny_AugAssign_Name ?_
 have go : wpAny (model X.prog X.w) X.A (eval e X.env) (fun w s₂=>wpAny (model X.prog X.w) X.A (inplaceOp op u w) (fun r s₃=>wpAny (model X.prog X.w) X.A (storeName X.env x r) (fun _=>SP X pins D .next) X.xe s₃) X.xe s₂) X.xe s:=by
  refine thn (he pins s σ H _ I h) fun w s1 ⟨y,H1,I1,r1,q1⟩=>?_
  refine thn (ho pins s1 σ H1 v y u w _ I1 r r1 q1) fun z s2 ⟨zv,H2,I2,r2,q2⟩=>?_
  exact J1Y I2 hN hi hx r2 (fun s3 I3=>⟨_,H2,I3,q2⟩) hf
 rcases l with ⟨hk,hm⟩ | ⟨hk,c,hc,hcell⟩
 ·exact wpAny_loadName_local I.ok.kind hk hn hm go
 ·rcases hk with hk | hk
  ·exact wpAny_loadName_cell I.ok.kind hk hc hcell go
  ·rcases hx with k | k
   ·have : X.env.scope.names.lookup x = some .free:=hk
    rw [k] at this; cases this
   ·have : X.env.scope.names.lookup x = some .free:=hk
    rw [k] at this; cases this
end
section
variable {X : Cx} {pos : Pos}
end
structure It where
 go : Nat → Hp → Prop
 yld : Nat → Hp → V → Hp → Prop
 stop : Nat → Hp → Prop
noncomputable def FpOk (X : Cx) (pins : List (Addr × Obj)) (H : Hp) (b : Addr) : Prop :=
 H b = none ∧ b ≠ X.env.locals ∧ b ∉ X.fs ∧ (b ∈ X.ex ∨ X.s₀.heap.objs.size ≤ b) ∧ (∀ x c,X.env.cells.lookup x = some c → c ≠ b) ∧ ∀ p ∈ X.pn ++ pins,p.1 ≠ b
theorem Inv.fpOk {X : Cx} {pins : List (Addr × Obj)} {σ : St} {H H' : Hp} {s : Shared} {b : Addr} (I : Inv X pins σ H s) (hb : s.heap.objs.size ≤ b) (hn : H' b = none) : FpOk X pins H' b:=by
 refine ⟨hn,Nat.ne_of_gt (Nat.lt_of_lt_of_le I.lt hb),I.nofs hb,.inr (Nat.le_trans I.sz hb),fun x c e z=>?_,fun p hp z=>?_⟩
 ·obtain ⟨v,q⟩:=I.cell x c e
  exact absurd (Nat.lt_of_lt_of_le q.lt (by rw [z]; exact hb)) (Nat.lt_irrefl _)
 ·exact absurd (Nat.lt_of_lt_of_le (Heap.lt_size (I.pin p hp).1) (by rw [z]; exact hb)) (Nat.lt_irrefl _)
structure Turn (P : Program) (w : World) (K : PySem.W.Frag) (tg : Expr) (J : It) (fp : List Addr) (it : Addr) (tn : Nat → Heap → Prop) : Prop where
 mem : it ∈ fp
 obj : ∀ i h,tn i h → ∀ b ∈ fp,∃ o,h.get? b = some o ∧ ∀ v,o.data ≠ .cell v
 keep : ∀ i h h',tn i h → (∀ b ∈ fp,∀ o,h.get? b = some o → h'.get? b = some o) → tn i h'
 item : ∀ (X : Cx),X.prog = P → X.w = w → X.K = K → X.calm = true → ∀ (i : Nat) (pins : List (Addr × Obj)) (s : Shared) (σ : St) (H : Hp) (E : Value → Shared → Prop),Inv X pins σ H s → (∀ b ∈ fp,FpOk X pins H b) → tn i s.heap → J.go i H →
  wpAny (model P w) X.A (pyNext (.ref it)) (fun r s1=>∃ u,r = some u ∧
   wpAny (model P w) X.A (letOwnedTupleGo tg (.ref it) u) (fun _ s2=>∃ x H',Inv X pins σ H' s2 ∧ RelV x u ∧ J.yld i H x H' ∧ tn (i + 1) s2.heap ∧ ∀ b ∈ fp,H' b = none) E s1) E s
 done : ∀ (X : Cx),X.prog = P → X.w = w → X.K = K → X.calm = true → ∀ (i : Nat) (pins : List (Addr × Obj)) (s : Shared) (σ : St) (H : Hp) (E : Value → Shared → Prop),Inv X pins σ H s → (∀ b ∈ fp,FpOk X pins H b) → tn i s.heap → J.stop i H →
  wpAny (model P w) X.A (pyNext (.ref it)) (fun r s1=>r = none ∧ Inv X pins σ H s1) E s
 self : ∀ (A : Around) (i : Nat) (s : Shared) (Q : Value → Shared → Prop) (E : Value → Shared → Prop),tn i s.heap → Q (.ref it) s → wpAny (model P w) A (pyIter (.ref it)) Q E s
noncomputable abbrev TI:=St → Hp → (It → Hp → Prop) → Prop
noncomputable def PIE (X : Cx) (pins : List (Addr × Obj)) (σ : St) (tg : Expr) (R : It → Hp → Prop) (itv : Value) (s2 : Shared) : Prop :=
 ∃ (it : Addr) (fp : List Addr) (tn : Nat → Heap → Prop) (J : It) (H' : Hp),itv = .ref it ∧ Inv X pins σ H' s2 ∧ Turn X.prog X.w X.K tg J fp it tn ∧ tn 0 s2.heap ∧ (∀ b ∈ fp,FpOk X pins H' b) ∧ R J H'
noncomputable def PI (X : Cx) (tg iter : Expr) (wi : TI) : Prop :=
 ∀ (pins : List (Addr × Obj)) (s : Shared) (σ : St) (H : Hp) (R : It → Hp → Prop),Inv X pins σ H s → wi σ H R →
  wpAny (model X.prog X.w) X.A (eval iter X.env) (fun v s1=>wpAny (model X.prog X.w) X.A (pyIter v) (PIE X pins σ tg R) X.xe s1) X.xe s
theorem J8e {M : Model} {A : Around} {E : Value → Shared → Prop} {s : Shared} {tg : Expr} {it : Addr} {u : Value} {o : Obj} {n : String} {vs : Array Value} {Q : Unit → Shared → Prop} (ho : s.heap.get? it = some o) (hc : o.cls = .type n) (hd : o.data = .fields vs)
    (hn : ["enumerate","zip","dict_itemiterator","dict_reverseitemiterator","odict_iterator","itertools.zip_longest","itertools.pairwise"].contains n = false) (hQ : Q () s) : wpAny M A (letOwnedTupleGo tg (.ref it) u) Q E s:=by
  unfold letOwnedTupleGo
  cases tg <;> first
    | exact wpAny_pure hQ
    | (cases u <;> first
        | exact wpAny_pure hQ
        | (refine wpAny_bind (wpAny_load ho ?_)
           rw [hc,hd]
           show wpAny M A (if (["enumerate","zip","dict_itemiterator","dict_reverseitemiterator","odict_iterator","itertools.zip_longest","itertools.pairwise"].contains n && vs[0]? == some (rawInt _)) = true then _ else _) Q E s
           rw [if_neg (by intro h; rw [hn,Bool.false_and] at h; cases h)]
           exact wpAny_pure hQ))
noncomputable def Itl (K : PySem.W.Frag) (a : Addr) : It :=
 ⟨fun i H=>∃ xs x,SqL K H a xs ∧ xs[i]? = some x,fun i H x H'=>H' = H ∧ ∀ xs,SqL K H a xs → xs[i]? = some x,fun i H=>∃ xs,SqL K H a xs ∧ xs.length ≤ i⟩
noncomputable def Itr (lo : Int) (n : Nat) : It:=⟨fun i _=>i < n,fun i H x H'=>H' = H ∧ x = .int (lo + i),fun i _=>n ≤ i⟩
theorem J7a {P : Program} {w : World} {K : PySem.W.Frag} {tg : Expr} (a it : Addr) : Turn P w K tg (Itl K a) [it] it (fun i h=>h.IsListIter it a i) where
 mem:=by simp
 obj:=fun i h st b hb=>by
  have e : b = it:=by simpa using hb
  subst e
  obtain ⟨o,e,c,d⟩:=st
  exact ⟨o,e,fun v z=>by rw [d] at z; cases z⟩
 keep:=fun i h h' st k=>st.at fun o e=>k it (by simp) o e
 item:=by
  intro X hP hw hK hc i pins s σ H E I hf st hg
  subst hP hw hK
  obtain ⟨xs,x,hq,hx⟩:=hg
  obtain ⟨its,rv,p,hz⟩:=I.list hq
  obtain ⟨u,hu,ru⟩:=rv.get hx
  obtain ⟨f0,f1,f2,f3,f4,f5⟩:=hf it (by simp)
  refine wpAny_pyNext_list_item st p.isList (x:=u) (by simpa using hu) fun h' st' sb=>?_
  have I1 : Inv X pins σ H { s with heap:=h' }:=I.turned (t':=s.toks) (fun b o hb e=>(sb.2 b hb).trans e) f0 f1 f3 f4 f5
  obtain ⟨o,e,c,d⟩:=id st'
  exact ⟨u,rfl,J8e (s:={ s with heap:=h' }) e c d (by decide) ⟨x,H,I1,ru,⟨rfl,fun ys hy=>by rw [I.list_inj hy hq]; exact hx⟩,st',fun b hb=>(hf b hb).1⟩⟩
 done:=by
  intro X hP hw hK hc i pins s σ H E I hf st hg
  subst hP hw hK
  obtain ⟨xs,hq,hx⟩:=hg
  obtain ⟨its,rv,p,hz⟩:=I.list hq
  obtain ⟨f0,f1,f2,f3,f4,f5⟩:=hf it (by simp)
  have hl:=rv.length
  exact wpAny_pyNext_list_end (I.ok.hd hc) st p.isList (by simp; omega) fun h' eb=>⟨rfl,I.turned (t':=s.toks) (fun b o hb e=>eb b o hb e) f0 f1 f3 f4 f5⟩
 self:=fun _ _ _ _ _ st h=>wpAny_pyIter_listiter st h
theorem J6k {P : Program} {w : World} {K : PySem.W.Frag} {tg : Expr} (it : Addr) (lo : Int) (n : Nat) : Turn P w K tg (Itr lo n) [it] it (fun i h=>IsRangeIter h it (lo + (i : Nat) * 1) ((n : Int) - (i : Nat)) 1) where
 mem:=by simp
 obj:=fun i h st b hb=>by
  have e : b = it:=by simpa using hb
  subst e
  exact ⟨_,st,fun v z=>by
   have z' : Data.fields _ = Data.cell v:=z
   cases z'⟩
 keep:=fun i h h' st k=>k it (by simp) _ st
 item:=by
  intro X hP hw hK hc i pins s σ H E I hf st hg
  subst hP hw hK
  obtain ⟨f0,f1,f2,f3,f4,f5⟩:=hf it (by simp)
  have W:=Walks.range (prog:=X.prog) (w:=X.w) (I.ok.hd hc) it lo 1 n
  refine W.item i s _ _ hg st fun v h' tk hv st' kk=>?_
  obtain ⟨t,rfl⟩:=hv
  have I1 : Inv X pins σ H { s with heap:=h',toks:=tk }:=I.turned (fun b o hb e=>kk b o (by simpa using hb) e) f0 f1 f3 f4 f5
  refine ⟨_,rfl,J8e (s:={ s with heap:=h',toks:=tk }) (n:="range_iterator") st' rfl rfl (by decide) ⟨.int (lo + i),H,I1,⟨t,?_⟩,⟨rfl,rfl⟩,st',fun b hb=>(hf b hb).1⟩⟩
  rw [Int.mul_one]
 done:=by
  intro X hP hw hK hc i pins s σ H E I hf st hg
  subst hP hw hK
  obtain ⟨f0,f1,f2,f3,f4,f5⟩:=hf it (by simp)
  exact wpAny_pyNext_range_end (I.ok.hd hc) st (by have : n ≤ i:=hg; omega) fun h' eb=>⟨rfl,I.turned (t':=s.toks) (fun b o hb e=>eb b o hb e) f0 f1 f3 f4 f5⟩
 self:=fun _ _ _ _ _ st h=>wpAny_pyIter_rangeiter st h
end L2
namespace L2
open PySem PySem.Spec PyProof.Rows
section
variable {X : Cx} {tg : Expr}
noncomputable def J9e (K : PySem.W.Frag) (tl : TE) : TI:=fun σ H R=>tl σ H fun x H1=>∃ a,x = .ref a ∧ (∃ xs,SqL K H1 a xs) ∧ R (Itl K a) H1
theorem J8X {l : Expr} {tl : TE} (hl : PE X l tl) : PI X tg l (J9e X.K tl):=by
 intro pins s σ H R I h
 refine thn (hl pins s σ H _ I h) fun v s1 ⟨x,H1,I1,r1,q1⟩=>?_
 obtain ⟨a,e,⟨xs,hq⟩,q⟩:=q1
 subst e
 cases r1
 obtain ⟨its,rv,p,hz⟩:=I1.list hq
 refine wpAny_pyIter_list p.isList ?_
 refine ⟨s1.heap.objs.size,[s1.heap.objs.size],_,_,H1,rfl,I1.kept (t':=s1.toks) fun b o e=>Heap.get?_push_of_some _ e,J7a a _,⟨_,Heap.get?_push_size _ rfl,rfl,rfl⟩,fun b hb=>?_,q⟩
 have e : b = s1.heap.objs.size:=by simpa using hb
 subst e
 exact I1.fpOk (Nat.le_refl _) (I1.hok.fresh (Nat.le_refl _))
theorem J7Q {pins : List (Addr × Obj)} {σ : St} {H : Hp} {s : Shared} {R : It → Hp → Prop} {E : Value → Shared → Prop} {lo hi : Int} {t u v : Tok} {tk : Nat} (I : Inv X pins σ H s) (h1 : -(2 ^ 62) ≤ lo) (h2 : lo < 2 ^ 62) (h3 : -(2 ^ 62) ≤ hi) (h4 : hi < 2 ^ 62)
  (q : R (Itr lo (hi - lo).toNat) H) : wpAny (model X.prog X.w) X.A (pyIter (.ref s.heap.objs.size)) (PIE X pins σ tg R) E { s with heap:=s.heap.push { cls:=.type "range",data:=.fields #[.int lo t,.int hi u,.int 1 v] },toks:=tk }:=by
 refine wpAny_pyIter_range (IsRange.new ..) (small_one h1 h2 h3 h4) ?_
 have I1 : Inv X pins σ H { s with heap:=s.heap.push { cls:=.type "range",data:=.fields #[.int lo t,.int hi u,.int 1 v] },toks:=tk }:=I.kept fun b o e=>Heap.get?_push_of_some _ e
 refine ⟨(s.heap.push { cls:=.type "range",data:=.fields #[.int lo t,.int hi u,.int 1 v] }).objs.size,[(s.heap.push { cls:=.type "range",data:=.fields #[.int lo t,.int hi u,.int 1 v] }).objs.size],_,_,H,rfl,
  I1.kept (t':=tk) fun b o e=>Heap.get?_push_of_some _ e,J6k _ lo (hi - lo).toNat,?_,fun b hb=>?_,q⟩
 ·have e1 : lo + ((0 : Nat) : Int) * 1 = lo:=by simp
  have e2 : (((hi - lo).toNat : Nat) : Int) - ((0 : Nat) : Int) = Builtin.Range.rangeSize lo hi 1:=by rw [rangeSize_one]; split <;> omega
  show IsRangeIter _ _ (lo + ((0 : Nat) : Int) * 1) ((((hi - lo).toNat : Nat) : Int) - ((0 : Nat) : Int)) 1
  rw [e1,e2]
  exact Heap.get?_push_size _ rfl
 ·have e : b = (s.heap.push { cls:=.type "range",data:=.fields #[.int lo t,.int hi u,.int 1 v] }).objs.size:=by simpa using hb
  subst e
  exact I1.fpOk (Nat.le_refl _) (I1.hok.fresh (Nat.le_refl _))
noncomputable def Jai (ta : TA) : TI:=fun σ H R=>ta σ H fun vs H1=>∃ j : Int,vs = [.int j] ∧ -(2 ^ 62) ≤ j ∧ j < 2 ^ 62 ∧ R (Itr 0 j.toNat) H1
theorem Jy {a : Expr} {ta : TA} {p pos : Pos} (hg : Gl X "range") (hm : X.mg "range" = none) (ha : PA X [a] ta) (hs : starEach [a] X.env = [(false,eval a X.env)]:=by rfl) : PI X tg (.Call (.Name "range" p) [a] [] pos) (Jai ta):=by
 intro pins s σ H R I h
 refine Call_ (J3X I hg hm boot_range (PyProof.Rows.callWith_type1 (thn (ha pos pins s σ H _ I h) fun us s1 ⟨vs,H1,I1,r1,q1⟩=>?_) hs rfl))
 obtain ⟨j,e,q1,q2,q⟩:=q1
 subst e
 cases r1 with
 | cons r rr =>
  cases rr
  obtain ⟨t,rfl⟩:=r
  exact call_range_1 (J7Q I1 (by omega) (by omega) q1 q2 (by simpa using q))
noncomputable def tFor (wi : TI) (g : TG) (tb : TS) : TS:=fun D σ H=>wi σ H fun J H1=>∃ W : Nat → Nat → St → Hp → Prop,(∃ m,W 0 m σ H1) ∧ ∀ i m σ H,W i m σ H →
 (J.stop i H ∧ D.nx σ H) ∨ (J.go i H ∧ ∃ N : St → Hp → Prop,(∀ σ' H',N σ' H' → ∃ m',m' < m ∧ W (i + 1) m' σ' H') ∧ ∀ x H',J.yld i H x H' → g x σ H' fun σ2 H2=>tb { D with nx:=N,ct:=N,bk:=D.nx } σ2 H2)
noncomputable def J2Y (fp : List Addr) (h : Heap) : List (Addr × Obj):=fp.filterMap fun b=>(h.get? b).map fun o=>(b,o)
theorem J0M {fp : List Addr} {h : Heap} {b : Addr} {o : Obj} (hb : b ∈ fp) (e : h.get? b = some o) : (b,o) ∈ J2Y fp h:=List.mem_filterMap.mpr ⟨b,hb,by rw [e]; rfl⟩
theorem J71 {fp : List Addr} {h : Heap} {p : Addr × Obj} (hp : p ∈ J2Y fp h) : p.1 ∈ fp ∧ h.get? p.1 = some p.2:=by
 obtain ⟨b,hb,e⟩:=List.mem_filterMap.mp hp
 cases q : h.get? b with
 | none=>rw [q] at e; cases e
 | some o =>
  rw [q] at e
  have e' : (b,o) = p:=Option.some.inj e
  subst e'
  exact ⟨hb,q⟩
theorem Inv.pinned {pins : List (Addr × Obj)} {σ : St} {H : Hp} {s : Shared} {fp : List Addr} (I : Inv X pins σ H s) (hf : ∀ b ∈ fp,FpOk X pins H b) (ho : ∀ b ∈ fp,∃ o,s.heap.get? b = some o ∧ ∀ v,o.data ≠ .cell v) : Inv X (pins ++ J2Y fp s.heap) σ H s :=
 I.pins_of fun p hp=>(List.mem_append.mp hp).elim (fun z=>I.pin p (List.mem_append_right _ z)) fun z=>by
  obtain ⟨hb,e⟩:=J71 z
  obtain ⟨f0,f1,f2,_⟩:=hf p.1 hb
  obtain ⟨o,e',d⟩:=ho p.1 hb
  rw [e] at e'; cases e'
  exact ⟨e,f0,f1,f2,d⟩
theorem Inv.unpinned {pins pl : List (Addr × Obj)} {σ : St} {H : Hp} {s : Shared} (I : Inv X (pins ++ pl) σ H s) : Inv X pins σ H s:=I.pins_of fun p hp=>I.pin p (List.mem_append_right _ (List.mem_append_left _ hp))
theorem JQ {iter : Expr} {body : List Stmt} {wi : TI} {g : TG} {tb : TS} {pos : Pos} (hp : PassesOwn (model X.prog X.w) X.A X.env X.xe) (hc : X.calm = true) (hi : PI X tg iter wi) (hg : PG X tg g) (hb : PSs X body tb)
  (hs : ∀ x,foldedSetIterable iter X.env x = pure x:=by intro _; rfl) : PS X (.For tg iter body [] pos) (tFor wi g tb):=by
 intro pins s σ H D I h
 refine wpAny_For (thn (hi pins s σ H _ I h) fun v s1 h1=>thn h1 fun itv s2 h2=>?_) hs
 obtain ⟨it,fp,tn,J,H2,e,I2,T,st2,f2,W,⟨m0,w0⟩,turn⟩:=h2
 subst e
 have stat : ∀ {H' : Hp},(∀ b ∈ fp,H' b = none) → ∀ b ∈ fp,FpOk X pins H' b:=fun hn b hb=>⟨hn b hb,(f2 b hb).2⟩
 refine codeAny_forLoop_any (fun n s'=>∃ i σ' H',Inv X pins σ' H' s' ∧ tn i s'.heap ∧ (∀ b ∈ fp,H' b = none) ∧ W i n σ' H') ?_ m0 ⟨0,σ,H2,I2,st2,fun b hb=>(f2 b hb).1,w0⟩
 rintro n s3 ⟨i,σ3,H3,I3,st3,fr3,w3⟩
 rcases turn i n σ3 H3 w3 with ⟨stop,qn⟩ | ⟨go,N,hN,step⟩
 ·refine wpAny_passesOwn hp (thn (T.done X rfl rfl rfl hc i pins s3 σ3 H3 X.xe I3 (stat fr3) st3 stop) fun r s4 ⟨hr,I4⟩=>?_)
  subst hr
  exact wpAny_execs_nil ⟨σ3,H3,I4,qn⟩
 ·refine wpAny_passesOwn hp (thn (T.item X rfl rfl rfl hc i pins s3 σ3 H3 X.xe I3 (stat fr3) st3 go) fun r s4 ⟨u,hr,h4⟩=>?_)
  subst hr
  refine wpAny_passesOwn hp (thn h4 fun _ s5 ⟨x,H5,I5,r5,y5,st5,fr5⟩=>?_)
  have I5':=I5.pinned (stat fr5) (T.obj _ _ st5)
  refine wpAny_passesOwn hp (thn (hg _ s5 σ3 H5 x u _ I5' r5 (step x H5 y5)) fun _ s6 ⟨σ6,H6,I6,q6⟩=>?_)
  refine wpAny_passesOwn hp (thn (hb _ s6 σ6 H6 _ I6 q6) fun f s7 q7=>?_)
  have again : ∀ {σ7 : St} {H7 : Hp},Inv X (pins ++ J2Y fp s5.heap) σ7 H7 s7 → N σ7 H7 → ∃ m,m < n ∧ ∃ i σ' H',Inv X pins σ' H' s7 ∧ tn i s7.heap ∧ (∀ b ∈ fp,H' b = none) ∧ W i m σ' H':=fun {σ7 H7} I7 n7=>by
   obtain ⟨m',hm,w7⟩:=hN σ7 H7 n7
   refine ⟨m',hm,i + 1,σ7,H7,I7.unpinned,T.keep _ _ _ st5 fun b hb o e=>(I7.pin (b,o) (List.mem_append_right _ (List.mem_append_right _ (J0M hb e)))).1,fun b hb=>?_,w7⟩
   obtain ⟨o,e,d⟩:=T.obj _ _ st5 b hb
   exact (I7.pin (b,o) (List.mem_append_right _ (List.mem_append_right _ (J0M hb e)))).2.1
  cases f with
  | next=>obtain ⟨σ7,H7,I7,n7⟩:=q7; exact again I7 n7
  | cont=>obtain ⟨σ7,H7,I7,n7⟩:=q7; exact again I7 n7
  | brk=>obtain ⟨σ7,H7,I7,q7⟩:=q7; exact ⟨σ7,H7,I7.unpinned,q7⟩
  | ret v=>obtain ⟨x7,σ7,H7,I7,r7,q7⟩:=q7; exact ⟨x7,σ7,H7,I7.unpinned,r7,q7⟩
end
theorem J16 {K : PySem.W.Frag} {a : Addr} {xs : List V} {g : TG} {tb : TS} {D : Ends} {σ : St} {H : Hp} (Pv : Nat → St → Hp → Prop) (h0 : Pv 0 σ H) (hl : ∀ i σ H,i ≤ xs.length → Pv i σ H → SqL K H a xs)
  (hs : ∀ i x σ H,xs[i]? = some x → Pv i σ H → g x σ H fun σ2 H2=>tb { D with nx:=Pv (i + 1),ct:=Pv (i + 1),bk:=D.nx } σ2 H2) (hd : ∀ σ H,Pv xs.length σ H → D.nx σ H) :
  ∃ W : Nat → Nat → St → Hp → Prop,(∃ m,W 0 m σ H) ∧ ∀ i m σ H,W i m σ H →
   ((Itl K a).stop i H ∧ D.nx σ H) ∨ ((Itl K a).go i H ∧ ∃ N : St → Hp → Prop,(∀ σ' H',N σ' H' → ∃ m',m' < m ∧ W (i + 1) m' σ' H') ∧ ∀ x H',(Itl K a).yld i H x H' → g x σ H' fun σ2 H2=>tb { D with nx:=N,ct:=N,bk:=D.nx } σ2 H2):=by
 refine ⟨fun i m σ H=>m = xs.length - i ∧ i ≤ xs.length ∧ Pv i σ H,⟨xs.length,by simp,Nat.zero_le _,h0⟩,?_⟩
 rintro i m σ H ⟨rfl,hi,p⟩
 have q:=hl i σ H hi p
 by_cases hlt : i < xs.length
 ·refine .inr ⟨⟨xs,xs[i],q,by simp [hlt]⟩,Pv (i + 1),fun σ' H' p'=>⟨xs.length - (i + 1),by omega,rfl,hlt,p'⟩,fun x H' y=>?_⟩
  obtain ⟨e,y⟩:=y
  subst e
  exact hs i x σ _ (y xs q) p
 ·have e : i = xs.length:=by omega
  subst e
  exact .inl ⟨⟨xs,q,Nat.le_refl _⟩,hd σ H p⟩
theorem J05 {lo : Int} {n : Nat} {g : TG} {tb : TS} {D : Ends} {σ : St} {H : Hp} (Pv : Nat → St → Hp → Prop) (h0 : Pv 0 σ H)
  (hs : ∀ i σ H,i < n → Pv i σ H → g (.int (lo + i)) σ H fun σ2 H2=>tb { D with nx:=Pv (i + 1),ct:=Pv (i + 1),bk:=D.nx } σ2 H2) (hd : ∀ σ H,Pv n σ H → D.nx σ H) :
  ∃ W : Nat → Nat → St → Hp → Prop,(∃ m,W 0 m σ H) ∧ ∀ i m σ H,W i m σ H →
   ((Itr lo n).stop i H ∧ D.nx σ H) ∨ ((Itr lo n).go i H ∧ ∃ N : St → Hp → Prop,(∀ σ' H',N σ' H' → ∃ m',m' < m ∧ W (i + 1) m' σ' H') ∧ ∀ x H',(Itr lo n).yld i H x H' → g x σ H' fun σ2 H2=>tb { D with nx:=N,ct:=N,bk:=D.nx } σ2 H2):=by
 refine ⟨fun i m σ H=>m = n - i ∧ i ≤ n ∧ Pv i σ H,⟨n,by simp,Nat.zero_le _,h0⟩,?_⟩
 rintro i m σ H ⟨rfl,hi,p⟩
 by_cases hlt : i < n
 ·refine .inr ⟨hlt,Pv (i + 1),fun σ' H' p'=>⟨n - (i + 1),by omega,rfl,hlt,p'⟩,fun x H' y=>?_⟩
  obtain ⟨e,y⟩:=y
  subst e y
  exact hs i σ _ hlt p
 ·have e : i = n:=by omega
  subst e
  exact .inl ⟨Nat.le_refl _,hd σ H p⟩
end L2
namespace L2
open PySem PySem.Spec PyProof.Rows
noncomputable abbrev R2:=V → V → Hp → VK → Prop
noncomputable def OpR (X : Cx) (f : Value → Value → Sem Value) (r : R2) : Prop :=
 ∀ (pins : List (Addr × Obj)) (s : Shared) (σ : St) (H : Hp) (x y : V) (v u : Value) (Q : VK),Inv X pins σ H s → RelV x v → RelV y u → r x y H Q →
  wpAny (model X.prog X.w) X.A (f v u) (EP X pins σ Q) X.xe s
noncomputable def UnR (X : Cx) (f : Value → Sem Value) (r : V → Hp → VK → Prop) : Prop :=
 ∀ (pins : List (Addr × Obj)) (s : Shared) (σ : St) (H : Hp) (x : V) (v : Value) (Q : VK),Inv X pins σ H s → RelV x v → r x H Q →
  wpAny (model X.prog X.w) X.A (f v) (EP X pins σ Q) X.xe s
noncomputable def J1R (X : Cx) (f : Value) (r : List V → Hp → VK → Prop) : Prop :=
 ∀ (pins : List (Addr × Obj)) (s : Shared) (σ : St) (H : Hp) (xs : List V) (us : List Value) (Q : VK),Inv X pins σ H s → Vals xs us → r xs H Q →
  wpAny (model X.prog X.w) X.A (call f us) (EP X pins σ Q) X.xe s
noncomputable def tOp (r : R2) (ta tb : TE) : TE:=fun σ H Q=>ta σ H fun x H1=>tb σ H1 fun y H2=>r x y H2 Q
noncomputable def tUn (r : V → Hp → VK → Prop) (ta : TE) : TE:=fun σ H Q=>ta σ H fun x H1=>r x H1 Q
noncomputable def rI (C : Int → Int → Prop) (g : Int → Int → V) : R2:=fun x y H Q=>∃ i j,x = .int i ∧ y = .int j ∧ C i j ∧ Q (g i j) H
noncomputable def rI0 (g : Int → Int → V) : R2:=fun x y H Q=>∃ i j,x = .int i ∧ y = .int j ∧ Q (g i j) H
noncomputable def rU (g : Int → V) : V → Hp → VK → Prop:=fun x H Q=>∃ i,x = .int i ∧ Q (g i) H
section
variable {X : Cx} {a b c : Expr} {ta tb tc : TE} {pos : Pos}
theorem binT (ha : PE X a ta) (hb : PE X b tb) {pins : List (Addr × Obj)} {s : Shared} {σ : St} {H : Hp} {R : V → V → Hp → Prop} (I : Inv X pins σ H s)
  (h : ta σ H fun x H1=>tb σ H1 fun y H2=>R x y H2) {Q : Value → Shared → Prop} {f : Value → Value → Sem Value}
  (hf : ∀ v u s2 x y H2,Inv X pins σ H2 s2 → RelV x v → RelV y u → R x y H2 → wpAny (model X.prog X.w) X.A (f v u) Q X.xe s2) :
  wpAny (model X.prog X.w) X.A (eval a X.env) (fun v s₁=>wpAny (model X.prog X.w) X.A (eval b X.env) (fun u s₂=>wpAny (model X.prog X.w) X.A (f v u) Q X.xe s₂) X.xe s₁) X.xe s:=by
 refine thn (ha pins s σ H _ I h) fun v s1 ⟨x,H1,I1,r1,q1⟩=>?_
 refine thn (hb pins s1 σ H1 _ I1 q1) fun u s2 ⟨y,H2,I2,r2,q2⟩=>?_
 exact hf v u s2 x y H2 I2 r1 r2 q2
theorem Je {op : Operator} {r : R2} (ho : OpR X (binaryOp op) r) (ha : PE X a ta) (hb : PE X b tb) : PE X (.BinOp a op b pos) (tOp r ta tb):=by
 intro pins s σ H Q I h
 exact wpAny_BinOp (binT ha hb I h fun v u s2 x y H2 I2 rx ry q=>ho pins s2 σ H2 x y v u Q I2 rx ry q)
theorem Jaf {op : UnaryOp} {r : V → Hp → VK → Prop} (ho : UnR X (unaryOp op) r) (ha : PE X a ta) : PE X (.UnaryOp op a pos) (tUn r ta):=by
 intro pins s σ H Q I h
 exact UnaryOp_ (thn (ha pins s σ H _ I h) fun v s1 ⟨x,H1,I1,r1,q1⟩=>ho pins s1 σ H1 x v Q I1 r1 q1)
theorem opI {f : Value → Value → Sem Value} {C : Int → Int → Prop} {g : Int → Int → Int}
  (rule : ∀ (i j : Int) (t u : Tok) (s : Shared) (Q : Value → Shared → Prop) (E : Value → Shared → Prop),C i j → Q (.int (g i j) s.toks) { s with toks:=s.toks + 1 } → wpAny (model X.prog X.w) X.A (f (.int i t) (.int j u)) Q E s) :
  OpR X f (rI C fun i j=>.int (g i j)):=by
 intro pins s σ H x y v u Q I rx ry h
 obtain ⟨i,j,rfl,rfl,hc,q⟩:=h
 obtain ⟨t,rfl⟩:=rx
 obtain ⟨t',rfl⟩:=ry
 exact rule i j t t' s _ _ hc ⟨.int (g i j),H,I.tok _,⟨_,rfl⟩,q⟩
theorem opI0 {f : Value → Value → Sem Value} {g : Int → Int → Int}
  (rule : ∀ (i j : Int) (t u : Tok) (s : Shared) (Q : Value → Shared → Prop) (E : Value → Shared → Prop),Q (.int (g i j) s.toks) { s with toks:=s.toks + 1 } → wpAny (model X.prog X.w) X.A (f (.int i t) (.int j u)) Q E s) :
  OpR X f (rI0 fun i j=>.int (g i j)):=by
 intro pins s σ H x y v u Q I rx ry h
 obtain ⟨i,j,rfl,rfl,q⟩:=h
 obtain ⟨t,rfl⟩:=rx
 obtain ⟨t',rfl⟩:=ry
 exact rule i j t t' s _ _ ⟨.int (g i j),H,I.tok _,⟨_,rfl⟩,q⟩
theorem opB0 {f : Value → Value → Sem Value} {g : Int → Int → Bool}
  (rule : ∀ (i j : Int) (t u : Tok) (s : Shared) (Q : Value → Shared → Prop) (E : Value → Shared → Prop),Q (.bool (g i j)) s → wpAny (model X.prog X.w) X.A (f (.int i t) (.int j u)) Q E s) :
  OpR X f (rI0 fun i j=>.bl (g i j)):=by
 intro pins s σ H x y v u Q I rx ry h
 obtain ⟨i,j,rfl,rfl,q⟩:=h
 obtain ⟨t,rfl⟩:=rx
 obtain ⟨t',rfl⟩:=ry
 exact rule i j t t' s _ _ ⟨.bl (g i j),H,I,rfl,q⟩
noncomputable def CDiv (i j : Int) : Prop:=0 < j ∧ j < 1073741824
noncomputable def CMul (i j : Int) : Prop:=(-(2 ^ 64) < i ∧ i < 2 ^ 64) ∨ (-(2 ^ 64) < j ∧ j < 2 ^ 64)
theorem CMul.ok {i j : Int} (h : CMul i j) : IntMulOk i j:=by
 rcases h with ⟨h1,h2⟩ | ⟨h1,h2⟩
 ·exact .of_left (intBits_le_64 h1 h2)
 ·exact .of_right (intBits_le_64 h1 h2)
theorem J0A : OpR X (binaryOp .Add) (rI0 fun i j=>.int (i + j)):=opI0 fun _ _ _ _ _ _ _ q=>add_int q
theorem J6e : OpR X (binaryOp .Sub) (rI0 fun i j=>.int (i - j)):=opI0 fun _ _ _ _ _ _ _ q=>sub_int q
theorem J1Z : OpR X (binaryOp .Mult) (rI CMul fun i j=>.int (i * j)):=opI fun _ _ _ _ _ _ _ hc q=>mul_int q hc.ok
theorem J00 : OpR X (binaryOp .FloorDiv) (rI CDiv fun i j=>.int (i / j)):=opI fun i j _ _ _ _ _ hc q=>by
 have h1 : (0 : Int) < j:=hc.1
 have h2 : j < 1073741824:=hc.2
 exact floordiv_int (by omega) (by rw [Int.fdiv_eq_ediv_of_nonneg i (by omega)]; exact q) (.inl (PyProof.noPylong_small (by omega)))
theorem JH : OpR X (binaryOp .Mod) (rI (fun _ j=>0 < j) fun i j=>.int (i % j)):=opI fun i j _ _ _ _ _ hc q=>by
 have h1 : (0 : Int) < j:=hc
 exact mod_int' (by omega) (by rw [Int.fmod_eq_emod_of_nonneg i (by omega)]; exact q)
theorem unI {f : Value → Sem Value} {g : Int → Int}
  (rule : ∀ (i : Int) (t : Tok) (s : Shared) (Q : Value → Shared → Prop) (E : Value → Shared → Prop),Q (.int (g i) s.toks) { s with toks:=s.toks + 1 } → wpAny (model X.prog X.w) X.A (f (.int i t)) Q E s) :
  UnR X f (rU fun i=>.int (g i)):=by
 intro pins s σ H x v Q I rx h
 obtain ⟨i,rfl,q⟩:=h
 obtain ⟨t,rfl⟩:=rx
 exact rule i t s _ _ ⟨.int (g i),H,I.tok _,⟨_,rfl⟩,q⟩
theorem J9t : UnR X (unaryOp .USub) (rU fun i=>.int (-i)):=unI fun _ _ _ _ _ q=>neg_int q
end
noncomputable def scal : V → V → Bool
 | .non,.non=>true | .non,.int _=>true | .int _,.non=>true | .non,.bl _=>true | .bl _,.non=>true | .non,.str _=>true | .str _,.non=>true
 | .int _,.int _=>true | .bl _,.bl _=>true | .str _,.str _=>true | .byt _,.byt _=>true
 | .int _,.str _=>true | .str _,.int _=>true | .bl _,.str _=>true | .str _,.bl _=>true
 | _,_=>false
noncomputable def rEq : R2:=fun x y H Q=>scal x y = true ∧ Q (.bl (decide (x = y))) H
noncomputable def rNe : R2:=fun x y H Q=>scal x y = true ∧ Q (.bl (!decide (x = y))) H
theorem J6J {i j : Int} : decide (V.int i = V.int j) = (i == j):=by
 rw [Bool.eq_iff_iff]
 simp
theorem J83 {i j : Bool} : decide (V.bl i = V.bl j) = (i == j):=by
 rw [Bool.eq_iff_iff]
 simp
theorem J6s {i j : Str} : decide (V.str i = V.str j) = (i == j):=by
 rw [Bool.eq_iff_iff]
 simp
theorem J6y {i j : Array UInt8} : decide (V.byt i = V.byt j) = (i.toList == j.toList):=by
 rw [Bool.eq_iff_iff]
 cases i
 cases j
 simp
section
variable {X : Cx} {a b c : Expr} {ta tb tc : TE} {pos : Pos}
theorem Jv {pins : List (Addr × Obj)} {σ : St} {H : Hp} {s : Shared} {Q : VK} {k k' : Bool} (I : Inv X pins σ H s) (q : Q (.bl k) H) (e : k = k') : EP X pins σ Q (.bool k') s:=by
 subst e
 exact ⟨.bl k,H,I,rfl,q⟩
theorem J1x : OpR X (compareOp .Eq) rEq:=by
 intro pins s σ H x y v u Q I rx ry h
 obtain ⟨hs,q⟩:=h
 cases x with
 | non =>
  cases rx
  cases y with
  | non=>cases ry; exact PySem.EqNone.eq_none_none (Jv I q (by simp))
  | bl j=>cases ry; exact PySem.EqNone.eq_none_bool (Jv I q (by simp))
  | int j=>obtain ⟨t',rfl⟩:=ry; exact PySem.EqNone.eq_none_int (Jv I q (by simp))
  | str j=>obtain ⟨t',rfl⟩:=ry; exact PySem.EqNone.eq_none_str (Jv I q (by simp))
  | _=>exact absurd (show false = true from hs) Bool.false_ne_true
 | bl i =>
  cases rx
  cases y with
  | non=>cases ry; exact PySem.EqNone.eq_bool_none (Jv I q (by simp))
  | bl j=>cases ry; exact eq_bool (Jv I q J83)
  | str j=>obtain ⟨t',rfl⟩:=ry; exact PySem.EqMixed.eq_bool_str (Jv I q (by simp))
  | _=>exact absurd (show false = true from hs) Bool.false_ne_true
 | int i =>
  obtain ⟨t,rfl⟩:=rx
  cases y with
  | non=>cases ry; exact PySem.EqNone.eq_int_none (Jv I q (by simp))
  | int j=>obtain ⟨t',rfl⟩:=ry; exact eq_int (Jv I q J6J)
  | str j=>obtain ⟨t',rfl⟩:=ry; exact PySem.EqMixed.eq_int_str (Jv I q (by simp))
  | _=>exact absurd (show false = true from hs) Bool.false_ne_true
 | str i =>
  obtain ⟨t,rfl⟩:=rx
  cases y with
  | non=>cases ry; exact PySem.EqNone.eq_str_none (Jv I q (by simp))
  | bl j=>cases ry; exact PySem.EqMixed.eq_str_bool (Jv I q (by simp))
  | int j=>obtain ⟨t',rfl⟩:=ry; exact PySem.EqMixed.eq_str_int (Jv I q (by simp))
  | str j=>obtain ⟨t',rfl⟩:=ry; exact eq_str (Jv I q J6s)
  | _=>exact absurd (show false = true from hs) Bool.false_ne_true
 | byt i =>
  obtain ⟨t,rfl⟩:=rx
  cases y with
  | byt j=>obtain ⟨t',rfl⟩:=ry; exact PySem.W.eq_bytes (Jv I q J6y)
  | _=>exact absurd (show false = true from hs) Bool.false_ne_true
 | _=>cases y <;> exact absurd (show false = true from hs) Bool.false_ne_true
theorem J3H : OpR X (compareOp .NotEq) rNe:=by
 intro pins s σ H x y v u Q I rx ry h
 obtain ⟨hs,q⟩:=h
 cases x with
 | non =>
  cases rx
  cases y with
  | non=>cases ry; exact PySem.EqNone.ne_none_none (Jv I q (by simp))
  | bl j=>cases ry; exact PySem.EqNone.ne_none_bool (Jv I q (by simp))
  | int j=>obtain ⟨t',rfl⟩:=ry; exact PySem.EqNone.ne_none_int (Jv I q (by simp))
  | str j=>obtain ⟨t',rfl⟩:=ry; exact PySem.EqNone.ne_none_str (Jv I q (by simp))
  | _=>exact absurd (show false = true from hs) Bool.false_ne_true
 | bl i =>
  cases rx
  cases y with
  | non=>cases ry; exact PySem.EqNone.ne_bool_none (Jv I q (by simp))
  | bl j=>cases ry; exact ne_bool (Jv I q (congrArg not J83))
  | str j=>obtain ⟨t',rfl⟩:=ry; exact PySem.EqMixed.ne_bool_str (Jv I q (by simp))
  | _=>exact absurd (show false = true from hs) Bool.false_ne_true
 | int i =>
  obtain ⟨t,rfl⟩:=rx
  cases y with
  | non=>cases ry; exact PySem.EqNone.ne_int_none (Jv I q (by simp))
  | int j=>obtain ⟨t',rfl⟩:=ry; exact ne_int (Jv I q (congrArg not J6J))
  | str j=>obtain ⟨t',rfl⟩:=ry; exact PySem.EqMixed.ne_int_str (Jv I q (by simp))
  | _=>exact absurd (show false = true from hs) Bool.false_ne_true
 | str i =>
  obtain ⟨t,rfl⟩:=rx
  cases y with
  | non=>cases ry; exact PySem.EqNone.ne_str_none (Jv I q (by simp))
  | bl j=>cases ry; exact PySem.EqMixed.ne_str_bool (Jv I q (by simp))
  | int j=>obtain ⟨t',rfl⟩:=ry; exact PySem.EqMixed.ne_str_int (Jv I q (by simp))
  | str j=>obtain ⟨t',rfl⟩:=ry; exact ne_str (Jv I q (congrArg not J6s))
  | _=>exact absurd (show false = true from hs) Bool.false_ne_true
 | byt i =>
  obtain ⟨t,rfl⟩:=rx
  cases y with
  | byt j=>obtain ⟨t',rfl⟩:=ry; exact PySem.W.ne_bytes (Jv I q (congrArg not J6y))
  | _=>exact absurd (show false = true from hs) Bool.false_ne_true
 | _=>cases y <;> exact absurd (show false = true from hs) Bool.false_ne_true
theorem J9m : OpR X (compareOp .Lt) (rI0 fun i j=>.bl (decide (i < j))):=opB0 fun _ _ _ _ _ _ _ q=>lt_int q
theorem J9f : OpR X (compareOp .LtE) (rI0 fun i j=>.bl (decide (i ≤ j))):=opB0 fun _ _ _ _ _ _ _ q=>le_int q
theorem J2L : OpR X (compareOp .Gt) (rI0 fun i j=>.bl (decide (j < i))):=opB0 fun _ _ _ _ _ _ _ q=>gt_int q
theorem Jal : OpR X (compareOp .GtE) (rI0 fun i j=>.bl (decide (j ≤ i))):=opB0 fun _ _ _ _ _ _ _ q=>ge_int q
theorem J6P : OpR X (compareOp .In) (fun x y H Q=>∃ i j,x = .str i ∧ y = .str j ∧ Q (.bl (!(Builtin.Str.occurrences j i 0 j.length 1).isEmpty)) H):=by
 intro pins s σ H x y v u Q I rx ry h
 obtain ⟨i,j,rfl,rfl,q⟩:=h
 obtain ⟨t,rfl⟩:=rx
 obtain ⟨t',rfl⟩:=ry
 exact in_str (Jv I q rfl)
theorem J4S : OpR X (compareOp .NotIn) (fun x y H Q=>∃ i j,x = .str i ∧ y = .str j ∧ Q (.bl (!(!(Builtin.Str.occurrences j i 0 j.length 1).isEmpty))) H):=by
 intro pins s σ H x y v u Q I rx ry h
 obtain ⟨i,j,rfl,rfl,q⟩:=h
 obtain ⟨t,rfl⟩:=rx
 obtain ⟨t',rfl⟩:=ry
 exact notIn_str (Jv I q rfl)
theorem Jr (b : Expr) {op : CmpOp} (h : op ≠ .In:=by decide) (h2 : op ≠ .NotIn:=by decide) : behindInMarks op b = false:=by
 have e1 : (op == CmpOp.In) = false:=by cases op <;> first | rfl | exact absurd rfl h
 have e2 : (op == CmpOp.NotIn) = false:=by cases op <;> first | rfl | exact absurd rfl h2
 cases b <;> simp [behindInMarks,e1,e2]
theorem J4Y {op : CmpOp} {r : R2} (ho : OpR X (compareOp op) r) (ha : PE X a ta) (hb : PE X b tb) (hm : behindInMarks op b = false) : PE X (.Compare a [op] [b] pos) (tOp r ta tb):=by
 intro pins s σ H Q I h
 exact wpAny_Compare1 (binT ha hb I h fun v u s2 x y H2 I2 rx ry q=>ho pins s2 σ H2 x y v u Q I2 rx ry q) hm
noncomputable def J9g (t : TE) : TT:=fun σ H Q=>t σ H fun x H'=>∃ k,x = .bl k ∧ Q k H'
theorem Ji {op : CmpOp} {r : R2} (ho : OpR X (compareOp op) r) (ha : PE X a ta) (hb : PE X b tb) (hm : behindInMarks op b = false) : PT X (.Compare a [op] [b] pos) (J9g (tOp r ta tb)):=by
 intro pins s σ H Q I h
 refine wpAny_isTrue_Compare1 (thn (ha pins s σ H _ I h) fun v s1 ⟨x,H1,I1,r1,q1⟩=>thn (hb pins s1 σ H1 _ I1 q1) fun u s2 ⟨y,H2,I2,r2,q2⟩ =>
  thn (ho pins s2 σ H2 x y v u _ I2 r1 r2 q2) fun c s3 ⟨z,H3,I3,r3,k,e,q3⟩=>?_) hm
 subst e
 cases r3
 exact wpAny_truthy_bool ⟨H3,I3,q3⟩
noncomputable def Ja1 (r r' : R2) (ta tb tc : TE) : TE:=fun σ H Q=>ta σ H fun x H1=>tb σ H1 fun y H2=>r x y H2 fun z H3=>∃ k,z = .bl k ∧
 (if k = true then tc σ H3 fun w' H4=>r' y w' H4 Q else Q (.bl false) H3)
theorem J86 {op op' : CmpOp} {r r' : R2} (ho : OpR X (compareOp op) r) (ho' : OpR X (compareOp op') r') (ha : PE X a ta) (hb : PE X b tb) (hc : PE X c tc)
  (hm : lastMarks [op,op'] [b,c] = false:=by with_unfolding_all rfl) : PT X (.Compare a [op,op'] [b,c] pos) (J9g (Ja1 r r' ta tb tc)):=by
 intro pins s σ H Q I h
 refine isTrue_chain (thn (ha pins s σ H _ I h) fun v s1 ⟨x,H1,I1,r1,q1⟩=>test_link (thn (hb pins s1 σ H1 _ I1 q1) fun u s2 ⟨y,H2,I2,r2,q2⟩ =>
  thn (ho pins s2 σ H2 x y v u _ I2 r1 r2 q2) fun d s3 ⟨z,H3,I3,r3,k,e,q3⟩=>?_)) hm
 subst e
 cases r3
 refine wpAny_truthy_bool ?_
 cases k with
 | false =>
  obtain ⟨k',e',q'⟩:=q3
  cases e'
  exact ite_ff ⟨H3,I3,q'⟩
 | true =>
  refine ite_tt (test_last (thn (hc pins s3 σ H3 _ I3 q3) fun w' s4 ⟨z',H4,I4,r4,q4⟩=>thn (ho' pins s4 σ H4 y z' u w' _ I4 r2 r4 q4) fun d' s5 ⟨z2,H5,I5,r5,k2,e2,q5⟩=>?_))
  subst e2
  cases r5
  exact wpAny_truthy_bool ⟨H5,I5,q5⟩
theorem J3Y : (sizeLine : Nat) < 2 ^ 63:=by rw [sizeLine_eq]; decide
theorem J6d : OpR X (binaryOp .Add) (fun x y H Q=>∃ i j,x = .str i ∧ y = .str j ∧ i.length + j.length ≤ sizeLine ∧ Q (.str (i ++ j)) H):=by
 intro pins s σ H x y v u Q I rx ry h
 obtain ⟨i,j,rfl,rfl,hz,q⟩:=h
 obtain ⟨t,rfl⟩:=rx
 obtain ⟨t',rfl⟩:=ry
 exact add_str (fun t' tk=>⟨.str (i ++ j),H,I.tok _,⟨_,rfl⟩,q⟩) hz
theorem J6u {x : V} {us : List Value} (r : Vals [x] us) : ∃ u,us = [u] ∧ RelV x u:=by
 cases r with
 | cons r1 r2=>cases r2; exact ⟨_,rfl,r1⟩
theorem J9i {x y : V} {us : List Value} (r : Vals [x,y] us) : ∃ u w',us = [u,w'] ∧ RelV x u ∧ RelV y w':=by
 cases r with
 | cons r1 r2 =>
  cases r2 with
  | cons r3 r4=>cases r4; exact ⟨_,_,rfl,r1,r3⟩
theorem J70 (hc : X.calm = true) : J1R X (.builtin "max") (fun xs H Q=>∃ i j,xs = [.int i,.int j] ∧ Q (.int (if j > i then j else i)) H):=by
 intro pins s σ H xs us Q I r h
 obtain ⟨i,j,rfl,q⟩:=h
 obtain ⟨u,w',rfl,⟨t,rfl⟩,⟨t',rfl⟩⟩:=J9i r
 refine max_two_ints (I.ok.hd hc) fun h' tk k=>⟨_,H,I.kept k,?_,q⟩
 by_cases hj : j > i
 ·rw [if_pos hj,if_pos hj]; exact ⟨_,rfl⟩
 ·rw [if_neg hj,if_neg hj]; exact ⟨_,rfl⟩
theorem J6W (hc : X.calm = true) : J1R X (.builtin "min") (fun xs H Q=>∃ i j,xs = [.int i,.int j] ∧ Q (.int (if j < i then j else i)) H):=by
 intro pins s σ H xs us Q I r h
 obtain ⟨i,j,rfl,q⟩:=h
 obtain ⟨u,w',rfl,⟨t,rfl⟩,⟨t',rfl⟩⟩:=J9i r
 refine min_two_ints (I.ok.hd hc) fun h' tk k=>⟨_,H,I.kept k,?_,q⟩
 by_cases hj : j < i
 ·rw [if_pos hj,if_pos hj]; exact ⟨_,rfl⟩
 ·rw [if_neg hj,if_neg hj]; exact ⟨_,rfl⟩
end
end L2
namespace L2
open PySem PySem.Spec PyProof.Rows
structure ObjM (h : Heap) (x dx C : Addr) (mA : Str → Option Value) : Prop where
 obj : h.get? x = some (PySem.W.instObj C dx)
 ns : h.Ns1 dx mA
 ne : dx ≠ x
theorem J73 {h : Heap} {dx : Addr} {mA : Str → Option Value} (n : h.Ns1 dx mA) : ∃ od,h.get? dx = some od ∧ ∀ name,PySem.W.lookIn name od = some (mA name):=by
 obtain ⟨o,es,ep,ho,hd,hk,_,hm⟩:=n
 refine ⟨o,ho,fun name=>?_⟩
 have e:=hm name
 unfold nsFind findBy at e
 rw [← Array.find?_toList] at e
 unfold PySem.W.lookIn
 rw [hd]
 dsimp only
 split
 ·rename_i y q
  rw [q] at e
  exact congrArg some e
 ·rename_i q
  rw [q] at e
  have a : es.toList.any (·.refKey) = false:=by
   rw [List.any_eq_false]
   intro y hy
   obtain ⟨z,t,hkey⟩:=hk y (Array.mem_toList_iff.mp hy)
   simp [DictEntry.refKey,hkey]
  have a' : ¬ es.toList.any (·.refKey) = true:=by rw [a]; exact Bool.false_ne_true
  rw [if_neg a']
  exact congrArg some e
theorem ObjM.look {h : Heap} {x dx C : Addr} {mA : Str → Option Value} (I : ObjM h x dx C mA) : ∃ od,PySem.W.InstAt h x (PySem.W.instObj C dx) C (some od) ∧ ∀ name,PySem.W.lookIn name od = some (mA name) :=
 let ⟨od,ho,hl⟩:=J73 I.ns
 ⟨od,⟨I.obj,rfl,rfl,ho⟩,hl⟩
section
variable {prog : Program} {w : World} {A : Around} {E : Value → Shared → Prop} {s : Shared} {K : PySem.W.Frag} {x dx C f : Addr} {mA : Str → Option Value} {name : Str} {v : Value}
theorem J8M {expr : Bool} {Q : Value → Shared → Prop} (X : K.In s.heap) (I : ObjM s.heap x dx C mA) (hg : PySem.W.plainGet K C name = true) (hh : PySem.W.hasDictIn K C = true)
  (ha : PySem.W.findIn K (.ref C) name = some none) (hv : mA name = some v) (hv' : PySem.W.handedIn v = true) (h : Q v { s with toks:=s.toks + 1 }) :
  wpAny (model prog w) A (getAttr (.ref x) name expr) Q E s:=by
 obtain ⟨od,J,hl⟩:=I.look
 exact PySem.W.get_value X J (PySem.W.plainGet_of hg).1 (PySem.W.findObj_own hh ha rfl (by rw [hl,hv])) hv' h
theorem J8k {pl : Sem Bool} {Q : Value × List Value → Shared → Prop} (X : K.In s.heap) (I : ObjM s.heap x dx C mA) (hg : PySem.W.plainGet K C name = true)
  (hf : PySem.W.findIn K (.ref C) name = some (some (.ref f))) (ht : PySem.W.isFn K (.ref f) = true) (hv : mA name = none) (h : Q (.ref f,[.ref x]) s) :
  wpAny (model prog w) A (getMethod (.ref x) name pl) Q E s:=by
 obtain ⟨od,J,hl⟩:=I.look
 exact PySem.W.method_fn X J (PySem.W.plainGet_of hg).1 (PySem.W.plainGet_of hg).2 hf (beq_iff_eq.mp ht) (by show (PySem.W.lookIn name od).map (·.isSome) = some false; rw [hl,hv]; rfl) h
theorem J8N {ns : List Str} {Q : Unit → Shared → Prop} (X : K.In s.heap) (I : ObjM s.heap x dx C mA)
  (hs : PySem.W.findIn K (.ref C) "__setattr__" = some (some (.builtin "object.__setattr__"))) (hp : PySem.W.plainOver K C = true) (ht : PySem.W.takerIn K C name = some none) (hh : PySem.W.hasDictIn K C = true)
  (hw : PySem.Within mA ns) (hsz : ns.length ≤ sizeLine)
  (h : ∀ h',ObjM h' x dx C (fun y=>if y = name then some v else mA y) → Heap.SameBut dx s.heap h' → Q () { s with heap:=h',toks:=s.toks + 2 }) :
  wpAny (model prog w) A (setAttr (.ref x) name v) Q E s:=by
 obtain ⟨od,J,hl⟩:=I.look
 refine PySem.W.set_plain X J hs (PySem.W.osa_open (s:={ s with toks:=s.toks + 1 }) (r:=none) X J hp ht fun b=>?_)
 obtain ⟨cd,hc,hd'⟩:=PySem.W.any_some hh
 have hx : s.heap.get? x = some ⟨.ref C,some dx,.plain,#[]⟩:=I.obj
 refine wpAny_bind (wpAny_pure (wpAny_bind (wpAny_bind (wpAny_loadPart hx (wpAny_bind (PySem.W.Looks.here (s:={ s with toks:=s.toks + 1 }) (PySem.W.looks_clsIn X hc) ?_))))))
 rw [hd']
 refine wpAny_pure (a:=some dx) (wpAny_bind (wpAny_pure (wpAny_bind ?_)))
 refine wpAny_nsSet1 (s:={ s with toks:=s.toks + 1 }) I.ns fun h' hn2 hs2=>?_
 obtain ⟨oD,esD,epD,hoD,hdD,hcD⟩:=hn2.count (PySem.Within.cons name v hw)
 refine wpAny_bind (wpAny_lookBehind hoD (by rw [hdD]; exact pastItsLine_dict (Nat.le_trans hcD (by rw [List.length_cons]; omega))) ?_)
 exact wpAny_pure (h _ ⟨(hs2.2 _ (Ne.symm I.ne)).trans I.obj,hn2,I.ne⟩ hs2)
theorem J7q {R : Result → Shared → Prop} {vs : List Value} {kw : List (Str × Value)} (X : K.In s.heap) (hm : PySem.W.makesIn K C = true)
  (hi : PySem.W.findIn K (.ref C) "__init__" = some (some (.ref f))) (hf : PySem.W.typeIn K (.ref f) = some (.type "function"))
  (h : codeAny (model prog w) (A.under (.builtin "type.__call__" ⟨.ref C :: vs,kw⟩)) (.call (.ref f) ⟨.ref (s.heap.objs.size + 1) :: vs,kw⟩) (PySem.W.InitBack (s.heap.objs.size + 1) R)
   {s with heap:=(s.heap.push PySem.W.emptyDict).push (PySem.W.instObj C s.heap.objs.size) }) :
  codeAny (model prog w) A (.call (.ref C) ⟨vs,kw⟩) R s:=by
 obtain ⟨hh,g,d,t,os⟩:=s
 exact PySem.W.make_core (PySem.W.makes_of X hm) (PySem.W.looks_findIn X hi) (fun self=>PySem.W.bind_fn X self hf) (.inl rfl) h
end
noncomputable def putF (f : Str) (v : V) : List (Str × V) → List (Str × V)
 | []=>[(f,v)]
 | (g,x) :: r=>if g = f then (g,v) :: r else (g,x) :: putF f v r
theorem J3b (f g : Str) (v : V) : ∀ fs : List (Str × V),(putF f v fs).lookup g = if g = f then some v else fs.lookup g
 | []=>by
  show List.lookup g [(f,v)] = _
  by_cases h : g = f
  ·have hb : (g == f) = true:=beq_iff_eq.mpr h
   simp only [List.lookup,hb,if_pos h]
  ·have hb : (g == f) = false:=beq_eq_false_iff_ne.mpr h
   simp only [List.lookup,hb,if_neg h]
 | (k,x) :: r=>by
  have ih:=J3b f g v r
  rw [show putF f v ((k,x) :: r) = (if k = f then (k,v) :: r else (k,x) :: putF f v r) from rfl]
  by_cases hk : k = f
  ·rw [if_pos hk]
   by_cases h : g = k
   ·have hb : (g == k) = true:=beq_iff_eq.mpr h
    simp only [List.lookup,hb,if_pos (h.trans hk)]
   ·have hb : (g == k) = false:=beq_eq_false_iff_ne.mpr h
    simp only [List.lookup,hb,if_neg (fun e : g = f=>h (e.trans hk.symm))]
  ·rw [if_neg hk]
   by_cases h : g = k
   ·have hb : (g == k) = true:=beq_iff_eq.mpr h
    simp only [List.lookup,hb,if_neg (fun e : g = f=>hk (h.symm.trans e))]
   ·have hb : (g == k) = false:=beq_eq_false_iff_ne.mpr h
    simp only [List.lookup,hb]
    exact ih
theorem J2Z (f : Str) (v : V) : ∀ fs : List (Str × V),f ∈ (putF f v fs).map (·.1) ∧ ∀ g,g ∈ fs.map (·.1) → g ∈ (putF f v fs).map (·.1)
 | []=>⟨by simp [putF],fun g h=>by simp at h⟩
 | (k,x) :: r=>by
  obtain ⟨i1,i2⟩:=J2Z f v r
  rw [show putF f v ((k,x) :: r) = (if k = f then (k,v) :: r else (k,x) :: putF f v r) from rfl]
  by_cases hk : k = f
  ·rw [if_pos hk]
   subst hk
   exact ⟨by simp,fun g h=>by simpa using h⟩
  ·rw [if_neg hk]
   refine ⟨?_,fun g h=>?_⟩
   ·rw [List.map_cons]
    exact List.mem_cons_of_mem _ i1
   ·rw [List.map_cons] at h ⊢
    rcases List.mem_cons.mp h with e | e
    ·exact List.mem_cons.mpr (.inl e)
    ·exact List.mem_cons_of_mem _ (i2 g e)
theorem J3d (f : Str) (v : V) : ∀ fs : List (Str × V),(putF f v fs).length ≤ fs.length + 1
 | []=>by simp [putF]
 | (k,x) :: r=>by
  have ih:=J3d f v r
  rw [show putF f v ((k,x) :: r) = (if k = f then (k,v) :: r else (k,x) :: putF f v r) from rfl]
  by_cases hk : k = f
  ·rw [if_pos hk,List.length_cons,List.length_cons]; omega
  ·rw [if_neg hk,List.length_cons,List.length_cons]; omega
theorem RelO.some_of {v : V} {o : Option Value} (r : RelO (some v) o) : ∃ u,o = some u ∧ RelV v u:=by
 cases o with
 | none=>exact (show False from r).elim
 | some u=>exact ⟨u,rfl,r⟩
theorem RelO.none_of {o : Option Value} (r : RelO none o) : o = none:=by
 cases o with
 | none=>rfl
 | some u=>exact (show False from r).elim
theorem J75 {v : V} {u : Value} (r : RelV v u) : PySem.W.handedIn u = true:=by
 cases v with
 | non=>cases (show u = Value.none from r); rfl
 | bl b=>cases (show u = Value.bool b from r); rfl
 | int i=>obtain ⟨t,e⟩:=(show ∃ t,u = Value.int i t from r); cases e; rfl
 | str x=>obtain ⟨t,e⟩:=(show ∃ t,u = Value.str x t from r); cases e; rfl
 | byt b=>obtain ⟨t,e⟩:=(show ∃ t,u = Value.bytes b t from r); cases e; rfl
 | flt b=>obtain ⟨t,e⟩:=(show ∃ t,u = Value.float b t from r); cases e; rfl
 | ref a=>cases (show u = Value.ref a from r); rfl
 | ty n=>cases (show u = Value.type n from r); rfl
section
variable {P : Program} {w : World} {H H' : Hp} {h h' : Heap} {a C dx : Addr} {fs fs' : List (Str × V)}
theorem J53 (hok : HOk P w H h) (e : H a = some (.ins C dx fs)) : ∃ mA,ObjM h a dx C mA ∧ (∀ f,RelO (fs.lookup f) (mA f)) ∧ PySem.Within mA (fs.map (·.1)) ∧ fs.length ≤ 1000 ∧ H dx = some (.own a):=by
 obtain ⟨d,z,ne,ob,mA,n,r,q⟩:=(show J1k P w H h a (.ins C dx fs) from hok a _ e)
 exact ⟨mA,⟨ob,n,ne⟩,r,q,z,d⟩
end
structure Cls (K : PySem.W.Frag) (C : Addr) : Prop where
 pg : PySem.W.plainGet K C Str.empty = true
 hd : PySem.W.hasDictIn K C = true
 po : PySem.W.plainOver K C = true
 sa : PySem.W.findIn K (.ref C) "__setattr__" = some (some (.builtin "object.__setattr__"))
theorem Cls.get {K : PySem.W.Frag} {C : Addr} (c : Cls K C) (f : Str) : PySem.W.plainGet K C f = true:=c.pg
noncomputable def J0a (K : PySem.W.Frag) (C : Addr) (f : Str) : Prop:=PySem.W.findIn K (.ref C) f = some none
theorem J0a.taker {K : PySem.W.Frag} {C : Addr} {f : Str} (n : J0a K C f) : PySem.W.takerIn K C f = some none:=by
 unfold PySem.W.takerIn
 rw [show PySem.W.findIn K (.ref C) f = some none from n]
 rfl
structure Meth (K : PySem.W.Frag) (C : Addr) (m : Str) (f : Addr) : Prop where
 at_ : PySem.W.findIn K (.ref C) m = some (some (.ref f))
 fn : PySem.W.isFn K (.ref f) = true
 kp : PySem.W.keepIn K (.ref f) = true
section
variable {X : Cx} {pins : List (Addr × Obj)} {σ : St} {H : Hp} {s : Shared} {a C dx : Addr} {fs : List (Str × V)} {f : Str} {v : V} {A : Around} {E : Value → Shared → Prop}
theorem J64 {b : Bool} {Q : Value → Shared → Prop} (I : Inv X pins σ H s) (e : H a = some (.ins C dx fs)) (c : Cls X.K C) (n : J0a X.K C f) (l : fs.lookup f = some v)
  (h : ∀ u s',Inv X pins σ H s' → RelV v u → Q u s') : wpAny (model X.prog X.w) A (getAttr (.ref a) f b) Q E s:=by
 obtain ⟨mA,O,r,_,_,_⟩:=J53 I.hok e
 obtain ⟨u,hu,ru⟩:=RelO.some_of (v:=v) (o:=mA f) (by rw [← l]; exact r f)
 exact J8M I.kIn O (c.get f) c.hd n hu (J75 ru) (h u _ (I.tok _) ru)
theorem J65 {m : Str} {g : Addr} {pl : Sem Bool} {Q : Value × List Value → Shared → Prop} (I : Inv X pins σ H s) (e : H a = some (.ins C dx fs)) (c : Cls X.K C) (k : Meth X.K C m g) (l : fs.lookup m = none)
  (h : Q (.ref g,[.ref a]) s) : wpAny (model X.prog X.w) A (getMethod (.ref a) m pl) Q E s:=by
 obtain ⟨mA,O,r,_,_,_⟩:=J53 I.hok e
 have hn : mA m = none:=RelO.none_of (by rw [← l]; exact r m)
 exact J8k I.kIn O (c.get m) k.at_ k.fn hn h
theorem J6i {y : V} {u : Value} {Q : Unit → Shared → Prop} (I : Inv X pins σ H s) (e : H a = some (.ins C dx fs)) (c : Cls X.K C) (n : J0a X.K C f) (hl : fs.length < 1000) (ry : RelV y u)
  (h : ∀ s',Inv X pins σ (upd H a (.ins C dx (putF f y fs))) s' → Q () s') : wpAny (model X.prog X.w) A (setAttr (.ref a) f u) Q E s:=by
 obtain ⟨mA,O,r,wi,_,ho⟩:=J53 I.hok e
 have hz : (fs.map (·.1)).length ≤ sizeLine:=by rw [List.length_map,sizeLine_eq]; omega
 refine J8N I.kIn O c.sa c.po n.taker c.hd wi hz fun h' O' sb=>h _ ?_
 have hd : ∃ o,h'.get? dx = some o:=let ⟨o,_,_,e',_⟩:=O'.ns; ⟨o,e'⟩
 refine I.write (x:=a) (e:=dx) (by rw [e]; exact True.intro) (.inr ho) (fun b q hb z=>(sb.2 b hb).trans z) hd ?_
 refine ⟨by rw [Jc O.ne]; exact ho,?_,O.ne,O'.obj,_,O'.ns,fun g=>?_,fun g hg=>?_⟩
 ·have:=J3d f y fs; omega
 ·show RelO ((putF f y fs).lookup g) (if g = f then some u else mA g)
  rw [J3b]
  by_cases q : g = f
  ·rw [if_pos q,if_pos q]; exact ry
  ·rw [if_neg q,if_neg q]; exact r g
 ·by_cases q : g = f
  ·rw [q]; exact (J2Z f y fs).1
  ·refine (J2Z f y fs).2 g (wi g fun z=>hg ?_)
   show (if g = f then some u else mA g) = none
   rw [if_neg q]; exact z
theorem Inv.made (I : Inv X pins σ H s) : Inv X pins σ (upd (upd H s.heap.objs.size (.own (s.heap.objs.size + 1))) (s.heap.objs.size + 1) (.ins C s.heap.objs.size []))
  {s with heap:=(s.heap.push PySem.W.emptyDict).push (PySem.W.instObj C s.heap.objs.size) }:=by
 have e1 : (s.heap.push PySem.W.emptyDict).get? s.heap.objs.size = some PySem.W.emptyDict:=Heap.get?_push_size s.heap rfl
 have e2 : ((s.heap.push PySem.W.emptyDict).push (PySem.W.instObj C s.heap.objs.size)).get? (s.heap.objs.size + 1) = some (PySem.W.instObj C s.heap.objs.size):=by
  have:=Heap.get?_push_size (s.heap.push PySem.W.emptyDict) (o:=PySem.W.instObj C s.heap.objs.size) rfl
  rwa [Heap.size_push] at this
 have e3 : (s.heap.push PySem.W.emptyDict).Ns s.heap.objs.size (fun _=>none):=⟨PySem.W.emptyDict,#[],_,e1,rfl,(fun e he=>absurd he (by simp)),fun _=>rfl⟩
 have I1:=I.laid (a:=s.heap.objs.size) (o:=.own (s.heap.objs.size + 1)) (h':=s.heap.push PySem.W.emptyDict) (t':=s.toks) (fun b u q=>Heap.get?_push_of_some _ q) (Nat.le_refl _) ⟨_,e1⟩
 refine I1.laid (a:=s.heap.objs.size + 1) (o:=.ins C s.heap.objs.size []) (t':=s.toks) (fun b u q=>Heap.get?_push_of_some _ q) (Nat.le_of_eq (Heap.size_push _ _)) ?_
 have ne : s.heap.objs.size ≠ s.heap.objs.size + 1:=Nat.ne_of_lt (Nat.lt_succ_self _)
 refine ⟨by rw [Jc ne,Jb],Nat.zero_le _,ne,e2,fun _=>none,(Heap.Ns1.of_empty e3).at fun o q=>Heap.get?_push_of_some _ q,fun _=>True.intro,fun y hy=>absurd rfl hy⟩
theorem J8V {prog : Program} {w : World} {env : Env} {e : Expr} {f : Str} {pos : Pos} {s : Shared} {Q : Value → Shared → Prop} (hb : attributeBase e f env (eval e env) = eval e env)
  (h : wpAny (model prog w) A (eval e env) (fun o s₁=>wpAny (model prog w) A (getAttr o f true) Q E s₁) E s) : wpAny (model prog w) A (eval (.Attribute e f pos) env) Q E s :=
 Attribute_any_ h (by rw [arm_eval_Attribute,hb])
end
noncomputable def tFld (K : PySem.W.Frag) (ta : TE) (f : Str) : TE:=fun σ H Q=>ta σ H fun x H1=>∃ a C dx fs v,x = .ref a ∧ H1 a = some (.ins C dx fs) ∧ Cls K C ∧ J0a K C f ∧ fs.lookup f = some v ∧ Q v H1
noncomputable def sFld (K : PySem.W.Frag) (ta tv : TE) (f : Str) : TS:=fun D σ H=>tv σ H fun y H1=>ta σ H1 fun x H2=>∃ a C dx fs,x = .ref a ∧ H2 a = some (.ins C dx fs) ∧ Cls K C ∧ J0a K C f ∧ fs.length < 1000 ∧
 D.nx σ (upd H2 a (.ins C dx (putF f y fs)))
section
variable {X : Cx} {o e value : Expr} {f : Str} {pos pos' tpos : Pos} {ta tv : TE}
theorem J9J (he : PE X e ta) (hb : attributeBase e f X.env (eval e X.env) = eval e X.env) : PE X (.Attribute e f pos) (tFld X.K ta f):=by
 intro pins s σ H Q I h
 refine J8V hb (thn (he pins s σ H _ I h) fun u s1 ⟨x,H1,I1,rx,a,C,dx,fs,v,ex,ea,c,n,l,q⟩=>?_)
 subst ex
 obtain rfl : u = Value.ref a:=rx
 exact J64 I1 ea c n l fun u' s2 I2 ru=>⟨v,H1,I2,ru,q⟩
theorem J1c (ha : PE X o ta) (hv : PE X value tv) (hs : swapsWith value (some (.Attribute o f pos')) pos.line X.env = pure false) : PS X (.Assign [.Attribute o f pos'] value pos) (sFld X.K ta tv f):=by
 intro pins s σ H D I h
 refine plainObj_wpAny_Assign_Attribute (thn (hv pins s σ H _ I h) fun u s1 ⟨y,H1,I1,ry,q⟩=>thn (ha pins s1 σ H1 _ I1 q) fun ov s2 ⟨x,H2,I2,rx,a,C,dx,fs,ex,ea,c,n,l,q2⟩=>?_) hs
 subst ex
 obtain rfl : ov = Value.ref a:=rx
 exact J6i I2 ea c n l ry fun s3 I3=>⟨σ,_,I3,q2⟩
end
section
variable {X : Cx} {pins : List (Addr × Obj)} {σ : St} {H : Hp} {s : Shared} {A : Around} {E : Value → Shared → Prop} {Q : Value → Shared → Prop} {c : Value} {b : Bool}
end
end L2
namespace L2
open PySem PySem.Spec PyProof.Rows
structure Room (k : Nat) (A : Around) : Prop where
 hd : A.handled = none
 dp : A.depth + 3 * k + 5 < recursionLimit
 un : A.units + 16 * k + 200 < cLine
theorem Room.mono {j k : Nat} {A : Around} (r : Room k A) (h : j ≤ k) : Room j A:=⟨r.hd,by have:=r.dp; omega,by have:=r.un; omega⟩
theorem Room.deeper {k : Nat} {A : Around} (r : Room (k + 1) A) (env : Env) : Room k (A.deeper env) :=
 ⟨r.hd,by have:=r.dp; show A.depth + 1 + 3 * k + 5 < _; omega,by have:=r.un; show A.units + 3 + 16 * k + 200 < _; omega⟩
theorem J6m {A : Around} {C : Addr} {us : List Value} {kw : List (Str × Value)} : (A.under (.builtin "type.__call__" ⟨.ref C :: us,kw⟩)).depth = A.depth + 1:=by
 first | rfl | simp [Around.under,Code.weight,Code.isCreation,Code.isGuard,Code.isCaller,Code.frames,Code.isFrame,guardIds]
theorem J68 {A : Around} {C : Addr} {us : List Value} {kw : List (Str × Value)} : (A.under (.builtin "type.__call__" ⟨.ref C :: us,kw⟩)).units = A.units + 1:=by
 first | rfl | simp [Around.under,Code.cUnits,Code.frames,Code.isFrame]
theorem Room.make {k : Nat} {A : Around} (r : Room (k + 1) A) (C : Addr) (us : List Value) (kw : List (Str × Value)) : Room k (A.under (.builtin "type.__call__" ⟨.ref C :: us,kw⟩)) :=
 ⟨r.hd,by have:=r.dp; rw [J6m]; omega,by have:=r.un; rw [J68]; omega⟩
theorem Room.depth {k : Nat} {A : Around} (r : Room k A) : A.depth < recursionLimit:=by have:=r.dp; omega
theorem Room.units {k : Nat} {A : Around} (r : Room k A) : A.units + 64 < cLine:=by have:=r.un; omega
theorem Room.units0 {k : Nat} {A : Around} (r : Room k A) : A.units < cLine:=by have:=r.un; omega
noncomputable def tNil : TA:=fun _ H Q=>Q [] H
noncomputable def Jao (ta : TE) (tr : TA) : TA:=fun σ H Q=>ta σ H fun x H1=>tr σ H1 fun xs H2=>Q (x :: xs) H2
section
variable {X : Cx} {e : Expr} {es : List Expr} {te : TE} {t : TA} {pos : Pos}
theorem J3 : PA X [] tNil:=fun _ _ _ _ H Q I h=>Calls.spliced_nil ⟨[],H,I,.nil,h⟩
theorem J0 (ha : PE X e te) (hr : PA X es t) (hs : starEach (e :: es) X.env = (false,eval e X.env) :: starEach es X.env:=by rfl) : PA X (e :: es) (Jao te t):=by
 intro pos pins s σ H Q I h
 rw [hs]
 show wpAny _ _ (spliced ((false,eval e X.env) :: backTo pos (starEach es X.env))) _ _ s
 refine Calls.spliced_cons (thn (ha pins s σ H _ I h) fun u s1 ⟨x,H1,I1,r1,q1⟩=>?_)
 exact thn (hr pos pins s1 σ H1 _ I1 q1) fun us s2 ⟨xs,H2,I2,r2,q2⟩=>⟨x :: xs,H2,I2,.cons r1 r2,q2⟩
noncomputable def tTup (t : TA) : TE:=fun σ H Q=>t σ H fun xs H1=>xs.length ≤ sizeLine ∧ ∀ p,H1 p = none → Q (.ref p) (upd H1 p (.tup xs))
noncomputable def tLst (t : TA) : TE:=fun σ H Q=>t σ H fun xs H1=>xs.length ≤ sizeLine ∧ ∀ p,H1 p = none → Q (.ref p) (upd H1 p (.lst xs))
theorem J1W {x1} (h : PA X es t) : PE X (.Tuple es x1 pos) (tTup t):=by
 intro pins s σ H Q I hq
 refine wpAny_Tuple_spliced (thn (h pos pins s σ H _ I hq) fun us s1 ⟨xs,H1,I1,r,z,q⟩=>⟨by rw [← r.length]; exact z,?_⟩)
 have hf : H1 s1.heap.objs.size = none:=I1.hok.fresh (Nat.le_refl _)
 refine ⟨.ref s1.heap.objs.size,upd H1 s1.heap.objs.size (.tup xs),I1.laid (t':=s1.toks) (fun b u e=>Heap.get?_push_of_some _ e) (Nat.le_refl _) ?_,rfl,q _ hf⟩
 exact ⟨z,us,r,⟨_,Heap.get?_push_size _ rfl,rfl,_,rfl⟩⟩
theorem J14 (h : PA X es t) : PE X (.List es pos) (tLst t):=by
 intro pins s σ H Q I hq
 refine wpAny_List_spliced (thn (h pos pins s σ H _ I hq) fun us s1 ⟨xs,H1,I1,r,z,q⟩=>⟨by rw [← r.length]; exact z,?_⟩)
 have hf : H1 s1.heap.objs.size = none:=I1.hok.fresh (Nat.le_refl _)
 refine ⟨.ref s1.heap.objs.size,upd H1 s1.heap.objs.size (.lst xs),I1.laid (t':=s1.toks) (fun b u e=>Heap.get?_push_of_some _ e) (Nat.le_refl _) ?_,rfl,q _ hf⟩
 exact ⟨z,us,0,r,Heap.get?_push_size _ rfl⟩
end
noncomputable abbrev Sp:=List V → Hp → VK → XK → Prop
noncomputable abbrev CXT:=List Env → Hp → Shared → XK → Value → Shared → Prop
structure Env0 (P : Program) (w : World) (K : PySem.W.Frag) (mg : Str → Option Value) (base : Heap) (A : Around) (outer : List Env) (s : Shared) (H : Hp) : Prop where
 frames : A.frames = some outer
 mod : Mod K mg base
 bs : ∀ b o,base.get? b = some o → s.heap.get? b = some o ∧ H b = none
 bsz : base.objs.size ≤ s.heap.objs.size
 funs : s.heap.FunFrames base outer
 frf : ∀ b ∈ frs outer,H b = none
 hok : HOk P w H s.heap
 bare : AllBare s.gens
noncomputable def CE (outer : List Env) (P : Program) (w : World) (H : Hp) (s : Shared) (Q : VK) (u : Value) (s' : Shared) : Prop :=
 ∃ v H',s'.os = s.os ∧ AllBare s'.gens ∧ Un (frs outer) [] H H' s.heap s'.heap ∧ HOk P w H' s'.heap ∧ RelV v u ∧ Q v H'
noncomputable def CR (CX : CXT) (outer : List Env) (P : Program) (w : World) (H : Hp) (s : Shared) (Q : VK) (E : XK) (r : Result) (s' : Shared) : Prop :=
 match r with
 | .ok (.ret u)=>CE outer P w H s Q u s'
 | .ok _=>False
 | .error e=>CX outer H s E e s'
structure FnOk (P : Program) (w : World) (K : PySem.W.Frag) (mg : Str → Option Value) (base : Heap) (CX : CXT) (k : Nat) (f : Addr) (fd : FuncData) (ps : List Str) (sp : Sp) : Prop where
 len : ∀ vs H Q E,sp vs H Q E → vs.length = ps.length
 run : ∀ (A : Around) (outer : List Env) (s : Shared) (H : Hp) (args : Args) (us : List Value) (vs : List V) (Q : VK) (E : XK),Room k A → Env0 P w K mg base A outer s H → BindsTo s fd args (ps.zip us) → Vals vs us → sp vs H Q E →
  codeAny (model P w) A (.call (.ref f) args) (CR CX outer P w H s Q E) s
theorem Env0.make {P : Program} {w : World} {K : PySem.W.Frag} {mg : Str → Option Value} {base : Heap} {A : Around} {outer : List Env} {s : Shared} {H : Hp} (e : Env0 P w K mg base A outer s H) (C : Addr) (us : List Value) (kw : List (Str × Value)) :
  Env0 P w K mg base (A.under (.builtin "type.__call__" ⟨.ref C :: us,kw⟩)) outer s H:=⟨by first | exact e.frames | (simpa [Around.under,Code.envs,Code.isFrame,pushEnvs] using e.frames),e.mod,e.bs,e.bsz,e.funs,e.frf,e.hok,e.bare⟩
section
variable {X : Cx} {pins : List (Addr × Obj)} {σ : St} {H : Hp} {s s' : Shared}
theorem Inv.env0 (I : Inv X pins σ H s) : Env0 X.prog X.w X.K X.mg X.base X.A X.stack s H :=
 ⟨I.ok.frames,I.ok.mod,I.bs,Nat.le_trans I.ok.bsz I.sz,I.stack,I.stkFree,I.hok,I.bare⟩
theorem Inv.after {Q : VK} {u : Value} (I : Inv X pins σ H s) (h : CE X.stack X.prog X.w H s Q u s') : EP X pins σ Q u s':=by
 obtain ⟨v,H',os,bare,un,hok,r,q⟩:=h
 obtain ⟨hh,g,d,t,os'⟩:=s'
 obtain rfl : os' = s.os:=os
 exact ⟨v,H',I.call (h':=hh) (g':=g) (d':=d) (t':=t) (ch:=[]) un hok bare (fun b z=>absurd z (by simp)),r,q⟩
end
noncomputable def J6w (sp : Sp) (dvs : List V) (E : XK) (t : TA) : TE:=fun σ H Q=>t σ H fun vs H1=>sp (vs ++ dvs) H1 Q E
noncomputable def J9c (C : Addr) (m : Str) (sp : Sp) (dvs : List V) (E : XK) (ta : TE) (t : TA) : TE:=fun σ H Q=>ta σ H fun x H1=>∃ a dx fs,x = .ref a ∧ H1 a = some (.ins C dx fs) ∧ fs.lookup m = none ∧
 t σ H1 fun vs H2=>sp (x :: (vs ++ dvs)) H2 Q E
noncomputable def J20 (K : PySem.W.Frag) (fd : FuncData) (ps : List Str) (ds : List Value) : Prop :=
 ∀ (s : Shared) (us : List Value),K.In s.heap → (us ++ ds).length = ps.length → BindsTo s fd ⟨us,[]⟩ (ps.zip (us ++ ds))
theorem J20.all {K : PySem.W.Frag} {fd : FuncData} {ps : List Str} (h : ∀ us : List Value,us.length = ps.length → bindArgs fd ⟨us,[]⟩ = pure (ps.zip us)) : J20 K fd ps []:=fun s us _ hl=>by
 rw [List.append_nil] at hl ⊢
 exact .of_eq (h us hl)
noncomputable def J2u (CX : CXT) (X : Cx) (E : XK) : Prop:=∀ (pins : List (Addr × Obj)) (σ : St) (H : Hp) (s : Shared) (e : Value) (s' : Shared),Inv X pins σ H s → CX X.stack H s E e s' → X.xe e s'
section
variable {X : Cx} {CX : CXT} {k : Nat} {f C : Addr} {fd : FuncData} {ps : List Str} {sp : Sp} {dvs : List V} {ds : List Value} {E : XK} {x m : Str} {p pos apos : Pos} {e o : Expr} {es : List Expr} {ta : TE} {t : TA}
theorem J8b {pins : List (Addr × Obj)} {σ : St} {H : Hp} {s : Shared} {Q : VK} {us : List Value} {vs : List V} (F : FnOk X.prog X.w X.K X.mg X.base CX k f fd ps sp) (hr : Room k X.A) (hb : J20 X.K fd ps ds) (hd : Vals dvs ds) (hx : J2u CX X E)
  (I : Inv X pins σ H s) (r : Vals vs us) (h : sp (vs ++ dvs) H Q E) : wpAny (model X.prog X.w) X.A (call (.ref f) us) (EP X pins σ Q) X.xe s:=by
 have r2 : Vals (vs ++ dvs) (us ++ ds):=r.append hd
 have hl : (us ++ ds).length = ps.length:=by rw [← r2.length]; exact F.len _ _ _ _ h
 refine wpAny_call (codeAny_mono (F.run X.A X.stack s H ⟨us,[]⟩ (us ++ ds) (vs ++ dvs) Q E hr I.env0 (hb s us I.kIn hl) r2 h) fun r s' hq=>?_)
 cases r with
 | error e=>exact hx pins σ H s e s' I hq
 | ok fl =>
  cases fl with
  | ret u=>exact I.after hq
  | next=>exact False.elim hq
  | brk=>exact False.elim hq
  | cont=>exact False.elim hq
theorem J6r (F : FnOk X.prog X.w X.K X.mg X.base CX k f fd ps sp) (hr : Room k X.A) (hg : Gl X x) (hm : X.mg x = some (.ref f)) (hk : PySem.W.keepIn X.K (.ref f) = true) (hb : J20 X.K fd ps ds) (hd : Vals dvs ds) (hx : J2u CX X E)
  (ha : PA X (e :: es) t) (hdb : (x == ("__debug__" : Str)) = false:=by decide) (he : starEach (e :: es) X.env = (false,eval e X.env) :: starEach es X.env:=by rfl) (hpl : (backTo pos (starEach es X.env)).any (·.1) = false:=by rfl) :
  PE X (.Call (.Name x p) (e :: es) [] pos) (J6w sp dvs E t):=by
 intro pins s σ H Q I h
 refine wpAny_Call_Name_kw (J26 I hg hm ?_ hdb)
 refine PySem.W.callWith_K (h₀:=X.base) I.ok.mod.kin hk (thn (ha pos pins s σ H _ I h) fun us s1 ⟨vs,H1,I1,r,q⟩=>⟨I1.kIn,?_⟩) he hpl
 exact J8b F hr hb hd hx I1 r q
theorem J8H {pl : Sem Bool} (he : PE X o ta) (c : Cls X.K C) (hm : Meth X.K C m f) (F : FnOk X.prog X.w X.K X.mg X.base CX k f fd ps sp) (hr : Room k X.A) (hb : J20 X.K fd ps ds) (hd : Vals dvs ds) (hx : J2u CX X E) (ha : PA X (e :: es) t)
  (hst : starEach (e :: es) X.env = (false,eval e X.env) :: starEach es X.env:=by rfl) (hpl : (backTo pos (starEach es X.env)).any (·.1) = false:=by rfl)
  (ht : eval (.Call (.Attribute o m apos) (e :: es) [] pos) X.env = (do
   let ov ← eval o X.env
   standAt apos.atName
   let (f,first) ← holding [ov] (getMethod ov m pl)
   callWith pos f first (backTo pos (starEach (e :: es) X.env)) (backToKw pos (keywordEach [] X.env))):=by rfl) :
  PE X (.Call (.Attribute o m apos) (e :: es) [] pos) (J9c C m sp dvs E ta t):=by
 intro pins s σ H Q I h
 refine PySem.W.methodCall_KW (pl:=pl) (thn (he pins s σ H _ I h) fun u s1 ⟨x,H1,I1,rx,a,dx,fs,ex,ea,l,q⟩=>?_) ht
 subst ex
 obtain rfl : u = Value.ref a:=rx
 refine J65 I1 ea c hm l ?_
 refine PySem.W.callWith_K (first:=[.ref a]) (h₀:=X.base) I.ok.mod.kin hm.kp (thn (ha pos pins s1 σ H1 _ I1 q) fun us s2 ⟨vs,H2,I2,r,q2⟩=>⟨I2.kIn,?_⟩) hst hpl
 exact J8b (us:=.ref a :: us) (vs:=.ref a :: vs) F hr hb hd hx I2 (.cons rfl r) q2
structure Mk (K : PySem.W.Frag) (C f : Addr) : Prop where
 makes : PySem.W.makesIn K C = true
 init : PySem.W.findIn K (.ref C) "__init__" = some (some (.ref f))
 fn : PySem.W.isFn K (.ref f) = true
 kp : PySem.W.keepIn K (.ref C) = true
theorem J7v {pins : List (Addr × Obj)} {σ : St} {H : Hp} {s : Shared} {Q : VK} {us : List Value} {vs : List V} (M : Mk X.K C f) (F : FnOk X.prog X.w X.K X.mg X.base CX k f fd ps sp) (hr : Room (k + 1) X.A) (hb : J20 X.K fd ps ds) (hd : Vals dvs ds)
  (hx : J2u CX X E) (I : Inv X pins σ H s) (r : Vals vs us)
  (h : ∀ x dx,H x = none → H dx = none → dx ≠ x → sp (.ref x :: (vs ++ dvs)) (upd (upd H dx (.own x)) x (.ins C dx [])) (fun v H2=>v = .non ∧ Q (.ref x) H2) E) :
  wpAny (model X.prog X.w) X.A (call (.ref C) us) (EP X pins σ Q) X.xe s:=by
 have hq:=h (s.heap.objs.size + 1) s.heap.objs.size (I.hok.fresh (Nat.le_succ _)) (I.hok.fresh (Nat.le_refl _)) (Nat.ne_of_lt (Nat.lt_succ_self _))
 have I2:=Inv.made (C:=C) I
 have r2 : Vals (V.ref (s.heap.objs.size + 1) :: (vs ++ dvs)) (Value.ref (s.heap.objs.size + 1) :: (us ++ ds)):=.cons rfl (r.append hd)
 have hl : (Value.ref (s.heap.objs.size + 1) :: us ++ ds).length = ps.length:=by
  have e:=r2.length
  rw [F.len _ _ _ _ hq] at e
  exact e.symm
 refine wpAny_call (J7q (f:=f) I.kIn M.makes M.init (beq_iff_eq.mp M.fn) (codeAny_mono (F.run _ X.stack _ _ ⟨Value.ref (s.heap.objs.size + 1) :: us,[]⟩ (Value.ref (s.heap.objs.size + 1) :: (us ++ ds)) _ _ E (hr.make C us [])
  (I2.env0.make C us []) (hb _ (Value.ref (s.heap.objs.size + 1) :: us) I2.kIn hl) r2 hq) fun r s' hq'=>?_))
 cases r with
 | error e=>exact hx pins σ _ _ e s' I2 hq'
 | ok fl =>
  cases fl with
  | ret u =>
   obtain ⟨v,H',I3,rv,ev,q3⟩:=I2.after hq'
   subst ev
   exact ⟨rv,⟨V.ref (s.heap.objs.size + 1),H',I3,rfl,q3⟩⟩
  | next=>exact False.elim hq'
  | brk=>exact False.elim hq'
  | cont=>exact False.elim hq'
end
section
variable {X : Cx} {CX : CXT} {k : Nat} {f C : Addr} {fd : FuncData} {ps ks : List Str} {sp : Sp} {E : XK} {x m : Str} {p pos apos kpos : Pos} {e o : Expr} {es : List Expr} {kws : List Keyword} {te ta : TE} {t tk : TA} {nm : Option Str}
variable {g : List Value → List Value → List Value} {gV : List V → List V → List V}
end
structure Jp (N P : List Str) (sc : Scope) : Prop where
 kind : sc.kind = .function
 co : sc.isCoroutine = false
 gen : sc.isGenerator = false
 nd : N.Nodup
 pre : N.take P.length = P
 par : ∀ x ∈ P,sc.names.lookup x = some .local ∨ sc.names.lookup x = some .cell
 nofree : ∀ y ∈ sc.names,y.2 ≠ .free
theorem J4r {kindOf : Str → Option NameKind} {x : Str} : ∀ {binds : List (Str × Value)} {m : Str → Option Value},(∀ v,(x,v) ∉ binds) → bindL kindOf binds m x = m x
 | [],_,_=>rfl
 | (n,v) :: r,m,h=>by
  unfold bindL
  rw [J4r fun w hw=>h w (List.mem_cons_of_mem _ hw)]
  split
  ·have : x ≠ n:=by rintro rfl; exact h v List.mem_cons_self
   simp [this]
  ·rfl
theorem J4z {kindOf : Str → Option NameKind} {x : Str} : ∀ {binds : List (Str × Value)} {m : Str → Option Value},(∀ v,(x,v) ∉ binds) → bindC kindOf binds m x = m x
 | [],_,_=>rfl
 | (n,v) :: r,m,h=>by
  unfold bindC
  rw [J4z fun w hw=>h w (List.mem_cons_of_mem _ hw)]
  split
  ·rfl
  ·have : x ≠ n:=by rintro rfl; exact h v List.mem_cons_self
   simp [this]
theorem J4v {kindOf : Str → Option NameKind} {x : Str} {v : Value} : ∀ {P : List Str} {vs : List Value} {i : Nat} {m : Str → Option Value},P.Nodup → P[i]? = some x → vs[i]? = some v → kindOf x = some .local →
  bindL kindOf (P.zip vs) m x = some v
 | [],_,_,_,_,h,_,_=>by simp at h
 | _ :: _,[],_,_,_,_,h,_=>by simp at h
 | p :: P,w :: vs,0,m,nd,h1,h2,hk=>by
  simp at h1 h2; subst h1; subst h2
  show bindL kindOf ((p,w) :: P.zip vs) m p = _
  unfold bindL
  rw [J4r fun v hv=>(List.nodup_cons.mp nd).1 (List.of_mem_zip hv).1,if_pos hk]
  simp
 | p :: P,w :: vs,i + 1,m,nd,h1,h2,hk=>by
  show bindL kindOf ((p,w) :: P.zip vs) m x = _
  unfold bindL
  exact J4v (i:=i) (List.nodup_cons.mp nd).2 (by simpa using h1) (by simpa using h2) hk
theorem J4B {kindOf : Str → Option NameKind} {x : Str} {v : Value} : ∀ {P : List Str} {vs : List Value} {i : Nat} {m : Str → Option Value},P.Nodup → P[i]? = some x → vs[i]? = some v → kindOf x ≠ some .local →
  bindC kindOf (P.zip vs) m x = some v
 | [],_,_,_,_,h,_,_=>by simp at h
 | _ :: _,[],_,_,_,_,h,_=>by simp at h
 | p :: P,w :: vs,0,m,nd,h1,h2,hk=>by
  simp at h1 h2; subst h1; subst h2
  show bindC kindOf ((p,w) :: P.zip vs) m p = _
  unfold bindC
  rw [J4z fun v hv=>(List.nodup_cons.mp nd).1 (List.of_mem_zip hv).1,if_neg hk]
  simp
 | p :: P,w :: vs,i + 1,m,nd,h1,h2,hk=>by
  show bindC kindOf ((p,w) :: P.zip vs) m x = _
  unfold bindC
  exact J4B (i:=i) (List.nodup_cons.mp nd).2 (by simpa using h1) (by simpa using h2) hk
noncomputable def start (N : List Str) (vs : List V) : St:=vs.map some ++ List.replicate (N.length - vs.length) none
noncomputable def cxOf (CX : CXT) (P : Program) (w : World) (K : PySem.W.Frag) (mg : Str → Option Value) (base : Heap) (N : List Str) (qual : Str) (scope : Scope) (f : Addr) (cd : Value) (A : Around) (outer : List Env) (s : Shared) (H : Hp) (E : XK) : Cx where
 prog:=P
 w:=w
 K:=K
 mg:=mg
 base:=base
 A:=A.deeper (envOfC qual scope s.heap.objs.size f cd)
 N:=N
 s₀:=s
 H₀:=H
 env:=envOfC qual scope s.heap.objs.size f cd
 outer:=outer
 stack:=envOfC qual scope s.heap.objs.size f cd :: outer
 ex:=[]
 calm:=true
 fn:=fun _=>true
 pn:=[]
 xe:=fun e s'=>wpAny (model P w) (A.deeper (envOfC qual scope s.heap.objs.size f cd)) (leaving (envOfC qual scope s.heap.objs.size f cd) e) (fun _ s''=>CX outer H s E e s'') (fun e' s''=>CX outer H s E e' s'') s'
theorem J5P {sc : Scope} {n : Nat} {x : Str} (h : sc.names.lookup x = some .cell) : ∃ c,(cellsFrom n sc.names []).lookup x = some c:=by
 have q:=PySem.W.cellsFrom_some sc.names n [] (.inl h)
 exact Option.isSome_iff_exists.mp q
theorem J6V {CX : CXT} {P : Program} {w : World} {K : PySem.W.Frag} {mg : Str → Option Value} {base : Heap} {N ps : List Str} {qual : Str} {scope : Scope} {f : Addr} {cd : Value} {A : Around} {outer : List Env} {s s1 : Shared} {H : Hp} {E : XK} {us : List Value} {vs : List V}
  (S : Jp N ps scope) (hd : A.handled = none) (e0 : Env0 P w K mg base A outer s H) (hl : vs.length = ps.length) (r : Vals vs us)
  (x : InCallC s s.heap.objs.size (bindL (envOfC qual scope s.heap.objs.size f cd).kindOf (ps.zip us) fun _=>none) (cellsFrom (s.heap.objs.size + 1) scope.names []) (bindC (envOfC qual scope s.heap.objs.size f cd).kindOf (ps.zip us) fun _=>none) s1) :
  Inv (cxOf CX P w K mg base N qual scope f cd A outer s H E) [] (start N vs) H s1:=by
 have hpl : ps.length ≤ N.length:=by have:=congrArg List.length S.pre; rw [List.length_take] at this; omega
 obtain ⟨h1,tk,rfl,hk⟩:=x.done
 have noA : ∀ b : Addr,b ∉ (cxOf CX P w K mg base N qual scope f cd A outer s H E).ex:=fun b z=>absurd (show b ∈ ([] : List Addr) from z) (by simp)
 refine ⟨⟨e0.mod,S.kind,rfl,rfl,Nat.le_refl _,fun y z c h1 h2=>?_,fun y hy=>?_,fun y c _ h=>?_,fun _=>hd,Around.frames_deeper e0.frames,.inr ⟨rfl,rfl⟩,fun b z=>absurd z (noA b),e0.bs,e0.bsz,fun b _ _=>noA b,fun b z=>absurd z (noA b),e0.funs,e0.frf⟩,
  rfl,e0.bare,Un.kept hk,⟨_,x.toInCall.ns,fun i y v h1 h2 h3=>?_⟩,fun y c h=>⟨_,x.cell y c h⟩,e0.hok.fresh (Nat.le_refl _),fun y c h=>?_,fun p hp=>absurd (show p ∈ ([] : List (Addr × Obj)) from hp) (by simp),e0.hok.kept hk,?_⟩
 ·exact name_of_addr x.apart (PySem.mem_of_lookup h1) (PySem.mem_of_lookup h2)
 ·have hy : scope.names.lookup y = some .cell ∨ scope.names.lookup y = some .free:=hy
  rcases hy with hy | hy
  ·exact J5P hy
  ·exact absurd rfl (S.nofree _ (PySem.mem_of_lookup hy))
 ·exact Nat.le_of_lt (x.above y c (PySem.mem_of_lookup h))
 ·have hi : i < vs.length:=by
   unfold start at h2
   by_cases hi : i < vs.length
   ·exact hi
   ·rw [List.getElem?_append_right (by simpa using hi)] at h2
    rw [List.getElem?_replicate] at h2
    split at h2 <;> cases h2
  have ha : vs[i]? = some v:=by
   unfold start at h2
   rw [List.getElem?_append_left (by simpa using hi),List.getElem?_map] at h2
   cases e : vs[i]? with
   | none=>rw [e] at h2; cases h2
   | some a=>rw [e] at h2; cases h2; rfl
  obtain ⟨u,hu,rv⟩:=r.get ha
  have hp : ps[i]? = some y:=by
   rw [← S.pre,List.getElem?_take_of_lt (by omega)]; exact h1
  have ndP : ps.Nodup:=by rw [← S.pre]; exact S.nd.sublist (List.take_sublist _ _)
  refine ⟨u,rv,?_⟩
  rcases S.par y (List.mem_of_getElem? hp) with k | k
  ·exact .inl ⟨k,J4v ndP hp hu k⟩
  ·obtain ⟨c,e⟩:=J5P (n:=s.heap.objs.size + 1) k
   refine .inr ⟨.inl k,c,e,?_⟩
   have q:=x.cell y c e
   rw [J4B ndP hp hu (by show scope.names.lookup y ≠ _; rw [k]; decide)] at q
   exact q
 ·exact e0.hok.fresh (Nat.le_of_lt (x.above y c (PySem.mem_of_lookup h)))
 ·unfold start
  show _ = N.length
  rw [List.length_append,List.length_map,List.length_replicate]
  omega
theorem J9h {CX : CXT} {P : Program} {w : World} {K : PySem.W.Frag} {mg : Str → Option Value} {base : Heap} {k : Nat} {f : Addr} {name qual : Str} {params : Arguments} {body : List Stmt} {scope : Scope} {dV kV doc pm cdv ct oc : Value} {an od : Option Addr}
  {osl : Array (Option Value)} {N ps : List Str} {sp : Sp} (lk : K.lookup f = some ⟨oc,od,.func (PySem.W.fnOf name qual params body scope dV kV doc pm an cdv ct),osl⟩) (hcd : PySem.W.codeIn K cdv qual = true) (S : Jp N ps scope)
  (len : ∀ vs H Q E,sp vs H Q E → vs.length = ps.length)
  (hbody : ∀ (A : Around) (outer : List Env) (s : Shared) (H : Hp) (vs : List V) (Q : VK) (E : XK),Room k (A.deeper (envOfC qual scope s.heap.objs.size f cdv)) → sp vs H Q E →
   ∃ t,PSs (cxOf CX P w K mg base N qual scope f cdv A outer s H E) body t ∧ t { nx:=fun _ H'=>Q .non H',rt:=Q } (start N vs) H) :
  FnOk P w K mg base CX (k + 1) f (PySem.W.fnOf name qual params body scope dV kV doc pm an cdv ct) ps sp:=by
 refine ⟨len,fun A outer s H args us vs Q E hr e0 hb r hsp=>?_⟩
 have hl:=len _ _ _ _ hsp
 have KX : K.In s.heap:=e0.mod.kin.keeps fun b o e=>(e0.bs b o e).1
 have lim : s.heap.NoLimit:=e0.mod.nolimit.keeps fun b o e=>(e0.bs b o e).1
 have hkind : ∀ y ∈ ps.zip us,scope.names.lookup y.1 = some .local ∨ (scope.names.lookup y.1 = some .cell ∧ ((cellsFrom (s.heap.objs.size + 1) scope.names []).lookup y.1).isSome = true):=fun ⟨n,v⟩ hy=>by
  rcases S.par n (List.of_mem_zip hy).1 with q | q
  ·exact .inl q
  ·exact .inr ⟨q,PySem.W.cellsFrom_some _ _ _ (.inl q)⟩
 refine codeAny_call_function hr.depth (KX _ _ lk) rfl S.co S.gen rfl (PySem.W.codeRec_of KX hcd) (hb _ _ _ _ ?_)
 refine wpAny_newFunctionEnv_cells S.kind hkind fun env he s1 x=>?_
 subst he
 refine ⟨lim.keeps x.toInCall.keep,codeAny_func ?_⟩
 obtain ⟨t,ht,hq⟩:=hbody A outer s H vs Q E (hr.deeper _) hsp
 have I : Inv (cxOf CX P w K mg base N qual scope f cdv A outer s H E) [] (start N vs) H s1:=J6V S hr.hd e0 hl r x
 refine wpAny_mono (ht [] s1 (start N vs) H _ I hq) (fun fl s' hs=>?_) fun e s' hs=>hs
 have fin : ∀ {σ' : St} {H' : Hp} {v : V} {u : Value},Inv (cxOf CX P w K mg base N qual scope f cdv A outer s H E) [] σ' H' s' → RelV v u → Q v H' → CE outer P w H s Q u s' :=
  fun {σ' H' v u} J rv q=>⟨v,H',J.os,J.bare,J.base,J.hok,rv,q⟩
 cases fl with
 | ret u =>
  obtain ⟨v,σ',H',J,rv,q⟩:=hs
  exact fin J rv q
 | next =>
  obtain ⟨σ',H',J,q⟩:=hs
  exact fin (v:=V.non) (u:=Value.none) J rfl q
 | brk =>
  obtain ⟨_,_,_,q⟩:=hs
  exact False.elim q
 | cont =>
  obtain ⟨_,_,_,q⟩:=hs
  exact False.elim q
end L2
namespace L2
open PySem PySem.Spec PyProof.Rows
section
variable {X : Cx} {x : Str} {p pos : Pos} {e : Expr} {es : List Expr} {t : TA} {id T : String} {r : List V → Hp → VK → Prop}
noncomputable def tCB (r : List V → Hp → VK → Prop) (t : TA) : TE:=fun σ H Q=>t σ H fun vs H1=>r vs H1 Q
theorem Js (hc : J1R X (.builtin id) r) (hg : Gl X x) (hm : X.mg x = none) (hv : bootBuiltins x = some (.builtin id)) (ha : PA X (e :: es) t) (hn : x ≠ "__name__":=by decide) (hdb : (x == ("__debug__" : Str)) = false:=by decide)
  (he : starEach (e :: es) X.env = (false,eval e X.env) :: starEach es X.env:=by rfl) (hpl : (backTo pos (starEach es X.env)).any (·.1) = false:=by rfl) : PE X (.Call (.Name x p) (e :: es) [] pos) (tCB r t):=by
 intro pins s σ H Q I h
 refine wpAny_Call_Name_kw (J3X I hg hm hv ?_ hn hdb)
 exact PyProof.Rows.callWith_builtin1 (thn (ha pos pins s σ H _ I h) fun us s1 ⟨vs,H1,I1,r1,q1⟩=>hc pins s1 σ H1 vs us Q I1 r1 q1) he hpl
theorem J1a (hc : J1R X (.type T) r) (hg : Gl X x) (hm : X.mg x = none) (hv : bootBuiltins x = some (.type T)) (ha : PA X (e :: es) t) (hn : x ≠ "__name__":=by decide) (hdb : (x == ("__debug__" : Str)) = false:=by decide)
  (he : starEach (e :: es) X.env = (false,eval e X.env) :: starEach es X.env:=by rfl) (hpl : (backTo pos (starEach es X.env)).any (·.1) = false:=by rfl) : PE X (.Call (.Name x p) (e :: es) [] pos) (tCB r t):=by
 intro pins s σ H Q I h
 refine wpAny_Call_Name_kw (J3X I hg hm hv ?_ hn hdb)
 exact PyProof.Rows.callWith_type1 (thn (ha pos pins s σ H _ I h) fun us s1 ⟨vs,H1,I1,r1,q1⟩=>hc pins s1 σ H1 vs us Q I1 r1 q1) he hpl
end
end L2
namespace HT
open PySem PyProof.Rows
section
open PySem.SeqAt
open PySem.AutoSeq1 (wpAny_loadPart')
open PySem.MeetsSeq PySem.MeetsSeq2 PySem.MeetsSeq3
end
section
variable {prog : Program} {w : World} {A : Around} {E : Value → Shared → Prop} {s : Shared}
noncomputable def sIx (n d : Nat) : Option Int → Nat
 | none=>d
 | some v=>if v < 0 then (v + (n : Int)).toNat else min v.toNat n
theorem sIx_le (n d : Nat) (hd : d ≤ n) (o : Option Int) : sIx n d o ≤ n:=by
 cases o with
 | none=>exact hd
 | some v =>
  show (if v < 0 then (v + (n : Int)).toNat else min v.toNat n) ≤ n
  by_cases hv : v < 0
  ·rw [if_pos hv]; omega
  ·rw [if_neg hv]; exact Nat.min_le_right _ _
end
end HT
namespace L2
open PySem PySem.Spec PyProof.Rows
noncomputable abbrev TO:=St → Hp → (Option Int → Hp → Prop) → Prop
noncomputable def PO (X : Cx) (e : Option Expr) (t : TO) : Prop :=
 ∀ (pins : List (Addr × Obj)) (s : Shared) (σ : St) (H : Hp) (Q : Option Int → Hp → Prop),Inv X pins σ H s → t σ H Q →
  wpAny (model X.prog X.w) X.A (evalPart e X.env) (fun u s'=>∃ o H',Inv X pins σ H' s' ∧ IsPart u o ∧ Q o H') X.xe s
noncomputable def J97 : TO:=fun _ H Q=>Q none H
noncomputable def Jab (t : TE) : TO:=fun σ H Q=>t σ H fun x H1=>∃ i,x = .int i ∧ Q (some i) H1
section
variable {X : Cx} {e : Expr} {te : TE} {lo hi : Option Expr} {tl th : TO} {pos p2 : Pos}
theorem J6p : PO X none J97:=by
 intro pins s σ H Q I h
 rw [evalPart_none]
 exact wpAny_pure ⟨none,H,I,.none,h⟩
theorem J3j (h : PE X e te) : PO X (some e) (Jab te):=by
 intro pins s σ H Q I hw
 rw [evalPart_some]
 refine thn (h pins s σ H _ I hw) fun u s1 ⟨x,H1,I1,r1,q1⟩=>?_
 obtain ⟨i,rfl,q⟩:=q1
 obtain ⟨t,rfl⟩:=r1
 exact ⟨some i,H1,I1,.int i t,q⟩
noncomputable def SlR (X : Cx) (r : V → Option Int → Option Int → Hp → VK → Prop) : Prop :=
 ∀ (pins : List (Addr × Obj)) (s : Shared) (σ : St) (H : Hp) (x : V) (v vl vu : Value) (lo hi : Option Int) (sl : Addr) (Q : VK),Inv X pins σ H s → RelV x v → s.heap.IsSliceOf sl vl vu .none → IsPart vl lo → IsPart vu hi → r x lo hi H Q →
  ∃ T id,typeLookup (.type T) "__getitem__" = pure (some (.builtin id)) ∧ s.TypeIs v T ∧ wpAny (model X.prog X.w) X.A (getItem v (.ref sl)) (EP X pins σ Q) X.xe s
noncomputable def tSl (r : V → Option Int → Option Int → Hp → VK → Prop) (te : TE) (tl th : TO) : TE:=fun σ H Q=>te σ H fun x H1=>tl σ H1 fun l H2=>th σ H2 fun u H3=>r x l u H3 Q
theorem J3T {r : V → Option Int → Option Int → Hp → VK → Prop} (hr : SlR X r) (he : PE X e te) (hl : PO X lo tl) (hu : PO X hi th) : PE X (.Subscript e (.Slice lo hi none p2) pos) (tSl r te tl th):=by
 intro pins s σ H Q I h
 refine Subscript_ (thn (he pins s σ H _ I h) fun v s1 ⟨x,H1,I1,r1,q1⟩=>?_)
 refine wpAny_Slice (thn (hl pins s1 σ H1 _ I1 q1) fun vl s2 ⟨l,H2,I2,pl,q2⟩=>thn (hu pins s2 σ H2 _ I2 q2) fun vu s3 ⟨u,H3,I3,pu,q3⟩=>?_)
 rw [evalPart_none]
 refine wpAny_pure ?_
 have I4 : Inv X pins σ H3 { s3 with heap:=s3.heap.push { cls:=.type "slice",data:=.fields #[vl,vu,.none] } }:=I3.kept (t':=s3.toks) fun b ob q=>Heap.get?_push_of_some _ q
 obtain ⟨T,id,hT,ht,hg⟩:=hr pins { s3 with heap:=s3.heap.push { cls:=.type "slice",data:=.fields #[vl,vu,.none] } } σ H3 x v vl vu l u s3.heap.objs.size Q I4 r1 (Heap.IsSliceOf.new ..) pl pu q3
 show wpAny (model X.prog X.w) X.A (subscriptTail e (.Slice lo hi none p2) v (.ref s3.heap.objs.size)) (EP X pins σ Q) X.xe { s3 with heap:=s3.heap.push { cls:=.type "slice",data:=.fields #[vl,vu,.none] } }
 exact tail_any (ops:=[.ref s3.heap.objs.size,v]) ht hT hg (by with_unfolding_all rfl)
noncomputable def cutV (xs : List V) (lo hi : Option Int) : List V:=(xs.drop (HT.sIx xs.length 0 lo)).take (HT.sIx xs.length xs.length hi - HT.sIx xs.length 0 lo)
theorem J5K (xs : List V) (lo hi : Option Int) : (cutV xs lo hi).length ≤ xs.length:=by
 unfold cutV
 rw [List.length_take,List.length_drop]
 omega
end
end L2
namespace L2
open PySem PySem.Spec PyProof.Rows
noncomputable def ixN (n : Nat) (i : Int) : Option Nat:=if 0 ≤ i then (if i < n then some i.toNat else none) else if -(n : Int) ≤ i then some (i + n).toNat else none
noncomputable def atI {α : Type} (xs : List α) (i : Int) : Option α:=(ixN xs.length i).bind fun j=>xs[j]?
theorem J99 {n : Nat} {i : Int} {j : Nat} (h : ixN n i = some j) : seqIndex? i n = some j ∧ j < n ∧ -(n : Int) ≤ i ∧ i < n:=by
 unfold ixN at h
 by_cases h0 : 0 ≤ i
 ·rw [if_pos h0] at h
  by_cases h1 : i < n
  ·rw [if_pos h1] at h
   have e : i.toNat = j:=Option.some.inj h
   exact ⟨by rw [seqIndex_of h0 h1,e],by omega,by omega,h1⟩
  ·rw [if_neg h1] at h; cases h
 ·rw [if_neg h0] at h
  by_cases h1 : -(n : Int) ≤ i
  ·rw [if_pos h1] at h
   have e : (i + n).toNat = j:=Option.some.inj h
   exact ⟨by rw [seqIndex_neg (by omega) h1,e],by omega,h1,by omega⟩
  ·rw [if_neg h1] at h; cases h
theorem J52 {α : Type} {xs : List α} {i : Int} {v : α} (h : atI xs i = some v) : ∃ j,seqIndex? i xs.length = some j ∧ xs[j]? = some v ∧ j < xs.length ∧ -(xs.length : Int) ≤ i ∧ i < xs.length:=by
 unfold atI at h
 cases e : ixN xs.length i with
 | none=>rw [e] at h; cases h
 | some j =>
  rw [e] at h
  obtain ⟨h1,h2,h3,h4⟩:=J99 e
  exact ⟨j,h1,h,h2,h3,h4⟩
theorem J0K {α : Type} {xs : List α} {j : Nat} {v : α} (h : xs[j]? = some v) : atI xs (j : Int) = some v:=by
 have hj : j < xs.length:=(List.getElem?_eq_some_iff.mp h).1
 have e : ixN xs.length (j : Int) = some j:=by
  unfold ixN
  rw [if_pos (by omega),if_pos (by omega)]; simp
 unfold atI; rw [e]; exact h
noncomputable def J8J (b : Expr) : Prop:=∀ o i,subscripted b false o i = operate [o,i] (getItem o i)
noncomputable def IxR (X : Cx) (r : R2) : Prop :=
 ∀ (value slice : Expr) (pins : List (Addr × Obj)) (s : Shared) (σ : St) (H : Hp) (x y : V) (v u : Value) (Q : VK),Inv X pins σ H s → RelV x v → RelV y u → r x y H Q →
  subscripted slice false v u = operate [v,u] (getItem v u) → wpAny (model X.prog X.w) X.A (subscriptTail value slice v u) (EP X pins σ Q) X.xe s
noncomputable def MtR (X : Cx) (id : String) (r : V → List V → Hp → VK → Prop) : Prop :=
 ∀ (pins : List (Addr × Obj)) (s : Shared) (σ : St) (H : Hp) (x : V) (xs : List V) (v : Value) (us : List Value) (Q : VK),Inv X pins σ H s → RelV x v → Vals xs us → r x xs H Q →
  wpAny (model X.prog X.w) X.A (call (.builtin id) (v :: us)) (EP X pins σ Q) X.xe s
section
variable {X : Cx} {a b : Expr} {ta tb : TE} {pos : Pos}
theorem Jx {r : R2} (hr : IxR X r) (ha : PE X a ta) (hb : PE X b tb) (hs : J8J b) : PE X (.Subscript a b pos) (tOp r ta tb):=by
 intro pins s σ H Q I h
 exact Subscript_ (binT ha hb I h fun v u s2 x y H2 I2 rx ry q=>hr a b pins s2 σ H2 x y v u Q I2 rx ry q (hs _ _))
noncomputable def rIxL (K : PySem.W.Frag) : R2:=fun x y H Q=>∃ p xs i v,x = .ref p ∧ y = .int i ∧ SqL K H p xs ∧ atI xs i = some v ∧ Q v H
noncomputable def rIxT (K : PySem.W.Frag) : R2:=fun x y H Q=>∃ p xs i v,x = .ref p ∧ y = .int i ∧ SqT K H p xs ∧ atI xs i = some v ∧ Q v H
noncomputable def rIxS : R2:=fun x y H Q=>∃ z i c,x = .str z ∧ y = .int i ∧ z.length ≤ sizeLine ∧ atI z.cps.toList i = some c ∧ Q (.str ⟨#[c]⟩) H
theorem J8W : IxR X (rIxL X.K):=by
 intro value slice pins s σ H x y v u Q I rx ry h hs
 obtain ⟨p,xs,i,z,rfl,rfl,hq,he,q⟩:=h
 cases rx
 obtain ⟨t,rfl⟩:=ry
 obtain ⟨its,r,pl,hz⟩:=I.list hq
 obtain ⟨j,h1,h2,h3,h4,h5⟩:=J52 he
 obtain ⟨w,ew,rw'⟩:=r.get h2
 have hl:=r.length
 have hn:=J3Y
 have fin : EP X pins σ Q w s:=⟨z,H,I,rw',q⟩
 by_cases h0 : 0 ≤ i
 ·have hj : i.toNat = j:=by
   rw [seqIndex_of h0 h5] at h1
   exact Option.some.inj h1
  exact item_listR pl.isList h0 (by omega) (by rw [hj]; simpa using ew) fin hs
 ·have hj : (i + (its.toArray.size : Int)).toNat = j:=by
   rw [seqIndex_neg (by omega) h4] at h1
   rw [List.size_toArray,← hl]
   exact Option.some.inj h1
  exact subscriptTail_builtinR (x:=w) pl.isList.typeIs slot_list_getitem.lookup
   (wpAny_getItem_list_neg (Q:=fun r s'=>r = w ∧ EP X pins σ Q r s') pl.isList (by omega) (by rw [List.size_toArray] <;> omega) (by omega) (by rw [hj]; simpa using ew) ⟨rfl,fin⟩) hs
theorem J9B : IxR X (rIxT X.K):=by
 intro value slice pins s σ H x y v u Q I rx ry h hs
 obtain ⟨p,xs,i,z,rfl,rfl,hq,he,q⟩:=h
 cases rx
 obtain ⟨t,rfl⟩:=ry
 obtain ⟨its,r,pl,hz⟩:=I.tuple hq
 obtain ⟨j,h1,h2,h3,h4,h5⟩:=J52 he
 obtain ⟨w,ew,rw'⟩:=r.get h2
 have hl:=r.length
 have hn:=J3Y
 have fin : EP X pins σ Q w s:=⟨z,H,I,rw',q⟩
 exact subscriptTail_builtinR (x:=w) pl.typeIs slot_tuple_getitem.lookup
  (getItem_tuple (j:=j) (Q:=fun r s'=>r = w ∧ EP X pins σ Q r s') pl (by omega) (by omega) (by rw [List.size_toArray,← hl]; exact h1) (by simpa using ew) ⟨rfl,fin⟩) hs
theorem J9Q : IxR X rIxS:=by
 intro value slice pins s σ H x y v u Q I rx ry h hs
 obtain ⟨z,i,c,rfl,rfl,hz,he,q⟩:=h
 obtain ⟨t,rfl⟩:=rx
 obtain ⟨t',rfl⟩:=ry
 obtain ⟨j,h1,h2,h3,h4,h5⟩:=J52 he
 have hl : z.cps.toList.length = z.length:=by simp [Str.length]
 rw [hl] at h1 h4 h5
 have hn:=J3Y
 exact tail_any (typeIs_str s z t) slot_str_getitem.lookup (getItem_str (c:=c) (by
  have e1 : decide (i < -(2 ^ 63 : Int)) = false:=decide_eq_false (by omega)
  have e2 : decide (i ≥ 2 ^ 63) = false:=decide_eq_false (by omega)
  rw [e1,e2,Bool.or_false]) (by rw [h1]; simpa using h2) ⟨.str ⟨#[c]⟩,H,I.tok _,⟨_,rfl⟩,q⟩) hs
theorem J4V (lo hi : Option Int) (n : Nat) : (sliceBounds lo hi none n).1 = ((HT.sIx n 0 lo : Nat) : Int) ∧ (sliceBounds lo hi none n).2.1 = ((HT.sIx n n hi : Nat) : Int) ∧ (sliceBounds lo hi none n).2.2 = 1:=by
 refine ⟨?_,?_,rfl⟩
 ·cases lo with
  | none=>simp [sliceBounds,HT.sIx]
  | some i =>
   simp only [sliceBounds,HT.sIx,Option.getD_none,show (1 : Int) > 0 by decide,if_true]
   by_cases h : i < 0
   ·simp only [h,if_true] <;> omega
   ·simp only [h,if_false] <;> omega
 ·cases hi with
  | none=>simp [sliceBounds,HT.sIx]
  | some i =>
   simp only [sliceBounds,HT.sIx,Option.getD_none,show (1 : Int) > 0 by decide,if_true]
   by_cases h : i < 0
   ·simp only [h,if_true] <;> omega
   ·simp only [h,if_false] <;> omega
theorem J4e (its : List Value) (lo hi : Option Int) : slicePick its.toArray lo hi none = ((its.drop (HT.sIx its.length 0 lo)).take (HT.sIx its.length its.length hi - HT.sIx its.length 0 lo)).toArray:=by
 obtain ⟨h1,h2,h3⟩:=J4V lo hi its.toArray.size
 unfold slicePick
 rw [h1,h2,h3]
 simp only [sliceRange_one,pick_run,List.size_toArray] <;> rfl
noncomputable def rSlL (K : PySem.W.Frag) : V → Option Int → Option Int → Hp → VK → Prop:=fun x lo hi H Q=>∃ a xs,x = .ref a ∧ SqL K H a xs ∧ ∀ p,H p = none → Q (.ref p) (upd H p (.lst (cutV xs lo hi)))
theorem J8Z : SlR X (rSlL X.K):=by
 intro pins s σ H x v vl vu lo hi sl Q I rx hs pl pu h
 obtain ⟨a,xs,rfl,hx,q⟩:=h
 cases rx
 obtain ⟨its,r,ht,hz⟩:=I.list hx
 have hlen:=r.length
 refine ⟨"list",_,slot_list_getitem.lookup,ht.isList.typeIs,?_⟩
 refine wpAny_getItem_list_slice ht.isList hs pl pu .none (by simp) ?_ (by rw [List.size_toArray] <;> omega)
 rw [J4e,← hlen]
 refine ⟨.ref s.heap.objs.size,_,I.laid (t':=s.toks) (o:=.lst (cutV xs lo hi)) (fun b ob q=>Heap.get?_push_of_some _ q) (Nat.le_refl _) ?_,rfl,q _ (I.hok.fresh (Nat.le_refl _))⟩
 exact ⟨Nat.le_trans (J5K xs lo hi) hz,_,0,(r.drop (HT.sIx xs.length 0 lo)).take (HT.sIx xs.length xs.length hi - HT.sIx xs.length 0 lo),Heap.get?_push_size _ rfl⟩
noncomputable def JZ : V → Bool
 | .non=>true
 | .bl _=>true
 | .int _=>true
 | .str _=>true
 | _=>false
noncomputable def eqV : V → V → Bool
 | .non,.non=>true
 | .bl a,.bl b=>a == b
 | .bl a,.int b=>(if a then 1 else 0) == b
 | .int a,.bl b=>a == (if b then 1 else 0)
 | .int a,.int b=>a == b
 | .str a,.str b=>a == b
 | _,_=>false
theorem J8y {A : Around} {s : Shared} {y x : V} {u v : Value} (ry : RelV y u) (rx : RelV x v) (fy : JZ y = true) (fx : JZ x = true) : SeqAt.EqAt A s u v (eqV y x):=by
 cases y with
 | non =>
  cases ry
  cases x with
  | non=>cases rx; exact SeqAt.EqAt.same _
  | bl b=>cases rx; exact SeqAt.EqAt.none_bool b
  | int b=>obtain ⟨t,rfl⟩:=rx; exact SeqAt.EqAt.none_int b t
  | str b=>obtain ⟨t,rfl⟩:=rx; exact SeqAt.EqAt.none_str b t
  | _=>exact absurd (show false = true from fx) Bool.false_ne_true
 | bl a =>
  cases ry
  cases x with
  | non=>cases rx; exact SeqAt.EqAt.bool_none a
  | bl b=>cases rx; exact SeqAt.EqAt.bool_bool a b
  | int b=>obtain ⟨t,rfl⟩:=rx; exact SeqAt.EqAt.bool_int a b t
  | str b=>obtain ⟨t,rfl⟩:=rx; exact SeqAt.EqAt.bool_str a b t
  | _=>exact absurd (show false = true from fx) Bool.false_ne_true
 | int a =>
  obtain ⟨t',rfl⟩:=ry
  cases x with
  | non=>cases rx; exact SeqAt.EqAt.int_none a t'
  | bl b=>cases rx; exact SeqAt.EqAt.int_bool a t' b
  | int b=>obtain ⟨t,rfl⟩:=rx; exact SeqAt.EqAt.int_int a t' b t
  | str b=>obtain ⟨t,rfl⟩:=rx; exact SeqAt.EqAt.int_str a t' b t
  | _=>exact absurd (show false = true from fx) Bool.false_ne_true
 | str a =>
  obtain ⟨t',rfl⟩:=ry
  cases x with
  | non=>cases rx; exact SeqAt.EqAt.str_none a t'
  | bl b=>cases rx; exact SeqAt.EqAt.str_bool a t' b
  | int b=>obtain ⟨t,rfl⟩:=rx; exact SeqAt.EqAt.str_int a t' b t
  | str b=>obtain ⟨t,rfl⟩:=rx; exact SeqAt.EqAt.str_str a t' b t
  | _=>exact absurd (show false = true from fx) Bool.false_ne_true
 | _=>exact absurd (show false = true from fy) Bool.false_ne_true
noncomputable def eqU (x : V) (u : Value) : Bool:=match u with
 | .none=>eqV .non x
 | .bool b=>eqV (.bl b) x
 | .int i _=>eqV (.int i) x
 | .str z _=>eqV (.str z) x
 | _=>false
theorem J6n {x y : V} {u : Value} (r : RelV y u) (f : JZ y = true) : eqU x u = eqV y x:=by
 cases y with
 | non=>cases r; rfl
 | bl b=>cases r; rfl
 | int i=>obtain ⟨t,rfl⟩:=r; rfl
 | str z=>obtain ⟨t,rfl⟩:=r; rfl
 | _=>exact absurd (show false = true from f) Bool.false_ne_true
theorem J4Q {x : V} : ∀ {xs : List V} {us : List Value},Vals xs us → xs.all JZ = true → us.any (eqU x) = xs.any fun y=>eqV y x
 | _,_,.nil,_=>rfl
 | y :: xs,u :: us,.cons r t,f=>by
  rw [List.all_cons,Bool.and_eq_true] at f
  rw [List.any_cons,List.any_cons,J6n r f.1,J4Q t f.2]
theorem J2E {A : Around} {s : Shared} {x : V} {v : Value} (rx : RelV x v) (fx : JZ x = true) : ∀ {xs : List V} {us : List Value},Vals xs us → xs.all JZ = true → ∀ u ∈ us,SeqAt.EqAt A s u v (eqU x u)
 | _,_,.nil,_=>fun u hu=>by cases hu
 | y :: xs,u :: us,.cons r t,f=>fun u' hu=>by
  rw [List.all_cons,Bool.and_eq_true] at f
  rcases List.mem_cons.mp hu with rfl | hu
  ·rw [J6n r f.1]; exact J8y r rx f.1 fx
  ·exact J2E rx fx t f.2 u' hu
noncomputable def inV (x : V) (xs : List V) : Bool:=xs.any fun y=>eqV y x
noncomputable def rIn (K : PySem.W.Frag) (neg : Bool) : R2:=fun x y H Q=>∃ p xs,y = .ref p ∧ (SqL K H p xs ∨ SqT K H p xs) ∧ JZ x = true ∧ xs.all JZ = true ∧ Q (.bl (if neg then !inV x xs else inV x xs)) H
theorem J6S : OpR X (compareOp .In) (rIn X.K false):=by
 intro pins s σ H x y v u Q I rx ry h
 obtain ⟨p,xs,rfl,hq,fx,fs,q⟩:=h
 cases ry
 rcases hq with hq | hq
 ·obtain ⟨its,r,pl,hz⟩:=I.list hq
  refine SeqAt.in_listAt (eqU x) pl.isList (fun w hw=>J2E rx fx r fs w (by simpa using hw)) ⟨.bl _,H,I,rfl,?_⟩
  rw [show its.toArray.any (eqU x) = its.any (eqU x) by simp,J4Q r fs]
  exact q
 ·obtain ⟨its,r,pl,hz⟩:=I.tuple hq
  refine SeqAt.in_tupleAt (eqU x) pl (fun w hw=>J2E rx fx r fs w (by simpa using hw)) ⟨.bl _,H,I,rfl,?_⟩
  rw [show its.toArray.any (eqU x) = its.any (eqU x) by simp,J4Q r fs]
  exact q
theorem J54 : J1R X (.builtin "len") (fun xs H Q=>∃ p ys,xs = [.ref p] ∧ (SqL X.K H p ys ∨ SqT X.K H p ys) ∧ Q (.int ys.length) H):=by
 intro pins s σ H xs us Q I r h
 obtain ⟨p,ys,rfl,hq,q⟩:=h
 obtain ⟨u,rfl,rx⟩:=J6u r
 cases rx
 have hn:=J3Y
 rcases hq with hq | hq
 ·obtain ⟨its,r',pl,hz⟩:=I.list hq
  have hlen:=r'.length
  exact Calls.call_len_list pl.isList (by simp only [List.size_toArray] <;> omega) ⟨.int ys.length,H,I.tok _,⟨s.toks + 1,by rw [List.size_toArray,hlen]⟩,q⟩
 ·obtain ⟨its,r',pl,hz⟩:=I.tuple hq
  have hlen:=r'.length
  exact len_tuple pl (by simp only [List.size_toArray] <;> omega) ⟨.int ys.length,H,I.tok _,⟨s.toks + 1,by rw [List.size_toArray,hlen]⟩,q⟩
theorem J50 : J1R X (.builtin "len") (fun xs H Q=>∃ z,xs = [.str z] ∧ z.length ≤ sizeLine ∧ Q (.int z.length) H):=by
 intro pins s σ H xs us Q I r h
 obtain ⟨z,rfl,hz,q⟩:=h
 obtain ⟨u,rfl,t,rfl⟩:=J6u r
 have hn:=J3Y
 exact len_str (by omega) ⟨.int z.length,H,I.tok _,⟨_,rfl⟩,q⟩
theorem J0b : J1R X (.type "list") (fun xs H Q=>∃ p ys,xs = [.ref p] ∧ (SqL X.K H p ys ∨ SqT X.K H p ys) ∧ ∀ l,H l = none → Q (.ref l) (upd H l (.lst ys))):=by
 intro pins s σ H xs us Q I r h
 obtain ⟨p,ys,rfl,hq,q⟩:=h
 obtain ⟨u,rfl,rx⟩:=J6u r
 cases rx
 have fin : ∀ (its : List Value),Vals ys its → ys.length ≤ sizeLine → ∀ (h' : Heap) (c' : Nat),(∀ b o',s.heap.get? b = some o' → h'.get? b = some o') →
   h'.get? s.heap.objs.size = some { cls:=.type "list",dict:=none,data:=.seq its.toArray c',slots:=#[] } → EP X pins σ Q (.ref s.heap.objs.size) { s with heap:=h' }:=fun its r' hz h' c' kp e =>
  ⟨.ref s.heap.objs.size,_,I.laid (t':=s.toks) kp (Nat.le_refl _) (show J1k X.prog X.w _ h' _ (.lst ys) from ⟨hz,its,c',r',e⟩),rfl,q _ (I.hok.fresh (Nat.le_refl _))⟩
 rcases hq with hq | hq
 ·obtain ⟨its,r',pl,hz⟩:=I.list hq
  have hlen:=r'.length
  obtain ⟨o,ho,hc,n,hd⟩:=pl.isList
  exact call_list_seq p (.inl rfl) ho hc hd (fun h' c' kp e=>fin its r' hz h' c' kp e) (by simp only [List.size_toArray] <;> omega)
 ·obtain ⟨its,r',pl,hz⟩:=I.tuple hq
  have hlen:=r'.length
  obtain ⟨o,ho,hc,n,hd⟩:=pl
  exact call_list_seq p (.inr rfl) ho hc hd (fun h' c' kp e=>fin its r' hz h' c' kp e) (by simp only [List.size_toArray] <;> omega)
noncomputable def tyV (K : PySem.W.Frag) (T : String) (x : V) (H : Hp) : Prop:=match x with
 | .str _=>T = "str"
 | .int _=>T = "int"
 | .ref p=>(T = "list" ∧ ∃ xs,SqL K H p xs) ∨ (T = "tuple" ∧ ∃ o,K.lookup p = some o ∧ o.cls = .type "tuple" ∧ o.dict = none) ∨
   (T = "dict" ∧ ((∃ kvs,H p = some (.dK kvs)) ∨ ∃ kvs,H p = some (.dT kvs))) ∨ (T = "set" ∧ ∃ S n,H p = some (.set S n))
 | _=>False
theorem Ja3 {pins : List (Addr × Obj)} {σ : St} {H : Hp} {s : Shared} {T : String} {x : V} {v : Value} (I : Inv X pins σ H s) (r : RelV x v) (ty : tyV X.K T x H) :
  s.TypeIs v T ∧ ∀ a,v = .ref a → ∃ ob,s.heap.get? a = some ob ∧ ob.dict = none:=by
 cases x with
 | str z =>
  obtain ⟨t,rfl⟩:=r
  cases (show T = "str" from ty)
  exact ⟨typeIs_str s z t,fun _ e=>nomatch e⟩
 | int i =>
  obtain ⟨t,rfl⟩:=r
  cases (show T = "int" from ty)
  exact ⟨typeIs_int s i t,fun _ e=>nomatch e⟩
 | ref p =>
  cases r
  rcases ty with ⟨rfl,xs,hq⟩ | ⟨rfl,o,hk,hc,hd⟩ | ⟨rfl,hk⟩ | ⟨rfl,S,n,hk⟩
  ·obtain ⟨its,_,pl,_⟩:=I.list hq
   refine ⟨pl.isList.typeIs,fun a e=>?_⟩
   cases e
   obtain ⟨o,n,e,c,hd,_⟩:=pl
   exact ⟨o,e,hd⟩
  ·refine ⟨⟨o,I.kIn p o hk,hc⟩,fun a e=>?_⟩
   cases e
   exact ⟨o,I.kIn _ o hk,hd⟩
  ·have z : ∃ o,s.heap.get? p = some o ∧ o.ExactDict:=by
    rcases hk with ⟨kvs,hk⟩ | ⟨kvs,hk⟩
    ·obtain ⟨_,_,_,_,o,_,_,e,ex,_⟩:=I.hok p _ hk
     exact ⟨o,e,ex⟩
    ·obtain ⟨_,_,_,_,o,_,_,e,ex,_⟩:=I.hok p _ hk
     exact ⟨o,e,ex⟩
   obtain ⟨o,e,ex⟩:=z
   refine ⟨⟨o,e,ex.1⟩,fun a e2=>?_⟩
   cases e2
   exact ⟨o,e,ex.2.1⟩
  ·obtain ⟨o,_,_,_,e,ex,_⟩:=I.hok p _ hk
   refine ⟨⟨o,e,ex.1⟩,fun a e2=>?_⟩
   cases e2
   exact ⟨o,e,ex.2.1⟩
 | _=>exact False.elim ty
noncomputable def tBM (K : PySem.W.Frag) (T : String) (r : V → List V → Hp → VK → Prop) (to : TE) (t : TA) : TE:=fun σ H Q=>to σ H fun x H1=>tyV K T x H1 ∧ t σ H1 fun xs H2=>r x xs H2 Q
variable {o e : Expr} {es : List Expr} {to : TE} {t : TA} {name : Str} {apos cpos : Pos} {T id : String} {r : V → List V → Hp → VK → Prop}
theorem J3e (pa : PlainAttrs T) (slot : Slot T name id) (hty : typeOf (.builtin id) = pure (.type "method_descriptor")) (hm : MtR X id r) (ho : PE X o to) (ha : PA X (e :: es) t)
  (hbase : attributeBase o name X.env (eval o X.env) = eval o X.env:=by rfl)
  (hfew : ((backTo cpos (starEach (e :: es) X.env)).all (fun x=>!x.1) && (backToKw cpos (keywordEach [] X.env)).all (fun x=>x.1.isSome)
   && decide ((e :: es).length + ([] : List Keyword).length + (if ([] : List Keyword).isEmpty then 0 else 1) < 30)) = true:=by rfl)
  (hline : (apos.endLine == cpos.line) = true:=by rfl) (hs : starEach (e :: es) X.env = (false,eval e X.env) :: starEach es X.env:=by rfl) (hplain : (backTo cpos (starEach es X.env)).any (·.1) = false:=by rfl) :
  PE X (.Call (.Attribute o name apos) (e :: es) [] cpos) (tBM X.K T r to t):=by
 intro pins s σ H Q I h
 refine wpAny_Call_method_late hbase hfew hline rfl (thn (ho pins s σ H _ I h) fun v s1 ⟨x,H1,I1,r1,ty,q1⟩=>?_)
 obtain ⟨h1,h2⟩:=Ja3 I1 r1 ty
 refine ⟨T,id,pa,slot,hty,h1,h2,?_⟩
 have hA:=ha cpos pins s1 σ H1 _ I1 q1
 rw [hs] at hA ⊢
 refine Calls.callWith_builtin (by show (false || (backTo cpos (starEach es X.env)).any (·.1)) = false; rw [hplain] <;> rfl) (Calls.evalArgs_plain ?_)
 exact thn hA fun us s2 ⟨vs,H2,I2,r2,q2⟩=>hm pins s2 σ H2 x vs v us Q I2 r1 r2 q2
end
end L2
namespace L2
open PySem PySem.Spec PyProof.Rows
noncomputable def MtM (X : Cx) (id : String) (r : V → List V → Hp → VK → Prop) : Prop :=
 ∀ (pins : List (Addr × Obj)) (s : Shared) (σ : St) (H : Hp) (x : V) (xs : List V) (v : Value) (us : List Value) (Q : VK),Inv X pins σ H s → RelV x v → Vals xs us → r x xs H Q →
  wpAny (model X.prog X.w) X.A (call (.builtin id) (v :: us)) (EP X pins σ Q) X.xe s
theorem Vals.one : ∀ {x : V} {us : List Value},Vals [x] us → ∃ u,us = [u] ∧ RelV x u
 | _,_,.cons r .nil=>⟨_,rfl,r⟩
theorem Vals.two : ∀ {x y : V} {us : List Value},Vals [x,y] us → ∃ u v,us = [u,v] ∧ RelV x u ∧ RelV y v
 | _,_,_,.cons r (.cons q .nil)=>⟨_,_,rfl,r,q⟩
section
variable {X : Cx} {pins : List (Addr × Obj)} {σ : St} {H : Hp} {s : Shared} {l b : Addr} {xs ys zs : List V}
theorem Inv.lset {its its' : List Value} {n : Nat} {f : Array Value → Array Value} {t' : Nat} (I : Inv X pins σ H s) (hH : H l = some (.lst xs))
  (e : s.heap.get? l = some { cls:=.type "list",data:=.seq its.toArray n }) (hf : f its.toArray = its'.toArray) (hv : Vals ys its') (hz : ys.length ≤ sizeLine) :
  Inv X pins σ (upd H l (.lst ys)) { s with heap:=s.heap.update l (Obj.mapSeq f),toks:=t' }:=by
 have q:=PySem.IsL.update e f
 rw [hf] at q
 refine I.write (x:=l) (e:=l) (by rw [hH]; exact trivial) (.inl rfl) (fun b' u hb hu=>(Heap.get?_update_other s.heap (Obj.mapSeq f) (Ne.symm hb)).trans hu) ⟨_,q⟩ ?_
 exact ⟨hz,its',_,hv,q⟩
theorem Inv.lnew {its : List Value} {t' : Nat} (I : Inv X pins σ H s) (hv : Vals ys its) (hz : ys.length ≤ sizeLine) :
  Inv X pins σ (upd H s.heap.objs.size (.lst ys)) { s with heap:=s.heap.push { cls:=.type "list",data:=.seq its.toArray },toks:=t' } :=
 I.laid (fun _ _ q=>Heap.get?_push_of_some _ q) (Nat.le_refl _) ⟨hz,its,0,hv,Heap.get?_push_size _ rfl⟩
theorem Inv.fresh (I : Inv X pins σ H s) : H s.heap.objs.size = none:=I.hok.fresh (Nat.le_refl _)
theorem Inv.lstM (I : Inv X pins σ H s) (hH : H l = some (.lst xs)) : xs.length ≤ sizeLine ∧ ∃ (its : List Value) (n : Nat),Vals xs its ∧ xs.length = its.length ∧ s.heap.get? l = some { cls:=.type "list",data:=.seq its.toArray n }:=by
 obtain ⟨z,its,n,r,e⟩:=I.hok l _ hH
 exact ⟨z,its,n,r,r.length,e⟩
theorem J8q {n : Nat} (h : n ≤ sizeLine) : Builtin.List.listTooLong n = false:=by
 unfold Builtin.List.listTooLong
 exact decide_eq_false (by omega)
end
section
variable {X : Cx}
noncomputable def J8I : V → List V → Hp → VK → Prop:=fun x vs H Q=>∃ l xs y,x = .ref l ∧ vs = [y] ∧ H l = some (.lst xs) ∧ xs.length < sizeLine ∧ Q .non (upd H l (.lst (xs ++ [y])))
theorem J1s : MtM X "list.append" J8I:=by
 intro pins s σ H x vs v us Q I rx rv h
 obtain ⟨l,xs,y,rfl,rfl,hH,hz,q⟩:=h
 cases rx
 obtain ⟨u,rfl,ru⟩:=rv.one
 obtain ⟨z,its,n,r,hl,e⟩:=I.lstM hH
 refine call_meets F.slot_list_append ⟨_,e,rfl⟩ F.entry_list_append (F.args_list_append_2 _ _) (PySem.list_append l its.toArray n u (by rw [List.size_toArray]; omega)) ⟨e,?_⟩
 refine ⟨.non,_,I.lset (its':=its ++ [u]) hH e (by simp) (r.append (.cons ru .nil)) ?_,rfl,q⟩
 rw [List.length_append,List.length_singleton]
 omega
noncomputable def rCat : R2:=fun x y H Q=>∃ l b xs zs,x = .ref l ∧ y = .ref b ∧ H l = some (.lst xs) ∧ H b = some (.lst zs) ∧ xs.length + zs.length ≤ sizeLine ∧ ∀ p,H p = none → Q (.ref p) (upd H p (.lst (xs ++ zs)))
theorem J9V : OpR X (binaryOp .Add) rCat:=by
 intro pins s σ H x y v u Q I rx ry h
 obtain ⟨l,b,xs,zs,rfl,rfl,hH,hB,hz,q⟩:=h
 cases rx
 cases ry
 obtain ⟨z,its,n,r,hl,e⟩:=I.lstM hH
 obtain ⟨z2,its2,n2,r2,hl2,e2⟩:=I.lstM hB
 refine PySem.P.add_list e e2 ?_ (by rw [List.size_toArray,List.size_toArray]; omega)
 have ea : its.toArray ++ its2.toArray = (its ++ its2).toArray:=by simp
 rw [ea]
 exact ⟨.ref _,_,I.lnew (t':=s.toks) (r.append r2) (by rw [List.length_append]; omega),rfl,q _ I.fresh⟩
end
section
variable {prog : Program} {w : World} {A : Around} {E : Value → Shared → Prop} {s : Shared}
end
section
variable {X : Cx}
end
end L2
namespace Att
open PySem PySem.W PySem.Calls PyProof.Rows
theorem J3g {P : Params} {h : Heap} : ∀ (ns : List Int) (vs : List Value),WellAll P h vs (ns.map WData.int) → IntsAre vs ns:=by
 intro ns
 induction ns with
 | nil =>
  intro vs w
  rw [List.map_nil] at w
  cases w
  exact .nil
 | cons n ns ih =>
  intro vs w
  rw [List.map_cons] at w
  cases w with
  | cons a b =>
   cases a
   exact .cons _ _ (ih _ b)
theorem J6Q {l : OpenLaw} {n : Nat} (hn : l.most = some n) {P : Params} {h : Heap} {args : List WData} {vals : List Value}
  (hpre : l.row.toRowW.claim.pre args = true) (hwl : WellAll P h vals args) :
  ∃ a vs ns,vals = [Value.ref a] ∧ args = [WData.list (ns.map WData.int)] ∧ h.get? a = some { cls:=.type "list",data:=.seq vs.toArray } ∧ IntsAre vs ns ∧ ns.length ≤ n:=by
 have hsh : WShape.hasAll [] args [.list .int] = true:=(pre_splitW hpre).1
 have hc : l.pre.holds [] { args:=args } = true:=(pre_splitW hpre).2
 obtain ⟨d,r,rfl,h1,h2⟩:=hasAllW_cons hsh
 obtain rfl:=hasAllW_nil h2
 obtain ⟨xs,rfl,h3⟩:=hasW_list h1
 obtain ⟨ns,rfl⟩:=items_int h3
 have hlen : ns.length ≤ n:=by
  unfold OpenLaw.pre at hc
  have h4 : (WTm.not (.lt (.lit (.int (n : Int))) (.len (.arg 0)))).holds [] { args:=[.list (ns.map .int)] } = true:=by
   have h4:=(holds_andW hc).1
   rw [hn] at h4
   exact h4
  have h5:=condW_of h4 (w_not (w_lt w_lit (w_len_list (w_arg rfl))))
  rw [List.length_map] at h5
  refine Nat.le_of_not_lt fun q=>?_
  have q' : (n : Int) < ((ns.length : Nat) : Int):=by omega
  first
   | (rw [decide_eq_true q'] at h5; exact absurd h5 (by decide))
   | (simp at h5; omega)
 cases hwl with
 | cons w1 w2 =>
  cases w2
  cases w1 with
  | list ho hall=>exact ⟨_,_,ns,rfl,rfl,ho,J3g ns _ hall,hlen⟩
theorem J6O (l : OpenLaw) (args : List WData) : l.row.toRowW.claim.post args (.bool true) args = true :=
 postW_of (r:=l.row.toRowW) (X:=(true == true))
  (show WShape.has [] (.bool true) .bool = true by first | rfl | decide | simp [WShape.has,WShape.arms,WShape.armsAll])
  (show (WTm.eq .res (.lit (.bool true))).value [] { args:=args,res:=some (.bool true),after:=args } = some (.bool (true == true)) from w_eq_bool (w_res rfl) w_lit) rfl
theorem attach_call {l : OpenLaw} {n : Nat} {q : Program} {loose : List Str} {XP : (Str → Option Value) → Heap → Prop} {YP : World → Heap → Prop} {d : DefRec}
  (hn : l.most = some n) (hdf : d.params.defaults = [])
  (call : ∀ (w : World) (s₀ s₁ : Shared) (mg mb : Str → Option Value) (fa : Addr) (o : Obj) (pm cd doc : Value) (a : Addr) (vs : List Value) (ns : List Int),
   Ground q loose [] XP w s₀ mg mb s₁.heap → YP w s₁.heap →
   s₁.heap.get? fa = some o → o.data = .func (docDef d.name d.params d.body d.scope pm cd doc) → s₁.heap.CodeRec cd d.name → mg d.name = some (.ref fa) →
   s₁.heap.get? a = some { cls:=.type "list",data:=.seq vs.toArray } → IntsAre vs ns → ns.length ≤ n → s₁.gens = #[] →
   codeAny (model l.prog w) callerA (.call (.ref fa) ⟨[.ref a],[]⟩) (fun r s'=>r = .ok (.ret (.bool true)) ∧ OldK s₁.heap s'.heap ∧ s'.os = s₁.os ∧ AllBare s'.gens) s₁) :
  WalkO q loose XP YP l.row.toRowW d [] (fun f vs=>PySem.call f vs):=by
 intro w s₀ s₁ mg mb G Y fa o pm cd doc dV kV ho hd hcd hD hmg hg args vals as hpre hlay hrd hwl hlo
 obtain rfl : dV = .none:=Dflts.none hD hdf
 obtain rfl : kV = .none:=Dflts.noKw hD
 obtain ⟨a,vs,ns,rfl,rfl,hobj,hints,hlen⟩:=J6Q hn hpre hwl
 refine enter_call (codeAny_mono (call w s₀ s₁ mg mb fa o pm cd doc a vs ns G Y ho (fd_plain hd) hcd hmg hobj hints hlen hg) fun r s' hq=>?_)
 obtain ⟨rfl,h2,h3,h4⟩:=hq
 exact ⟨.inl ⟨.bool true,.bool true,[],rfl,fun _=>rfl,.bool true,J6O l _,fun _=>⟨List.Pairwise.nil,fun _ hm=>(nomatch hm)⟩⟩,h2,h3,h4⟩
section
variable {prog : Program} {w : World} {A : Around} {E : Value → Shared → Prop} {s : Shared} {K : Frag}
end
end Att
namespace L2
open PySem PySem.Spec PyProof.Rows
theorem J4w : ∀ {vs : List Value} {ns : List Int},IntsAre vs ns → Vals (ns.map V.int) vs
 | _,_,.nil=>.nil
 | _,_,.cons n t h=>.cons ⟨t,rfl⟩ (J4w h)
noncomputable def Only (H : Hp) : Prop:=∀ b,H b = none ∨ ∃ o xs,H b = some (.frz o (.lst xs))
theorem J8h {P : Program} {w : World} {K : PySem.W.Frag} {mg mb : Str → Option Value} {CX : CXT} {k : Nat} {fa a : Addr} {fd : FuncData} {x : Str} {sp : Sp} {s₁ : Shared} {vs : List Value} {ns : List Int}
  (KX : K.In s₁.heap) (hns : s₁.heap.Ns mainGlobals mg) (hb : s₁.heap.Ns builtinsNs mb) (hbb : ∀ x : Str,x ≠ "__name__" → mb x = bootBuiltins x) (hlim : s₁.heap.NoLimit) (hg : s₁.gens = #[])
  (ha : s₁.heap.get? a = some { cls:=.type "list",data:=.seq vs.toArray }) (hi : IntsAre vs ns) (hl : ns.length ≤ sizeLine) (hr : Room k callerA)
  (F : ∀ base : Heap,K.In base → base.Ns mainGlobals mg → FnOk P w K mg base CX k fa fd [x] sp) (hbind : ∀ (s : Shared) (u : Value),BindsTo s fd ⟨[u],[]⟩ [(x,u)])
  (hsp : ∀ H : Hp,Only H → SqL K H a (ns.map V.int) → sp [.ref a] H (fun v _=>v = .bl true) fun _ _ _=>False)
  (hCX : ∀ H e s',CX [] H s₁ (fun _ _ _=>False) e s' → False) :
  codeAny (model P w) callerA (.call (.ref fa) ⟨[.ref a],[]⟩) (fun r s'=>r = .ok (.ret (.bool true)) ∧ OldK s₁.heap s'.heap ∧ s'.os = s₁.os ∧ AllBare s'.gens) s₁:=by
 have rv:=J4w hi
 have lenV:=hi.length
 have core : ∀ H : Hp,Only H → SqL K H a (ns.map V.int) → HOk P w H s₁.heap → (∀ b,H b ≠ none → b = a) → (H a ≠ none → K.lookup a = none) →
   codeAny (model P w) callerA (.call (.ref fa) ⟨[.ref a],[]⟩) (fun r s'=>r = .ok (.ret (.bool true)) ∧ OldK s₁.heap s'.heap ∧ s'.os = s₁.os ∧ AllBare s'.gens) s₁:=by
  intro H hO hS hok hA hK
  have base_of : ∀ {b : Addr} {o : Obj},s₁.heap.get? b = some o → H b = none → (hidT s₁.heap H).get? b = some o:=fun e n=>J7R e n
  have noA : ∀ {b : Addr} {o : Obj} {es : Array DictEntry} {ep : Nat},s₁.heap.get? b = some o → o.data = .dict es ep → H b = none:=fun {b o es ep} e d=>by
   cases q : H b with
   | none=>rfl
   | some u =>
    have e' : b = a:=hA b (by rw [q]; simp)
    subst e'
    rw [ha] at e; cases e
    have d' : Data.seq vs.toArray _ = Data.dict es ep:=d
    cases d'
  have nsK : ∀ {b : Addr} {m : Str → Option Value},s₁.heap.Ns b m → (hidT s₁.heap H).Ns b m:=fun {b m} ⟨o,es,ep,e,d,r⟩=>⟨o,es,ep,base_of e (noA e d),d,r⟩
  have hKb : K.In (hidT s₁.heap H):=fun b o e=>base_of (KX b o e) (by
   cases q : H b with
   | none=>rfl
   | some u =>
    have e' : b = a:=hA b (by rw [q]; simp)
    subst e'
    rw [hK (by rw [q]; simp)] at e; cases e)
  have hM : Mod K mg (hidT s₁.heap H):=⟨hKb,nsK hns,⟨mb,nsK hb,hbb⟩,let ⟨mc,h1,h2⟩:=hlim; ⟨mc,nsK h1,h2⟩⟩
  have e0 : Env0 P w K mg (hidT s₁.heap H) callerA [] s₁ H:=⟨rfl,hM,fun b o e=>J8O e,Nat.le_of_eq (J78 _ _),trivial,fun b hb=>absurd (show b ∈ ([] : List Addr) from hb) (by simp),hok,.of_eq hg⟩
  refine codeAny_mono ((F _ hKb (nsK hns)).run callerA [] s₁ H ⟨[.ref a],[]⟩ [.ref a] [.ref a] _ _ hr e0 (hbind s₁ (.ref a)) (.cons rfl .nil) (hsp H hO hS)) fun r s' h=>?_
  cases r with
  | error e=>exact (hCX H e s' h).elim
  | ok fl =>
   cases fl with
   | next=>exact False.elim h
   | brk=>exact False.elim h
   | cont=>exact False.elim h
   | ret u =>
    obtain ⟨v,H',os,bare,un,hok',r',q⟩:=h
    have q' : v = .bl true:=q
    subst q'
    obtain rfl : u = Value.bool true:=r'
    refine ⟨rfl,OldK.of_keep fun b o e=>?_,os,bare⟩
    cases q : H b with
    | none=>exact un.keep b o e q (by intro z; exact absurd (show b ∈ ([] : List Addr) from z) (by simp)) (by simp)
    | some u =>
     rcases hO b with z | ⟨ob,xs,z⟩
     ·rw [q] at z; cases z
     ·have z2:=un.frzs b ob _ z
      obtain ⟨e1,_⟩:=hok b _ z
      obtain ⟨e2,_⟩:=hok' b _ z2
      rw [e] at e1; cases e1
      exact e2
 cases hk : K.lookup a with
 | some o =>
  have e:=KX a o hk
  rw [ha] at e
  cases e
  refine core (fun _=>none) (fun _=>.inl rfl) (.inr ⟨_,vs.toArray,_,hk,rfl,rfl,rfl,by rw [List.size_toArray,lenV]; exact hl,by simpa using rv⟩) (fun b u z=>by have z' : (none : Option HO) = some u:=z; cases z') (fun b z=>absurd rfl z) fun z=>absurd rfl z
 | none =>
  refine core (fun b=>if b = a then some (.frz { cls:=.type "list",data:=.seq vs.toArray } (.lst (ns.map V.int))) else none) (fun b=>?_) (.inl (.inr ⟨{ cls:=.type "list",data:=.seq vs.toArray },if_pos rfl⟩)) (fun b u z=>?_) (fun b z=>?_) fun _=>hk
  ·by_cases hb : b = a
   ·exact .inr ⟨_,_,if_pos hb⟩
   ·exact .inl (if_neg hb)
  ·by_cases hb : b = a
   ·have z':=(if_pos hb).symm.trans z
    cases z'
    subst hb
    exact ⟨ha,by rw [List.length_map]; exact hl,vs,_,rv,ha⟩
   ·have z':=(if_neg hb).symm.trans z
    cases z'
  ·by_cases hb : b = a
   ·exact hb
   ·exact absurd (if_neg hb) z
end L2
namespace L2
open PySem PySem.Spec PyProof.Rows
theorem walk_of {l : PySem.W.OpenLaw} {n k : Nat} {q : Program} {loose : List Str} {XP : (Str → Option Value) → Heap → Prop} {YP : World → Heap → Prop} {d : DefRec} {K : Params → PySem.W.Frag} {CX : World → CXT} {sp : World → Sp} {x : Str}
  (hn : l.most = some n) (hn2 : n ≤ sizeLine) (hdf : d.params.defaults = []) (hr : Room k callerA)
  (hY : ∀ (w : World) (h : Heap),YP w h → (K w.params).In h)
  (F : ∀ (w : World) (mg : Str → Option Value) (fa : Addr) (h : Heap),(K w.params).In h → h.Ns mainGlobals mg → mg d.name = some (.ref fa) →
   ∃ fd : FuncData,(∀ (s : Shared) (u : Value),BindsTo s fd ⟨[u],[]⟩ [(x,u)]) ∧
    ∀ base : Heap,(K w.params).In base → base.Ns mainGlobals mg → FnOk l.prog w (K w.params) mg base (CX w) k fa fd [x] (sp w))
  (hsp : ∀ (w : World) (H : Hp) (a : Addr) (ns : List Int),ns.length ≤ n → Only H → SqL (K w.params) H a (ns.map V.int) → sp w [.ref a] H (fun v _=>v = .bl true) fun _ _ _=>False)
  (hCX : ∀ (w : World) (H : Hp) (s : Shared) (e : Value) (s' : Shared),CX w [] H s (fun _ _ _=>False) e s' → False) :
  PySem.W.WalkO q loose XP YP l.row.toRowW d [] (fun f vs=>PySem.call f vs):=by
 refine Att.attach_call hn hdf fun w s₀ s₁ mg mb fa o pm cd doc a vs ns G Y ho hd hcd hmg hobj hints hlen hg=>?_
 have KX:=hY w _ Y
 obtain ⟨fd,hb,hF⟩:=F w mg fa _ KX G.T.g hmg
 exact J8h KX G.T.g G.T.b G.T.builtins G.T.nolimit hg hobj hints (Nat.le_trans hlen hn2) hr hF hb (fun H hO hS=>hsp w H a ns hlen hO hS) fun H e s'=>hCX w H s₁ e s'
end L2
namespace L2
open PySem PySem.Spec PyProof.Rows
noncomputable def J2J (s : Stmt) (j : Nat) : Stmt:=match s with
 | .ClassDef _ _ _ body _ _ _ _ _ _ _=>body.getD j (.Pass ⟨0,0,0,0⟩)
 | _=>.Pass ⟨0,0,0,0⟩
noncomputable def Jn (s : Stmt) : Arguments:=match s with
 | .FunctionDef _ a _ _ _ _ _ _ _ _=>a
 | _=>{ posonlyargs:=[],args:=[],vararg:=none,kwonlyargs:=[],kw_defaults:=[],kwarg:=none,defaults:=[] }
noncomputable def Jk (s : Stmt) : List Stmt:=match s with
 | .FunctionDef _ _ b _ _ _ _ _ _ _=>b
 | _=>[]
noncomputable def J4 (s : Stmt) : Scope:=match s with
 | .FunctionDef _ _ _ _ _ _ sc _ _ _=>sc
 | _=>{ kind:=.function,names:=[],isGenerator:=false,isCoroutine:=false }
noncomputable abbrev CX0 : CXT:=fun _ _ _ _ _ _=>False
noncomputable abbrev E0 : XK:=fun _ _ _=>False
theorem J7A {X : Cx} : J2u CX0 X E0:=fun _ _ _ _ _ _ _ h=>h.elim
structure Fun (K : PySem.W.Frag) (x qual : Str) (st : Stmt) (f : Addr) (fd : FuncData) : Prop where
 ex : ∃ (oc : Value) (od : Option Addr) (kV doc pm : Value) (an : Option Addr) (cdv ct : Value) (osl : Array (Option Value)),
  fd = PySem.W.fnOf x qual (Jn st) (Jk st) (J4 st) .none kV doc pm an cdv ct ∧ K.lookup f = some ⟨oc,od,.func fd,osl⟩ ∧ PySem.W.codeIn K cdv qual = true
 kp : PySem.W.keepIn K (.ref f) = true
section
variable {P : Program} {w : World} {K : PySem.W.Frag} {mg : Str → Option Value} {base : Heap}
theorem Fun.ok {x qual : Str} {st : Stmt} {f : Addr} {fd : FuncData} {N ps : List Str} {k : Nat} {sp : Sp} (F : Fun K x qual st f fd) (S : Jp N ps (J4 st)) (len : ∀ vs H Q E,sp vs H Q E → vs.length = ps.length)
  (hbody : ∀ (cdv : Value) (A : Around) (outer : List Env) (s : Shared) (H : Hp) (vs : List V) (Q : VK) (E : XK),Room k (A.deeper (envOfC qual (J4 st) s.heap.objs.size f cdv)) → sp vs H Q E →
   ∃ t,PSs (cxOf CX0 P w K mg base N qual (J4 st) f cdv A outer s H E).nox (Jk st) t ∧ t { nx:=fun _ H'=>Q .non H',rt:=Q } (start N vs) H) : FnOk P w K mg base CX0 (k + 1) f fd ps sp:=by
 obtain ⟨oc,od,kV,doc,pm,an,cdv,ct,osl,rfl,lk,hcd⟩:=F.ex
 refine J9h lk hcd S len fun A outer s H vs Q E hr hsp=>?_
 obtain ⟨t,h,q⟩:=hbody cdv A outer s H vs Q E hr hsp
 exact ⟨t,h.nox,q⟩
theorem Fun.binds {x qual : Str} {st : Stmt} {f : Addr} {fd : FuncData} {ps : List Str} (F : Fun K x qual st f fd)
  (h : ∀ (kV doc pm : Value) (an : Option Addr) (cdv ct : Value) (us : List Value),us.length = ps.length → bindArgs (PySem.W.fnOf x qual (Jn st) (Jk st) (J4 st) .none kV doc pm an cdv ct) ⟨us,[]⟩ = pure (ps.zip us)) : J20 K fd ps []:=by
 obtain ⟨oc,od,kV,doc,pm,an,cdv,ct,osl,rfl,lk,hcd⟩:=F.ex
 exact .all (h kV doc pm an cdv ct)
theorem JI {x qual : Str} {st : Stmt} {f : Addr} {oc : Value} {od an : Option Addr} {osl : Array (Option Value)} {kV doc pm cdv ct : Value} (l : K.lookup f = some ⟨oc,od,.func (PySem.W.fnOf x qual (Jn st) (Jk st) (J4 st) .none kV doc pm an cdv ct),osl⟩)
  (c : PySem.W.codeIn K cdv qual = true) (k : PySem.W.keepIn K (.ref f) = true) : Fun K x qual st f (PySem.W.fnOf x qual (Jn st) (Jk st) (J4 st) .none kV doc pm an cdv ct):=⟨⟨oc,od,kV,doc,pm,an,cdv,ct,osl,rfl,l,c⟩,k⟩
end
theorem J9b {A : Around} {k : Nat} (hr : Room k A) : A.units + 1 < cLine:=Nat.lt_of_le_of_lt (Nat.add_le_add_left (by decide : 1 ≤ 64) _) hr.units
section
variable {X : Cx}
theorem pv (i : Nat) {x : Str} {pos : Pos} (hN : X.N[i]? = some x:=by rfl) (hv : Vis X.env.scope x:=by first | exact Or.inl rfl | exact Or.inr (Or.inl rfl) | exact Or.inr (Or.inr rfl)) (hd : (x == ("__debug__" : Str)) = false:=by decide)
  (hcd : (x == ("__classdict__" : Str)) = false:=by decide) : PE X (.Name x pos) (tVar i):=J9R hN hv hd hcd
end
theorem iteF {A B : Prop} (h : B) : if false = true then A else B:=by
 rw [if_neg Bool.false_ne_true]
 exact h
theorem iteT {A B : Prop} (h : A) : if true = true then A else B:=by
 rw [if_pos rfl]
 exact h
theorem ite2 {c A B : Prop} [Decidable c] (h1 : c → A) (h2 : ¬ c → B) : if c then A else B:=by
 by_cases h : c
 ·rw [if_pos h]
  exact h1 h
 ·rw [if_neg h]
  exact h2 h
noncomputable def Same (H H' : Hp) : Prop:=∀ b o,H b = some o → H' b = some o
theorem Same.refl (H : Hp) : Same H H:=fun _ _ h=>h
theorem Same.trans {H H1 H2 : Hp} (a : Same H H1) (b : Same H1 H2) : Same H H2:=fun c o h=>b c o (a c o h)
theorem Same.free {H H' : Hp} (e : Same H H') {l : Addr} (h : H' l = Option.none) : H l = Option.none:=by
 cases q : H l with
 | none=>rfl
 | some o =>
  rw [e l o q] at h
  cases h
theorem Same.seq {K : PySem.W.Frag} {H H' : Hp} {a : Addr} {xs : List V} (e : Same H H') (h : SqL K H a xs) : SqL K H' a xs:=by
 rcases h with (h | ⟨o,h⟩) | h
 ·exact .inl (.inl (e _ _ h))
 ·exact .inl (.inr ⟨o,e _ _ h⟩)
 ·exact .inr h
end L2
set_option linter.all false
set_option maxRecDepth 100000
set_option maxHeartbeats 4000000
namespace L2
open PySem PySem.Spec PyProof.Rows
theorem J2l {scope : Scope} {env : Env} (h : ∀ y ∈ scope.names,y.2 = .free → ∃ c,env.cells.lookup y.1 = some c) :
  ∃ cl,closureFor scope env = pure cl ∧ (∀ y ∈ scope.names,y.2 = NameKind.free → cl.lookup y.1 = env.cells.lookup y.1) ∧ (∀ x c,cl.lookup x = some c → env.cells.lookup x = some c):=by
 have key : ∀ (names : List (Str × NameKind)) (acc : List (Str × Addr)) (f : Str × NameKind → List (Str × Addr) → Sem (ForInStep (List (Str × Addr)))),
   (∀ x cs,f x cs = if (x.2 == NameKind.free) = true then (cellOf env x.1 >>= fun a=>pure (ForInStep.yield ((x.1,a) :: cs))) else pure (ForInStep.yield cs)) →
   (∀ y ∈ names,y.2 = .free → ∃ c,env.cells.lookup y.1 = some c) → (∀ x c,acc.lookup x = some c → env.cells.lookup x = some c) →
   ∃ cl,forIn names acc f = pure cl ∧ (∀ x c,acc.lookup x = some c → cl.lookup x = env.cells.lookup x) ∧ (∀ y ∈ names,y.2 = NameKind.free → cl.lookup y.1 = env.cells.lookup y.1) ∧ (∀ x c,cl.lookup x = some c → env.cells.lookup x = some c):=by
  intro names
  induction names with
  | nil =>
   intro acc f _ _ ha
   exact ⟨acc,rfl,fun x c e=>by rw [e,ha x c e],fun _ h=>(nomatch h),ha⟩
  | cons y r ih =>
   intro acc f hf hn ha
   obtain ⟨n,k⟩:=y
   rw [List.forIn_cons,hf]
   by_cases hk : k = .free
   ·subst hk
    obtain ⟨c,hc⟩:=hn (n,.free) List.mem_cons_self rfl
    have hc' : cellOf env n = pure c:=by unfold cellOf; rw [hc]
    have ha' : ∀ x d,((n,c) :: acc).lookup x = some d → env.cells.lookup x = some d:=fun x d e=>by
     rw [List.lookup_cons] at e
     cases hx : x == n with
     | true =>
      rw [hx] at e
      have e' : c = d:=Option.some.inj e
      have hx' : x = n:=by simpa using hx
      rw [hx',hc,e']
     | false =>
      rw [hx] at e
      exact ha x d e
    obtain ⟨cl,e,h1,h2,h3⟩:=ih ((n,c) :: acc) f hf (fun y hy=>hn y (List.mem_cons_of_mem _ hy)) ha'
    refine ⟨cl,?_,fun x d ex=>?_,fun y hy hyf=>?_,h3⟩
    ·rw [if_pos (by rfl)]
     show ((cellOf env n >>= fun a=>pure (ForInStep.yield ((n,a) :: acc))) >>= _) = pure cl
     rw [hc',pure_bind,pure_bind]
     exact e
    ·by_cases hxn : x = n
     ·subst hxn
      exact h1 x c (by rw [List.lookup_cons,beq_self_eq_true])
     ·refine h1 x d ?_
      rw [List.lookup_cons,beq_eq_false_iff_ne.mpr hxn]
      exact ex
    ·rcases List.mem_cons.mp hy with rfl | hy
     ·exact h1 _ c (by rw [List.lookup_cons,beq_self_eq_true])
     ·exact h2 y hy hyf
   ·have hb : (k == NameKind.free) = false:=by simpa using hk
    obtain ⟨cl,e,h1,h2,h3⟩:=ih acc f hf (fun y hy=>hn y (List.mem_cons_of_mem _ hy)) ha
    refine ⟨cl,?_,h1,fun y hy hyf=>?_,h3⟩
    ·show ((if (k == NameKind.free) = true then _ else pure (ForInStep.yield acc)) >>= _) = pure cl
     rw [if_neg (by rw [hb]; exact Bool.false_ne_true),pure_bind]
     exact e
    ·rcases List.mem_cons.mp hy with rfl | hy
     ·exact absurd hyf hk
     ·exact h2 y hy hyf
 have z:=key scope.names [] (fun x cs=>if (x.2 == NameKind.free) = true then (cellOf env x.1 >>= fun a=>pure (ForInStep.yield ((x.1,a) :: cs))) else pure (ForInStep.yield cs)) (fun _ _=>rfl) h (fun _ _ e=>(nomatch e))
 obtain ⟨cl,e,_,h2,h3⟩:=z
 refine ⟨cl,?_,h2,h3⟩
 show (forIn scope.names [] _ >>= pure) = pure cl
 exact (congrArg (· >>= pure) e).trans (pure_bind _ _)
noncomputable abbrev J0m (X : Cx) (scope : Scope) (N : List Str) (s₀ : Shared) (H₀ : Hp) (cl : List (Str × Addr)) (C : Addr) (ex : List Addr) : Cx :=
 {prog:=X.prog,w:=X.w,K:=X.K,mg:=X.mg,base:=X.base,A:=X.A,N:=N,s₀:=s₀,H₀:=H₀,env:=compEnvC scope cl C X.env,
  outer:=X.stack,stack:=X.stack,ex:=ex,fn:=fun _=>false,calm:=X.calm,pn:=[],xe:=fun _ _=>False }
theorem J2H {prog : Program} {w : World} {A : Around} {R : Result → Shared → Prop} {s : Shared} {elt target iter : Expr} {ifs : List Expr} {scope : Scope} {pos : Pos} {it acc : Value} {env : Env} (I : Nat → Shared → Prop)
  (turn : ∀ n s,I n s → wpAny (model prog w) A (pyNext it) (fun r s₁=>match r with
   | none=>R (.ok .next) s₁
   | some v=>wpAny (model prog w) A (letOwnedTupleGo target it v) (fun _ s₁'=>wpAny (model prog w) A (assign target env v) (fun _ s₂ =>
     wpAny (model prog w) A (forIn ifs true fun c r=>if r = true then do let ok ← isTrue c env (eval c env); pure (ForInStep.yield ok) else pure (ForInStep.yield r)) (fun ok s₃ =>
      if ok = true then wpAny (model prog w) A (eval elt env) (fun x s₄ =>
       wpAny (model prog w) A (call (.builtin "list.append") [acc,x]) (fun _ s₅=>∃ m,m < n ∧ I m s₅) (fun _ _=>False) s₄) (fun _ _=>False) s₃
      else ∃ m,m < n ∧ I m s₃) (fun _ _=>False) s₂) (fun _ _=>False) s₁') (fun _ _=>False) s₁) (fun _ _=>False) s)
  (n : Nat) (h : I n s) :
  codeAny (model prog w) A (.compLoop (.ListComp elt [⟨target,iter,ifs,0⟩] scope pos) 0 it acc env) R s:=by
 refine codeAny_loop rfl I (fun n s hI=>?_) n h
 show wpAny _ A ((compTurn (.ListComp elt [⟨target,iter,ifs,0⟩] scope pos) 0 it acc env).onRaise (fun x=>do noteFrame x env; theTreesLotGoes x)) _ _ s
 refine wpAny_noted ?_
 rw [compTurn_list]
 refine wpAny_bind (wpAny_standAt (wpAny_bind (wpAny_mono (turn n s hI) (fun r s₁ h₁=>?_) fun _ _ z=>z.elim)))
 cases r with
 | none=>exact wpAny_pure h₁
 | some v =>
  refine wpAny_bind (wpAny_mono h₁ (fun _ s₁' h₁'=>?_) fun _ _ z=>z.elim)
  refine wpAny_bind (wpAny_mono h₁' (fun _ s₂ h₂=>wpAny_bind (wpAny_mono h₂ (fun ok s₃ h₃=>?_) fun _ _ z=>z.elim)) fun _ _ z=>z.elim)
  cases ok with
  | false=>exact wpAny_pure ⟨rfl,h₃⟩
  | true =>
   exact wpAny_bind (wpAny_bind (wpAny_mono h₃ (fun x s₄ h₄=>wpAny_bind (wpAny_mono h₄ (fun _ s₅ h₅=>wpAny_pure (wpAny_pure ⟨rfl,h₅⟩)) fun _ _ z=>z.elim)) fun _ _ z=>z.elim))
noncomputable def PIfs (X : Cx) (ifs : List Expr) (t : TT) : Prop :=
 ∀ (pins : List (Addr × Obj)) (s : Shared) (σ : St) (H : Hp) (Q : Bool → Hp → Prop),Inv X pins σ H s → t σ H Q →
  wpAny (model X.prog X.w) X.A (forIn ifs true fun c r=>if r = true then do let ok ← isTrue c X.env (eval c X.env); pure (ForInStep.yield ok) else pure (ForInStep.yield r)) (TP X pins σ Q) X.xe s
noncomputable def tYes : TT:=fun _ H Q=>Q true H
theorem J1i {X : Cx} : PIfs X [] tYes:=fun _ _ _ H _ I h=>wpAny_tests_nil ⟨H,I,h⟩
theorem J22 {X : Cx} {c : Expr} {t : TT} (hc : PT X c t) : PIfs X [c] t:=fun pins s σ H Q I h=>wpAny_tests_one (hc pins s σ H Q I h)
noncomputable def J5u (J : It) (H1 : Hp) (σ0 : St) (g : TG) (tc : TT) (te : TE) (Q : VK) : Prop:=∀ D,H1 D = none →
  ∃ W : Nat → Nat → St → List V → Hp → Prop,(∃ m,W 0 m σ0 [] (upd H1 D (.lst []))) ∧ ∀ i m σ1 ys H,W i m σ1 ys H →
    (J.stop i H ∧ Q (.ref D) H) ∨ (J.go i H ∧ ∀ x H',J.yld i H x H' → g x σ1 H' fun σ2 H2=>tc σ2 H2 fun b H3 =>
       if b = true then te σ2 H3 fun y H4=>H4 D = some (.lst ys) ∧ ys.length < sizeLine ∧ ∃ m',m' < m ∧ W (i + 1) m' σ2 (ys ++ [y]) (upd H4 D (.lst (ys ++ [y])))
       else ∃ m',m' < m ∧ W (i + 1) m' σ2 ys H3)
noncomputable def J7O (wi : TI) (sub : St → St) (g : TG) (tc : TT) (te : TE) : TE:=fun σ H Q=>wi σ H fun J H1=>J5u J H1 (sub σ) g tc te Q
noncomputable def subσ (js : List (Option Nat)) (σ : St) : St:=js.map fun o=>o.bind fun j=>(σ[j]?).join
theorem J0B {env : Env} : ∀ {names : List (Str × NameKind)} {x : Str},names.lookup x = some .free →
  (names.map fun (n,k)=>if (k == NameKind.free && env.scope.kind == .function && env.kindOf n == some .cell) then (n,NameKind.cell) else (n,k)).lookup x = some .cell ∨
  (names.map fun (n,k)=>if (k == NameKind.free && env.scope.kind == .function && env.kindOf n == some .cell) then (n,NameKind.cell) else (n,k)).lookup x = some .free
 | [],_,h=>by simp at h
 | (n,k) :: r,x,h=>by
  have ih:=@J0B env r x
  show List.lookup x ((if (k == NameKind.free && env.scope.kind == .function && env.kindOf n == some .cell) = true then (n,NameKind.cell) else (n,k)) :: _) = _ ∨ List.lookup x ((if (k == NameKind.free && env.scope.kind == .function && env.kindOf n == some .cell) = true then (n,NameKind.cell) else (n,k)) :: _) = _
  cases hx : x == n with
  | true =>
   simp only [List.lookup_cons,hx] at h
   cases h
   by_cases hc : (NameKind.free == NameKind.free && env.scope.kind == .function && env.kindOf n == some .cell) = true
   ·rw [if_pos hc]; left; simp only [List.lookup_cons,hx]
   ·rw [if_neg hc]; right; simp only [List.lookup_cons,hx]
  | false =>
   simp only [List.lookup_cons,hx] at h
   by_cases hc : (k == NameKind.free && env.scope.kind == .function && env.kindOf n == some .cell) = true
   ·rw [if_pos hc]; simp only [List.lookup_cons,hx]; exact ih h
   ·rw [if_neg hc]; simp only [List.lookup_cons,hx]; exact ih h
theorem J1O {env : Env} : ∀ {names : List (Str × NameKind)} {x : Str},(∀ y ∈ names,y.2 ≠ NameKind.cell) →
  ((names.map fun (n,k)=>if (k == NameKind.free && env.scope.kind == .function && env.kindOf n == some .cell) then (n,NameKind.cell) else (n,k)).lookup x = some .cell ∨
  (names.map fun (n,k)=>if (k == NameKind.free && env.scope.kind == .function && env.kindOf n == some .cell) then (n,NameKind.cell) else (n,k)).lookup x = some .free) → (x,NameKind.free) ∈ names
 | [],_,_,h=>by simp at h
 | (n,k) :: r,x,hn,h=>by
  have ih:=@J1O env r x fun y hy=>hn y (List.mem_cons_of_mem _ hy)
  have hk : k ≠ .cell:=hn (n,k) List.mem_cons_self
  change List.lookup x ((if (k == NameKind.free && env.scope.kind == .function && env.kindOf n == some .cell) = true then (n,NameKind.cell) else (n,k)) :: _) = _ ∨ List.lookup x ((if (k == NameKind.free && env.scope.kind == .function && env.kindOf n == some .cell) = true then (n,NameKind.cell) else (n,k)) :: _) = _ at h
  cases hx : x == n with
  | true =>
   have hx' : x = n:=by simpa using hx
   subst hx'
   by_cases hc : (k == NameKind.free && env.scope.kind == .function && env.kindOf x == some .cell) = true
   ·have : k = .free:=by
     have:=(Bool.and_eq_true _ _).mp ((Bool.and_eq_true _ _).mp hc).1
     simpa using this.1
    subst this
    exact List.mem_cons_self
   ·rw [if_neg hc] at h
    simp only [List.lookup_cons,beq_self_eq_true] at h
    rcases h with h | h
    ·exact absurd (Option.some.inj h) hk
    ·have:=Option.some.inj h
     subst this
     exact List.mem_cons_self
  | false =>
   by_cases hc : (k == NameKind.free && env.scope.kind == .function && env.kindOf n == some .cell) = true
   ·rw [if_pos hc] at h; simp only [List.lookup_cons,hx] at h; exact List.mem_cons_of_mem _ (ih h)
   ·rw [if_neg hc] at h; simp only [List.lookup_cons,hx] at h; exact List.mem_cons_of_mem _ (ih h)
section
variable {X : Cx} {elt tg iter : Expr} {ifs : List Expr} {scope : Scope} {pos : Pos} {N : List Str} {js : List (Option Nat)} {wi : TI} {g : TG} {tc : TT} {te : TE}
structure J28 (osc : Scope) (ON : List Str) (scope : Scope) (N : List Str) (js : List (Option Nat)) : Prop where
 kind : scope.kind = .function
 cell : ∀ y ∈ scope.names,y.2 ≠ .cell
 names : ∀ y ∈ scope.names,y.2 = .local → scope.names.lookup y.1 = some .local
 free : ∀ y ∈ scope.names,y.2 = .free → osc.names.lookup y.1 = some .cell ∨ osc.names.lookup y.1 = some .free
 len : js.length = N.length
 slots : (js.zip N).all (fun p=>match p.1 with | none=>true | some j=>decide (ON[j]? = some p.2) && decide (scope.names.lookup p.2 = some .free)) = true
theorem J28.sub {osc : Scope} {ON : List Str} {scope : Scope} {N : List Str} {js : List (Option Nat)} (cs : J28 osc ON scope N js) : ∀ (i j : Nat),js[i]? = some (some j) → ∃ x,N[i]? = some x ∧ ON[j]? = some x ∧ scope.names.lookup x = some .free:=by
 intro i j h
 have hi : i < js.length:=(List.getElem?_eq_some_iff.mp h).1
 have hN : N[i]? = some (N[i]'(by rw [← cs.len]; exact hi)):=List.getElem?_eq_getElem _
 have hz : (js.zip N)[i]? = some (some j,N[i]'(by rw [← cs.len]; exact hi)):=by
  rw [List.getElem?_zip_eq_some]
  exact ⟨h,hN⟩
 have hm:=List.all_eq_true.mp cs.slots _ (List.mem_of_getElem? hz)
 have hm2:=(Bool.and_eq_true _ _).mp hm
 exact ⟨_,hN,of_decide_eq_true hm2.1,of_decide_eq_true hm2.2⟩
theorem mem_of_lookup {α : Type} : ∀ {l : List (Str × α)} {x : Str} {k : α},l.lookup x = some k → (x,k) ∈ l
 | [],_,_,h=>by simp at h
 | (n,v) :: r,x,k,h=>by
  rw [List.lookup_cons] at h
  cases hx : x == n with
  | true =>
   rw [hx] at h
   have hx' : x = n:=by simpa using hx
   have : v = k:=Option.some.inj h
   subst hx' this
   exact List.mem_cons_self
  | false =>
   rw [hx] at h
   exact List.mem_cons_of_mem _ (mem_of_lookup h)
theorem J1p {osc : Scope} {ON : List Str} (cs : J28 osc ON scope N js) (ho : X.env.scope = osc) (hON : X.N = ON) (hc : X.calm = true) (hi : PI X tg iter wi)
    (hg : ∀ s₀ H₀ cl C ex,PG (J0m X scope N s₀ H₀ cl C ex) tg g) (hif : ∀ s₀ H₀ cl C ex,PIfs (J0m X scope N s₀ H₀ cl C ex) ifs tc) (he : ∀ s₀ H₀ cl C ex,PE (J0m X scope N s₀ H₀ cl C ex) elt te)
    (hs : ∀ x,foldedSetIterable iter X.env x = pure x:=by intro _; rfl) : PE X (.ListComp elt [⟨tg,iter,ifs,0⟩] scope pos) (J7O wi (subσ js) g tc te):=by
  intro pins s σ H Q I h
  subst ho hON
  obtain ⟨cl,hcl,cl1,cl2⟩:=J2l (scope:=scope) (env:=X.env) fun y hy hf=>I.ok.has y.1 (cs.free y hy hf)
  rw [eval_ListComp]
  refine wpAny_comprehension_free (use:=none) rfl hs hcl cs.kind cs.names ?_
  refine thn (hi pins s σ H _ I h) fun v s1 h1=>thn h1 fun itv s2 h2=>?_
  obtain ⟨it,fp,tn,J,H2,e,I2,T,st2,f2,hW⟩:=h2
  subst e
  have hD0 : H2 s2.heap.objs.size = none:=I2.hok.fresh (Nat.le_refl _)
  obtain ⟨W,⟨m0,w0⟩,turn⟩:=hW s2.heap.objs.size hD0
  have I3:=I2.lnew (t':=s2.toks) (ys:=[]) (its:=[]) .nil (Nat.zero_le _)
  refine wpAny_newObj_type (wpAny_newFunctionEnv cs.cell (by intro y hy; simp at hy) (fun h₁ hns₁ hsb₁=>?_) cs.kind)
  dsimp only at hns₁ hsb₁ ⊢
  obtain ⟨s3,hs3⟩ : ∃ s3 : Shared,s3 = { s2 with heap:=s2.heap.push { cls:=.type "list",data:=.seq ([] : List Value).toArray },toks:=s2.toks }:=⟨_,rfl⟩
  rw [← hs3] at I3
  have e3 : s3.heap = s2.heap.push { cls:=.type "list",dict:=none,data:=.seq ([] : List Value).toArray }:=by rw [hs3]
  have e3o : s3.os = s2.os:=by rw [hs3]
  have e3g : s3.gens = s2.gens:=by rw [hs3]
  rw [← e3] at hns₁ hsb₁ ⊢
  obtain ⟨H3,hH3⟩ : ∃ H3 : Hp,H3 = upd H2 s2.heap.objs.size (.lst []):=⟨_,rfl⟩
  rw [← hH3] at I3 w0
  have up1 : ∀ b o,s2.heap.get? b = some o → s3.heap.get? b = some o:=fun b o q=>by rw [e3]; exact Heap.get?_push_of_some _ q
  have up2 : ∀ b o,s3.heap.get? b = some o → h₁.get? b = some o:=fun b o q=>hsb₁.extBut b o (Nat.ne_of_lt (Heap.lt_size q)) (Heap.get?_push_of_some _ q)
  have fpo : ∀ b ∈ fp,∃ o,s3.heap.get? b = some o:=fun b hb=>by
    obtain ⟨o,ho,_⟩:=T.obj 0 _ st2 b hb
    exact ⟨o,up1 b o ho⟩
  have fr3 : ∀ b ∈ fp,H3 b = none:=fun b hb=>by
    obtain ⟨o,ho,_⟩:=T.obj 0 _ st2 b hb
    rw [hH3,Jc (Nat.ne_of_lt (Heap.lt_size ho))]
    exact (f2 b hb).1
  have fpC : ∀ b ∈ fp,b ≠ s3.heap.objs.size:=fun b hb=>by
    obtain ⟨o,ho⟩:=fpo b hb
    exact Nat.ne_of_lt (Heap.lt_size ho)
  have fpS : ∀ b ∈ fp,b ∉ frs X.stack:=fun b hb hs'=>by
    rcases List.mem_cons.mp (I2.stkSub b hs') with z | z
    · exact (f2 b hb).2.1 z
    · exact (f2 b hb).2.2.1 z
  have ok' : (J0m X scope N s3 H3 cl s3.heap.objs.size fp).Ok:=by
    refine ⟨I.ok.mod,cs.kind,I.ok.glob,I.ok.blt,Nat.le_refl _,fun x y c e1 e2=>I.ok.inj x y c (cl2 x c e1) (cl2 y c e2),fun x hx=>?_,fun x c hf=>(nomatch hf),I.ok.hd,I.ok.frames,.inl rfl,fun b hb=>⟨fpC b hb,fun x c e=>(f2 b hb).2.2.2.2.1 x c (cl2 x c e)⟩,
      I3.bs,Nat.le_trans I.ok.bsz I3.sz,fun b o e hb=>?_,fun b hb=>fpS b hb,I3.stack,I3.stkFree⟩
    · have hm : (x,NameKind.free) ∈ scope.names:=J1O cs.cell hx
      obtain ⟨c,hc⟩:=I.ok.has x (cs.free _ hm rfl)
      exact ⟨c,(cl1 _ hm rfl).trans hc⟩
    · rcases (f2 b hb).2.2.2.1 with z | z
      · exact I.ok.noex b o e z
      · exact absurd (Nat.lt_of_lt_of_le (Heap.lt_size e) (Nat.le_trans I.ok.bsz z)) (Nat.lt_irrefl _)
  have cellK : ∀ c v,s3.heap.IsCell c v → h₁.IsCell c v:=fun c v ⟨o,ho,hd⟩=>⟨o,up2 c o ho,hd⟩
  have I4 : ∀ t : Nat,Inv (J0m X scope N s3 H3 cl s3.heap.objs.size fp) [] (subσ js σ) H3 { s2 with heap:=h₁,toks:=t }:=fun t=>by
    refine ⟨ok',e3o.symm,I2.bare,Un.kept up2,⟨_,hns₁,fun i x v hi hv hx=>?_⟩,fun x c e=>?_,I3.hok.fresh (Nat.le_refl _),fun x c e=>I3.freeC x c (cl2 x c e),fun p hp=>(nomatch hp),I3.hok.kept up2,?_⟩
    ·
      have hv' : ∃ j,js[i]? = some (some j) ∧ σ[j]? = some (some v):=by
        unfold subσ at hv
        rw [List.getElem?_map] at hv
        cases hj : js[i]? with
        | none=>rw [hj] at hv; cases hv
        | some o =>
          rw [hj] at hv
          cases o with
          | none=>cases hv
          | some j =>
            refine ⟨j,rfl,?_⟩
            have hv2 : (σ[j]?).join = some v:=Option.some.inj hv
            cases hs2 : σ[j]? with
            | none=>rw [hs2] at hv2; cases hv2
            | some u=>rw [hs2] at hv2; exact congrArg some hv2
      obtain ⟨j,hj,hσ⟩:=hv'
      obtain ⟨x',h1',h2',h3'⟩:=cs.sub i j hj
      have hxx : x = x':=Option.some.inj (hi.symm.trans h1')
      subst hxx
      have hm : (x,NameKind.free) ∈ scope.names:=mem_of_lookup h3'
      have hk:=cs.free _ hm rfl
      obtain ⟨m,hn,hl⟩:=id I3.loc
      obtain ⟨u,ru,lk⟩:=hl j x v h2' hσ (by rcases hk with z | z; exact .inr (.inl z); exact .inr (.inr z))
      refine ⟨u,ru,?_⟩
      rcases lk with ⟨k1,_⟩ | ⟨k1,c,e1,z⟩
      · rcases hk with z | z <;> (rw [show X.env.kindOf x = _ from z] at k1; cases k1)
      · exact .inr ⟨J0B h3',c,(cl1 _ hm rfl).trans e1,cellK c _ z⟩
    · obtain ⟨v,z⟩:=I3.cell x c (cl2 x c e)
      exact ⟨v,cellK c v z⟩
    · unfold subσ
      rw [List.length_map]
      exact cs.len
  have hst₁ : tn 0 h₁:=T.keep 0 _ _ st2 fun b hb o q=>up2 b o (up1 b o q)
  have stat : ∀ {H' : Hp},(∀ b ∈ fp,H' b = none) → ∀ b ∈ fp,FpOk (J0m X scope N s3 H3 cl s3.heap.objs.size fp) [] H' b:=fun hn b hb =>
    ⟨hn b hb,fpC b hb,fpS b hb,.inl hb,fun x c e=>(f2 b hb).2.2.2.2.1 x c (cl2 x c e),fun p hp=>(nomatch hp)⟩
  have loop : ∀ s4 : Shared,(∃ t,s4 = { s2 with heap:=h₁,toks:=t }) →
      codeAny (model X.prog X.w) X.A (.compLoop (.ListComp elt [⟨tg,iter,ifs,0⟩] scope pos) 0 (.ref it) (.ref s2.heap.objs.size) (compEnvC scope cl s3.heap.objs.size X.env))
        (compPost (model X.prog X.w) X.A X.xe none (EP X pins σ Q) (.ref s2.heap.objs.size) s3.heap.objs.size) s4:=by
    rintro s4 ⟨t,rfl⟩
    refine J2H (fun n s'=>∃ i σ' ys H',Inv (J0m X scope N s3 H3 cl s3.heap.objs.size fp) [] σ' H' s' ∧ tn i s'.heap ∧ (∀ b ∈ fp,H' b = none) ∧ W i n σ' ys H') ?_ m0 ⟨0,_,[],H3,I4 t,hst₁,fr3,w0⟩
    rintro n s5 ⟨i,σ5,ys,H5,I5,st5,fr5,w5⟩
    rcases turn i n σ5 ys H5 w5 with ⟨stop,qn⟩ | ⟨go,step⟩
    · refine thn (T.done (J0m X scope N s3 H3 cl s3.heap.objs.size fp) rfl rfl rfl hc i [] s5 σ5 H5 _ I5 (stat fr5) st5 stop) fun r s6 ⟨hr,I6⟩=>?_
      subst hr
      obtain ⟨m,hn,_⟩:=id I6.loc
      refine ⟨m,hn,fun h' hs'=>⟨.ref s2.heap.objs.size,H5,?_,rfl,qn⟩⟩
      have neC : ∀ b o,s3.heap.get? b = some o → b ≠ s3.heap.objs.size:=fun b o q=>Nat.ne_of_lt (Heap.lt_size q)
      have un : Un (frs X.stack) fp H3 H5 s3.heap h' :=
        ⟨fun b o q n1 hb hx=>(hs'.2 b (neC b o q)).trans (I6.base.keep b o q n1 hb hx),
         fun b o q n1 hb hx=>by
           obtain ⟨sl,e⟩:=I6.base.slot b o q n1 hb hx
           exact ⟨sl,(hs'.2 b (neC b o q)).trans e⟩,
         fun b o q n1 hx=>I6.base.free b o q n1 hx,
         fun b o q hx=>by
           obtain ⟨o',e⟩:=I6.base.there b o q hx
           exact ⟨o',(hs'.2 b (neC b o q)).trans e⟩,
         I6.base.tups,I6.base.frzs,I6.base.tbls⟩
      refine I3.call' (ch:=fp) (s':={ s6 with heap:=h' }) I6.os un (fun b ob e=>?_) I6.bare (fun b hb=>⟨(f2 b hb).2.2.2.1,(f2 b hb).2.1,(f2 b hb).2.2.2.2.1,(f2 b hb).2.2.2.2.2⟩)
      refine (I6.hok b ob e).stay (fun c w' hc' q=>(hs'.2 c ?_).trans q) (fun _ q=>q) fun _ _ q=>q
      rintro rfl
      have fC : H5 s3.heap.objs.size = none:=I6.free
      rcases hc' with z | z
      · rw [← z,fC] at e; cases e
      · rw [fC] at z; cases z
    · refine thn (T.item (J0m X scope N s3 H3 cl s3.heap.objs.size fp) rfl rfl rfl hc i [] s5 σ5 H5 _ I5 (stat fr5) st5 go) fun r s6 ⟨u,hr,h6⟩=>?_
      subst hr
      refine thn h6 fun _ s7 ⟨x,H7,I7,r7,y7,st7,fr7⟩=>?_
      have I7':=I7.pinned (stat fr7) (T.obj _ _ st7)
      refine thn (hg _ _ _ _ _ _ s7 σ5 H7 x u _ I7' r7 (step x H7 y7)) fun _ s8 ⟨σ8,H8,I8,q8⟩=>?_
      refine thn (hif _ _ _ _ _ _ s8 σ8 H8 _ I8 q8) fun ok s9 ⟨H9,I9,q9⟩=>?_
      have again : ∀ {σ' : St} {H' : Hp} {s' : Shared},Inv (J0m X scope N s3 H3 cl s3.heap.objs.size fp) ([] ++ J2Y fp s7.heap) σ' H' s' →
          Inv (J0m X scope N s3 H3 cl s3.heap.objs.size fp) [] σ' H' s' ∧ tn (i + 1) s'.heap ∧ ∀ b ∈ fp,H' b = none:=fun {σ' H' s'} I'=>by
        refine ⟨I'.unpinned,T.keep _ _ _ st7 fun b hb o e=>(I'.pin (b,o) (List.mem_append_right _ (List.mem_append_right _ (J0M hb e)))).1,fun b hb=>?_⟩
        obtain ⟨o,e,d⟩:=T.obj _ _ st7 b hb
        exact (I'.pin (b,o) (List.mem_append_right _ (List.mem_append_right _ (J0M hb e)))).2.1
      cases ok with
      | false =>
        rw [if_neg Bool.false_ne_true] at q9 ⊢
        obtain ⟨m',hm,w9⟩:=q9
        obtain ⟨a1,a2,a3⟩:=again I9
        exact ⟨m',hm,i + 1,σ8,ys,H9,a1,a2,a3,w9⟩
      | true =>
        rw [if_pos rfl] at q9 ⊢
        refine thn (he _ _ _ _ _ _ s9 σ8 H9 _ I9 q9) fun yv s10 ⟨y,H10,I10,r10,q10⟩=>?_
        obtain ⟨hD,hz,m',hm,w10⟩:=q10
        refine thn (J1s (X:=J0m X scope N s3 H3 cl s3.heap.objs.size fp) _ s10 σ8 H10 (.ref s2.heap.objs.size) [y] (.ref s2.heap.objs.size) [yv] (fun v H'=>H' = upd H10 s2.heap.objs.size (.lst (ys ++ [y]))) I10 rfl (.cons r10 .nil)
          ⟨s2.heap.objs.size,ys,y,rfl,rfl,hD,hz,rfl⟩) fun _ s11 ⟨v11,H11,I11,_,e11⟩=>?_
        have e11' : H11 = upd H10 s2.heap.objs.size (.lst (ys ++ [y])):=e11
        subst e11'
        obtain ⟨a1,a2,a3⟩:=again I11
        exact ⟨m',hm,i + 1,σ8,ys ++ [y],_,a1,a2,a3,w10⟩
  exact codeAny_compStart_list (loop _ ⟨_,rfl⟩) (T.self X.A 0 _ _ _ hst₁ (loop _ ⟨_,rfl⟩))
end
structure J4E (J : It) (H0 : Hp) (xs : List V) : Prop where
 go : ∀ i H,Same H0 H → i < xs.length → J.go i H
 yld : ∀ i H x H',Same H0 H → i < xs.length → J.yld i H x H' → H' = H ∧ xs[i]? = some x
 stop : ∀ H,Same H0 H → J.stop xs.length H
theorem J1L {K : PySem.W.Frag} {a : Addr} {H : Hp} {xs : List V} (h : SqL K H a xs) : J4E (Itl K a) H xs where
 go:=fun i H' s hi=>⟨xs,xs[i],s.seq h,by simp [hi]⟩
 yld:=fun i H' x H'' s hi y=>⟨y.1,y.2 xs (s.seq h)⟩
 stop:=fun H' s=>⟨xs,s.seq h,Nat.le_refl _⟩
theorem J0V {H : Hp} (lo : Int) (n : Nat) : J4E (Itr lo n) H ((List.range n).map fun i=>.int (lo + (i : Nat))) where
 go:=fun i H' s hi=>by rw [List.length_map,List.length_range] at hi; exact hi
 yld:=fun i H' x H'' s hi y=>by
  rw [List.length_map,List.length_range] at hi
  refine ⟨y.1,?_⟩
  rw [List.getElem?_map,List.getElem?_range hi]
  exact congrArg some y.2.symm
 stop:=fun H' s=>by rw [List.length_map,List.length_range]; exact Nat.le_refl _
theorem JS {H : Hp} {p : Addr} (h : H p = none) (o : HO) : Same H (upd H p o):=fun b u q=>by rw [Jc (Ja q h)]; exact q
theorem Same.upd {H H' : Hp} {p : Addr} {o : HO} (s : Same H H') (h : H p = none) : Same H (upd H' p o):=fun b u q=>by rw [Jc (Ja q h)]; exact s b u q
theorem J6E {J : It} {H : Hp} {xs : List V} {σ0 : St} {k : Nat} {tc : TT} {te : TE} {Q : VK} (p : V → Bool) (f : V → V) (hJ : J4E J H xs) (hx : xs.length ≤ 1000000)
  (hc : ∀ x ∈ xs,∀ H',Same H H' → ∀ R : Bool → Hp → Prop,(∀ H'',Same H' H'' → R (p x) H'') → tc (σ0.set k (some x)) H' R)
  (he : ∀ x ∈ xs,p x = true → ∀ H',Same H H' → ∀ R : VK,(∀ H'',Same H' H'' → R (f x) H'') → te (σ0.set k (some x)) H' R)
  (hQ : ∀ D H',H D = none → Same H H' → H' D = some (.lst ((xs.filter p).map f)) → Q (.ref D) H') :
  J5u J H σ0 (J4m k) tc te Q:=by
 intro D hD
 refine ⟨fun i m σ1 ys H'=>m = xs.length - i ∧ i ≤ xs.length ∧ (σ1 = σ0 ∨ ∃ v,σ1 = σ0.set k v) ∧ ys = ((xs.take i).filter p).map f ∧ H' D = some (.lst ys) ∧ Same H H',⟨xs.length,by simp,Nat.zero_le _,.inl rfl,rfl,Jb,JS hD _⟩,?_⟩
 rintro i m σ1 ys H' ⟨rfl,hi,hσ,rfl,hDD,hs⟩
 by_cases hlt : i < xs.length
 ·refine .inr ⟨hJ.go i H' hs hlt,fun x H'' hy=>?_⟩
  obtain ⟨e1,hx1⟩:=hJ.yld i H' x H'' hs hlt hy
  subst e1
  have hm : x ∈ xs:=List.mem_of_getElem? hx1
  have hset : σ1.set k (some x) = σ0.set k (some x):=by
   rcases hσ with rfl | ⟨v,rfl⟩
   ·rfl
   ·rw [List.set_set]
  show tc (σ1.set k (some x)) H'' _
  rw [hset]
  have tk : ((xs.take (i + 1)).filter p).map f = ((xs.take i).filter p).map f ++ (if p x = true then [f x] else []):=by
   rw [List.take_add_one,hx1,List.filter_append,List.map_append]
   cases hp : p x <;> simp [hp]
  refine hc x hm H'' hs _ fun H3 s3=>?_
  have s03 : Same H H3:=hs.trans s3
  have lenk : (((xs.take i).filter p).map f).length < sizeLine:=by
   have h1:=List.length_filter_le p (xs.take i)
   rw [List.length_take] at h1
   rw [List.length_map]
   have : (1000001 : Nat) ≤ sizeLine:=by decide
   omega
  refine ite2 (fun hp=>?_) (fun hp=>?_)
  ·refine he x hm hp H3 s03 _ fun H4 s4=>⟨s4 _ _ (s3 _ _ hDD),lenk,xs.length - (i + 1),by omega,rfl,hlt,.inr ⟨_,rfl⟩,?_,?_,?_⟩
   ·rw [tk,if_pos hp]
   ·exact Jb
   ·exact (s03.trans s4).upd hD
  ·refine ⟨xs.length - (i + 1),by omega,rfl,hlt,.inr ⟨_,rfl⟩,?_,s3 _ _ hDD,s03⟩
   rw [tk,if_neg hp,List.append_nil]
 ·have e : i = xs.length:=by omega
  subst e
  refine .inl ⟨hJ.stop H' hs,hQ D H' hD hs ?_⟩
  rw [hDD,List.take_length]
theorem J8f {J : It} {H : Hp} {xs : List V} {σ0 : St} {k : Nat} {te : TE} {Q : VK} (f : V → V) (hJ : J4E J H xs) (hx : xs.length ≤ 1000000)
  (he : ∀ x ∈ xs,∀ H',Same H H' → ∀ R : VK,(∀ H'',Same H' H'' → R (f x) H'') → te (σ0.set k (some x)) H' R)
  (hQ : ∀ D H',H D = none → Same H H' → H' D = some (.lst (xs.map f)) → Q (.ref D) H') :
  J5u J H σ0 (J4m k) tYes te Q :=
 J6E (fun _=>true) f hJ hx (fun x _ H' _ R hR=>hR H' (Same.refl _)) (fun x hm _=>he x hm) (fun D H' h1 h2 h3=>hQ D H' h1 h2 (by rw [h3,List.filter_eq_self.mpr fun _ _=>rfl]))
end L2
set_option linter.all false
set_option maxRecDepth 100000
set_option maxHeartbeats 4000000
namespace L2
open PySem PySem.Spec PyProof.Rows
noncomputable abbrev T (l : List Nat) : V:=.str ⟨l.toArray⟩
theorem J2D {a b : List Nat} (h : T a = T b) : a = b:=by
 have h1 : (⟨a.toArray⟩ : Str) = ⟨b.toArray⟩:=V.str.inj h
 have h2 : a.toArray = b.toArray:=congrArg Str.cps h1
 simpa using h2
theorem J21 (l : List Nat) : (⟨l.toArray⟩ : Str).length = l.length:=by simp [Str.length]
theorem J85 (a b : List Nat) : (⟨a.toArray⟩ : Str) ++ ⟨b.toArray⟩ = ⟨(a ++ b).toArray⟩:=by
 show (⟨a.toArray ++ b.toArray⟩ : Str) = _
 simp
section
variable {X : Cx}
theorem JA {x : Str} {l : List Nat} {j pos} (h : x = ⟨l.toArray⟩) : PE X (.Constant (.str x) j pos) (tC (T l)):=by subst h; exact J9X
noncomputable def Jas : R2:=fun x y H Q=>∃ a b,x = T a ∧ y = T b ∧ a.length + b.length ≤ sizeLine ∧ Q (T (a ++ b)) H
theorem J0J : OpR X (binaryOp .Add) Jas:=by
 intro pins s σ H x y v u Q I rx ry h
 obtain ⟨a,b,rfl,rfl,hz,q⟩:=h
 exact J6d pins s σ H _ _ v u Q I rx ry ⟨_,_,rfl,rfl,by rw [J21,J21]; exact hz,by rw [J85]; exact q⟩
noncomputable def Jaa : R2:=fun x y H Q=>∃ l i c,x = T l ∧ y = .int i ∧ l.length ≤ sizeLine ∧ atI l i = some c ∧ Q (T [c]) H
theorem J1d : IxR X Jaa:=by
 intro value slice pins s σ H x y v u Q I rx ry h hs
 obtain ⟨l,i,c,rfl,rfl,hz,he,q⟩:=h
 exact J9Q value slice pins s σ H _ _ v u Q I rx ry ⟨_,i,c,rfl,rfl,by rw [J21]; exact hz,by simpa using he,q⟩ hs
theorem J7N : OpR X (compareOp .In) (fun x y H Q=>∃ c m,x = T [c] ∧ y = T m ∧ Q (.bl (decide (c ∈ m))) H):=by
 intro pins s σ H x y v u Q I rx ry h
 obtain ⟨c,m,rfl,rfl,q⟩:=h
 refine J6P pins s σ H _ _ v u Q I rx ry ⟨_,_,rfl,rfl,?_⟩
 have e:=StrLaws.found_one ⟨m.toArray⟩ c
 rw [show (!(Builtin.Str.occurrences ⟨m.toArray⟩ ⟨[c].toArray⟩ 0 (⟨m.toArray⟩ : Str).length 1).isEmpty) = decide (c ∈ m) from by simpa using e]
 exact q
theorem J6X : OpR X (compareOp .NotIn) (fun x y H Q=>∃ c m,x = T [c] ∧ y = T m ∧ Q (.bl (!decide (c ∈ m))) H):=by
 intro pins s σ H x y v u Q I rx ry h
 obtain ⟨c,m,rfl,rfl,q⟩:=h
 refine J4S pins s σ H _ _ v u Q I rx ry ⟨_,_,rfl,rfl,?_⟩
 have e:=StrLaws.found_one ⟨m.toArray⟩ c
 rw [show (!(Builtin.Str.occurrences ⟨m.toArray⟩ ⟨[c].toArray⟩ 0 (⟨m.toArray⟩ : Str).length 1).isEmpty) = decide (c ∈ m) from by simpa using e]
 exact q
theorem J1b : J1R X (.builtin "len") (fun xs H Q=>∃ l,xs = [T l] ∧ l.length ≤ sizeLine ∧ Q (.int l.length) H):=by
 intro pins s σ H xs us Q I r h
 obtain ⟨l,rfl,hz,q⟩:=h
 exact J50 pins s σ H _ us Q I r ⟨_,rfl,by rw [J21]; exact hz,by rw [J21]; exact q⟩
end
noncomputable def cutN {α : Type} (xs : List α) (lo hi : Option Int) : List α:=(xs.drop (HT.sIx xs.length 0 lo)).take (HT.sIx xs.length xs.length hi - HT.sIx xs.length 0 lo)
noncomputable def J7u (n : Nat) (d : Int) : Option Int → Int
 | none=>d
 | some i=>max 0 (min (if i < 0 then i + (n : Int) else i) (n : Int))
theorem J5J (n d : Nat) (o : Option Int) : J7u n (d : Int) o = ((HT.sIx n d o : Nat) : Int):=by
 cases o with
 | none=>rfl
 | some i =>
  show max 0 (min (if i < 0 then i + (n : Int) else i) (n : Int)) = (((if i < 0 then (i + (n : Int)).toNat else min i.toNat n) : Nat) : Int)
  by_cases hi : i < 0
  ·rw [if_pos hi,if_pos hi]; omega
  ·rw [if_neg hi,if_neg hi]; omega
theorem J9D (a b : Nat) : sliceRange (a : Int) (b : Int) 1 = (List.range (b - a)).map fun k=>a + k:=by
 unfold sliceRange
 simp only [show (1 : Int) > 0 by decide,if_true]
 have e1 : (if (a : Int) < (b : Int) then ((b : Int) - (a : Int) + 1 - 1) / 1 else 0).toNat = b - a:=by
  split <;> simp <;> omega
 rw [e1]
 refine List.map_congr_left fun k _=>?_
 omega
theorem J4P (lo hi : Option Int) (n : Nat) : Builtin.Str.strSliceIndices lo hi 1 n = (List.range (HT.sIx n n hi - HT.sIx n 0 lo)).map fun k=>HT.sIx n 0 lo + k:=by
 have e : Builtin.Str.strSliceIndices lo hi 1 n = sliceRange (J7u n ((0 : Nat) : Int) lo) (J7u n ((n : Nat) : Int) hi) 1:=by
  cases lo <;> cases hi <;> rfl
 rw [e,J5J,J5J,J9D]
theorem Jad (l : List Nat) (i k : Nat) : ((List.range k).map fun m=>i + m).filterMap (fun j=>l.toArray[j]?) = (l.drop i).take k:=by
 induction k generalizing i with
 | zero=>simp
 | succ k ih =>
  rw [List.range_succ_eq_map,List.map_cons,List.filterMap_cons,List.map_map]
  have e : ((fun m=>i + m) ∘ Nat.succ) = fun m=>(i + 1) + m:=by funext m; simp; omega
  rw [e,ih (i + 1)]
  by_cases h : i < l.length
  ·have : l.toArray[i + 0]? = some l[i]:=by simp [h]
   rw [this,List.drop_eq_getElem_cons h,List.take_succ_cons]
  ·have : l.toArray[i + 0]? = none:=by simp; omega
   rw [this,List.drop_eq_nil_of_le (by omega),List.drop_eq_nil_of_le (by omega)]
   simp
theorem J6M {α : Type} {l : List α} {lo hi : Option Int} (h : (cutN l lo hi).length = l.length) : cutN l lo hi = l:=by
 unfold cutN at h ⊢
 rw [List.length_take,List.length_drop] at h
 have h2:=HT.sIx_le l.length l.length (Nat.le_refl _) hi
 by_cases h0 : l.length = 0
 ·have : l = []:=List.length_eq_zero_iff.mp h0
  subst this; simp
 ·have e0 : HT.sIx l.length 0 lo = 0:=by omega
  rw [e0,List.drop_zero]
  exact List.take_of_length_le (by omega)
theorem J6N (l : List Nat) (lo hi : Option Int) : Txt.slice ⟨l.toArray⟩ lo hi = ⟨(cutN l lo hi).toArray⟩:=by
 unfold Txt.slice
 rw [J21,J4P]
 have e:=Jad l (HT.sIx l.length 0 lo) (HT.sIx l.length l.length hi - HT.sIx l.length 0 lo)
 have e2 : ((List.range (HT.sIx l.length l.length hi - HT.sIx l.length 0 lo)).map fun k=>HT.sIx l.length 0 lo + k).filterMap (fun x=>(⟨l.toArray⟩ : Str).cps[x]?) = cutN l lo hi:=e
 by_cases h : ((1 : Int) == 1 && ((List.range (HT.sIx l.length l.length hi - HT.sIx l.length 0 lo)).map fun k=>HT.sIx l.length 0 lo + k).length == l.length) = true
 ·rw [if_pos h]
  have h' : HT.sIx l.length l.length hi - HT.sIx l.length 0 lo = l.length:=by
   have:=((Bool.and_eq_true _ _).mp h).2
   simpa using this
  have : (cutN l lo hi).length = l.length:=by
   unfold cutN
   rw [List.length_take,List.length_drop]
   have:=HT.sIx_le l.length l.length (Nat.le_refl _) hi
   omega
  rw [J6M this]
 ·rw [if_neg h,e2]
section
variable {X : Cx}
noncomputable def rSlS : V → Option Int → Option Int → Hp → VK → Prop:=fun x lo hi H Q=>∃ l,x = T l ∧ l.length ≤ sizeLine ∧ Q (T (cutN l lo hi)) H
theorem J8g : SlR X rSlS:=by
 intro pins s σ H x v vl vu lo hi sl Q I rx hs pl pu h
 obtain ⟨l,rfl,hz,q⟩:=h
 obtain ⟨t,rfl⟩:=rx
 refine ⟨"str",_,F.slot_str_getitem.lookup,typeIs_str _ _ _,?_⟩
 have fin : ∀ t' k,EP X pins σ Q (.str (Txt.slice ⟨l.toArray⟩ lo hi) t') { s with toks:=k }:=fun t' k=>⟨T (cutN l lo hi),H,I.tok _,⟨t',by rw [J6N]⟩,q⟩
 have hlen : (Txt.slice ⟨l.toArray⟩ lo hi).length ≤ sizeLine:=Nat.le_trans (Txt.slice_le _ _ _) (by rw [J21]; exact hz)
 cases pl with
 | none =>
  cases pu with
  | none=>exact wpAny_getItem_str_slice (l:=none) (u:=none) (st:=none) hs rfl (post_val_or_str ⟨hlen,fin⟩)
  | int j uj=>exact wpAny_getItem_str_slice (l:=none) (u:=some (j,uj)) (st:=none) hs rfl (post_val_or_str ⟨hlen,fin⟩)
 | int i ui =>
  cases pu with
  | none=>exact wpAny_getItem_str_slice (l:=some (i,ui)) (u:=none) (st:=none) hs rfl (post_val_or_str ⟨hlen,fin⟩)
  | int j uj=>exact wpAny_getItem_str_slice (l:=some (i,ui)) (u:=some (j,uj)) (st:=none) hs rfl (post_val_or_str ⟨hlen,fin⟩)
end
theorem J90 (l : List Nat) (u : Tok) : Txt.sliceBy ⟨l.toArray⟩ none none (-1,u) = ⟨l.reverse.toArray⟩:=by
 have h:=step_rev_list ⟨l.toArray⟩ u
 have e : ((List.range (⟨l.toArray⟩ : Str).length).map fun k=>(⟨l.toArray⟩ : Str).cps.getD ((⟨l.toArray⟩ : Str).length - 1 - k) 0) = l.reverse:=by
  rw [J21]
  refine List.ext_getElem? fun i=>?_
  rw [List.getElem?_map]
  by_cases hi : i < l.length
  ·rw [List.getElem?_range hi,List.getElem?_reverse hi]
   have hj : l.length - 1 - i < l.length:=by omega
   rw [List.getElem?_eq_getElem hj]
   simp [hj]
  ·rw [List.getElem?_eq_none (by simpa using hi),List.getElem?_eq_none (by simpa using hi)]
   rfl
 rw [e] at h
 generalize Txt.sliceBy ⟨l.toArray⟩ none none (-1,u) = z at h
 obtain ⟨⟨zl⟩⟩:=z
 have h' : zl = l.reverse:=h
 rw [h']
noncomputable def tRev (te t3 : TE) : TE:=fun σ H Q=>te σ H fun x H1=>t3 σ H1 fun y H2=>y = .int (-1) ∧ ∃ l,x = T l ∧ l.length ≤ sizeLine ∧ Q (T l.reverse) H2
theorem J9O {X : Cx} {e e3 : Expr} {te t3 : TE} {pos p2 : Pos} (he : PE X e te) (h3 : PE X e3 t3) : PE X (.Subscript e (.Slice none none (some e3) p2) pos) (tRev te t3):=by
 intro pins s σ H Q I h
 refine Subscript_ (thn (he pins s σ H _ I h) fun v s1 ⟨x,H1,I1,r1,q1⟩=>?_)
 refine wpAny_Slice ?_
 rw [evalPart_none]
 refine wpAny_pure ?_
 refine wpAny_pure ?_
 rw [evalPart_some]
 refine thn (h3 pins s1 σ H1 _ I1 q1) fun vs s2 ⟨y,H2,I2,r2,hy,l,hx,hz,q⟩=>?_
 subst hy hx
 obtain ⟨t,rfl⟩:=r1
 obtain ⟨uk,rfl⟩:=r2
 have I4 : Inv X pins σ H2 { s2 with heap:=s2.heap.push { cls:=.type "slice",data:=.fields #[.none,.none,.int (-1) uk] } }:=I2.kept (t':=s2.toks) fun b ob q=>Heap.get?_push_of_some _ q
 have fin : ∀ t' k,EP X pins σ Q (.str (Txt.sliceBy ⟨l.toArray⟩ none none (-1,uk)) t') { s2 with heap:=s2.heap.push { cls:=.type "slice",data:=.fields #[.none,.none,.int (-1) uk] },toks:=k }:=fun t' k=>⟨T l.reverse,H2,I4.tok _,⟨t',by rw [J90]⟩,q⟩
 have hlen : (Txt.sliceBy ⟨l.toArray⟩ none none (-1,uk)).length ≤ sizeLine:=Nat.le_trans (Txt.sliceBy_le _ _ _ _ (show (-1 : Int) ≠ 0 by decide)) (by rw [J21]; exact hz)
 show wpAny (model X.prog X.w) X.A (subscriptTail e (.Slice none none (some e3) p2) (.str ⟨l.toArray⟩ t) (.ref s2.heap.objs.size)) (EP X pins σ Q) X.xe { s2 with heap:=s2.heap.push { cls:=.type "slice",data:=.fields #[.none,.none,.int (-1) uk] } }
 refine tail_any (ops:=[.ref s2.heap.objs.size,.str ⟨l.toArray⟩ t]) (typeIs_str _ _ _) F.slot_str_getitem.lookup ?_ (by with_unfolding_all rfl)
 exact wpAny_getItem_str_slice (l:=none) (u:=none) (st:=some (-1,uk)) ⟨_,Heap.get?_push_size _ rfl,rfl,rfl⟩ (by rfl) (post_val_or_str ⟨hlen,fin⟩)
noncomputable def Its (l : List Nat) : It:=⟨fun i _=>i < l.length,fun i H x H'=>H' = H ∧ ∃ c,l[i]? = some c ∧ x = T [c],fun i _=>l.length ≤ i⟩
theorem J7V {P : Program} {w : World} {K : PySem.W.Frag} {tg : Expr} {it : Addr} {l : List Nat} {t : Tok} {nm : String} (hn : nm = "str_ascii_iterator" ∨ nm = "str_iterator") :
  Turn P w K tg (Its l) [it] it (fun i h=>h.IsStrIter it nm ⟨l.toArray⟩ t i) where
 mem:=by simp
 obj:=fun i h st b hb=>by
  have e : b = it:=by simpa using hb
  subst e
  obtain ⟨o,e,c,d⟩:=st
  exact ⟨o,e,fun v z=>by rw [d] at z; cases z⟩
 keep:=fun i h h' st k=>by
  obtain ⟨o,e,r⟩:=st
  exact ⟨o,k it (by simp) o e,r⟩
 item:=by
  intro X hP hw hK hc i pins s σ H E I hf st hg
  subst hP hw hK
  obtain ⟨f0,f1,f2,f3,f4,f5⟩:=hf it (by simp)
  have hi : i < l.length:=hg
  have hx : (⟨l.toArray⟩ : Str).cps[i]? = some l[i]:=by simp [hi]
  have fin : ∀ h',h'.IsStrIter it nm ⟨l.toArray⟩ t (i + 1) → Heap.SameBut it s.heap h' → ∃ u,(some (Value.str ⟨#[l[i]]⟩ s.toks) : Option Value) = some u ∧
    wpAny (model X.prog X.w) X.A (letOwnedTupleGo tg (.ref it) u) (fun _ s2=>∃ x H',Inv X pins σ H' s2 ∧ RelV x u ∧ (Its l).yld i H x H' ∧ s2.heap.IsStrIter it nm ⟨l.toArray⟩ t (i + 1) ∧ ∀ b ∈ [it],H' b = none) E { s with heap:=h',toks:=s.toks + 1 }:=fun h' st' sb=>by
   have I1 : Inv X pins σ H { s with heap:=h',toks:=s.toks + 1 }:=I.turned (t':=s.toks + 1) (fun b o hb e=>(sb.2 b hb).trans e) f0 f1 f3 f4 f5
   obtain ⟨o,e,c,d⟩:=id st'
   refine ⟨_,rfl,J8e (s:={ s with heap:=h',toks:=s.toks + 1 }) e c d (by rcases hn with rfl | rfl <;> decide) ⟨T [l[i]],H,I1,⟨_,rfl⟩,⟨rfl,l[i],by simp [hi],rfl⟩,st',fun b hb=>(hf b hb).1⟩⟩
  rcases hn with rfl | rfl
  ·exact wpAny_pyNext_ascii_item st hx fin
  ·exact wpAny_pyNext_wide_item st hx fin
 done:=by
  intro X hP hw hK hc i pins s σ H E I hf st hg
  subst hP hw hK
  obtain ⟨f0,f1,f2,f3,f4,f5⟩:=hf it (by simp)
  have hi : l.length ≤ i:=hg
  have hx : (⟨l.toArray⟩ : Str).cps[i]? = none:=by simp; exact hi
  have fin : ∀ h',Heap.ExtBut it s.heap h' → (none : Option Value) = none ∧ Inv X pins σ H { s with heap:=h' }:=fun h' eb=>⟨rfl,I.turned (t':=s.toks) (fun b o hb e=>eb b o hb e) f0 f1 f3 f4 f5⟩
  rcases hn with rfl | rfl
  ·exact wpAny_pyNext_ascii_end (I.ok.hd hc) st hx fin
  ·exact wpAny_pyNext_wide_end (I.ok.hd hc) st hx fin
 self:=fun _ _ _ _ _ st h=>by
  rcases hn with rfl | rfl
  ·exact wpAny_pyIter_striter_ascii st h
  ·exact wpAny_pyIter_striter_wide st h
section
variable {X : Cx} {tg : Expr}
noncomputable def iTxt (tl : TE) : TI:=fun σ H R=>tl σ H fun x H1=>∃ l,x = T l ∧ R (Its l) H1
theorem J4O {e : Expr} {tl : TE} (hl : PE X e tl) : PI X tg e (iTxt tl):=by
 intro pins s σ H R I h
 refine thn (hl pins s σ H _ I h) fun v s1 ⟨x,H1,I1,r1,q1⟩=>?_
 obtain ⟨l,e,q⟩:=q1
 subst e
 obtain ⟨t,rfl⟩:=r1
 have fin : ∀ nm : String,(nm = "str_ascii_iterator" ∨ nm = "str_iterator") → PIE X pins σ tg R (.ref s1.heap.objs.size) { s1 with heap:=s1.heap.push { cls:=.type nm,data:=.fields #[.str ⟨l.toArray⟩ t,.int 0 0] } }:=fun nm hn=>by
  refine ⟨s1.heap.objs.size,[s1.heap.objs.size],_,_,H1,rfl,I1.kept (t':=s1.toks) fun b o e=>Heap.get?_push_of_some _ e,J7V (t:=t) hn,⟨_,Heap.get?_push_size _ rfl,rfl,rfl⟩,fun b hb=>?_,q⟩
  have e : b = s1.heap.objs.size:=by simpa using hb
  subst e
  exact I1.fpOk (Nat.le_refl _) (I1.hok.fresh (Nat.le_refl _))
 cases ha : (⟨l.toArray⟩ : Str).cps.all (· < 128) with
 | true=>exact wpAny_pyIter_ascii ha (fin _ (.inl rfl))
 | false=>exact wpAny_pyIter_wide ha (fin _ (.inr rfl))
end
theorem J2X {H : Hp} (l : List Nat) : J4E (Its l) H (l.map fun c=>T [c]) where
 go:=fun i H' s hi=>by rw [List.length_map] at hi; exact hi
 yld:=fun i H' x H'' s hi y=>by
  obtain ⟨e,c,hc,rfl⟩:=y
  exact ⟨e,by rw [List.getElem?_map,hc]; rfl⟩
 stop:=fun H' s=>by rw [List.length_map]; exact Nat.le_refl _
theorem J91 {l : List Nat} {g : TG} {tb : TS} {D : Ends} {σ : St} {H : Hp} (Pv : Nat → St → Hp → Prop) (h0 : Pv 0 σ H)
  (hs : ∀ i c σ H,l[i]? = some c → Pv i σ H → g (T [c]) σ H fun σ2 H2=>tb { D with nx:=Pv (i + 1),ct:=Pv (i + 1),bk:=D.nx } σ2 H2) (hd : ∀ σ H,Pv l.length σ H → D.nx σ H) :
  ∃ W : Nat → Nat → St → Hp → Prop,(∃ m,W 0 m σ H) ∧ ∀ i m σ H,W i m σ H →
   ((Its l).stop i H ∧ D.nx σ H) ∨ ((Its l).go i H ∧ ∃ N : St → Hp → Prop,(∀ σ' H',N σ' H' → ∃ m',m' < m ∧ W (i + 1) m' σ' H') ∧ ∀ x H',(Its l).yld i H x H' → g x σ H' fun σ2 H2=>tb { D with nx:=N,ct:=N,bk:=D.nx } σ2 H2):=by
 refine ⟨fun i m σ H=>m = l.length - i ∧ i ≤ l.length ∧ Pv i σ H,⟨l.length,by simp,Nat.zero_le _,h0⟩,?_⟩
 rintro i m σ H ⟨rfl,hi,p⟩
 by_cases hlt : i < l.length
 ·refine .inr ⟨hlt,Pv (i + 1),fun σ' H' p'=>⟨l.length - (i + 1),by omega,rfl,hlt,p'⟩,fun x H' y=>?_⟩
  obtain ⟨e,c,hc,rfl⟩:=y
  subst e
  exact hs i c σ _ hc p
 ·have e : i = l.length:=by omega
  subst e
  exact .inl ⟨Nat.le_refl _,hd σ H p⟩
theorem J4y : ∀ {ts : List (List Nat)} {us : List Value},Vals (ts.map T) us → PyProof.Rows.StrsAre us (ts.map fun l=>⟨l.toArray⟩)
 | [],_,h=>by cases h; exact .nil
 | l :: r,_,h=>by
  cases h with
  | cons r1 r2 =>
   obtain ⟨t,rfl⟩:=r1
   exact .cons _ t (J4y r2)
noncomputable def J3S (sep : List Nat) : List (List Nat) → List Nat
 | []=>[]
 | [x]=>x
 | x :: y :: r=>x ++ sep ++ J3S sep (y :: r)
theorem J5x (sep : List Nat) : ∀ ts : List (List Nat),Str.join ⟨sep.toArray⟩ (ts.map fun l=>⟨l.toArray⟩) = ⟨(J3S sep ts).toArray⟩
 | []=>rfl
 | [x]=>rfl
 | x :: y :: r=>by
  show (⟨x.toArray⟩ : Str) ++ ⟨sep.toArray⟩ ++ Str.join ⟨sep.toArray⟩ ((y :: r).map fun l=>⟨l.toArray⟩) = _
  rw [J5x sep (y :: r),J85,J85]
  rfl
theorem J2e : ∀ ts : List (List Nat),J3S [] ts = ts.flatten
 | []=>rfl
 | [x]=>by simp [J3S]
 | x :: y :: r=>by
  show x ++ [] ++ J3S [] (y :: r) = _
  rw [J2e (y :: r),List.append_nil]
  rfl
theorem J2I : ∀ cs : List Nat,(((cs.map fun c=>[c]).map List.length).sum) = cs.length
 | []=>rfl
 | c :: r=>by
  rw [List.map_cons,List.map_cons,List.sum_cons,J2I r]
  simp
  omega
theorem J2b : ∀ cs : List Nat,(cs.map fun c=>[c]).flatten = cs
 | []=>rfl
 | c :: r=>by
  rw [List.map_cons,List.flatten_cons,J2b r]
  rfl
section
variable {X : Cx}
noncomputable def J88 (K : PySem.W.Frag) : V → List V → Hp → VK → Prop:=fun x vs H Q=>∃ sep ts D,x = T sep ∧ vs = [.ref D] ∧ SqL K H D (ts.map T) ∧ (ts.map List.length).sum + ts.length * sep.length ≤ 16777216 ∧ Q (T (J3S sep ts)) H
theorem J8S : MtR X "str.join" (J88 X.K):=by
 intro pins s σ H x vs v us Q I rx rv h
 obtain ⟨sep,ts,D,rfl,rfl,hq,hz,q⟩:=h
 obtain ⟨t,rfl⟩:=rx
 obtain ⟨u,rfl,ru⟩:=rv.one
 cases ru
 obtain ⟨its,r,pl,_⟩:=I.list hq
 refine join_list (ys:=ts.map fun l=>⟨l.toArray⟩) pl.isList (by simpa using J4y r) ?_ fun t' k=>⟨T (J3S sep ts),H,I.tok _,⟨t',?_⟩,q⟩
 ·rw [List.map_map,List.length_map,J21]
  have e : ((fun x=>x.length) ∘ fun l : List Nat=>(⟨l.toArray⟩ : Str)) = List.length:=by funext l; exact J21 l
  rw [e]
  exact hz
 ·rw [← J5x]
  show Value.str (Builtin.Str.glued _ _) t' = _
  rw [StrLaws.glued_eq_join]
end
theorem J8L {X : Cx} {o e : Expr} {to : TE} {t : TA} {apos cpos : Pos} (ho : PE X o to) (ha : PA X [e] t)
  (hbase : attributeBase o "join" X.env (eval o X.env) = eval o X.env:=by rfl)
  (hfew : ((backTo cpos (starEach [e] X.env)).all (fun x=>!x.1) && (backToKw cpos (keywordEach [] X.env)).all (fun x=>x.1.isSome)
   && decide ([e].length + ([] : List Keyword).length + (if ([] : List Keyword).isEmpty then 0 else 1) < 30)) = true:=by rfl)
  (hline : (apos.endLine == cpos.line) = true:=by rfl) (hs : starEach [e] X.env = (false,eval e X.env) :: starEach [] X.env:=by rfl) (hplain : (backTo cpos (starEach [] X.env)).any (·.1) = false:=by rfl) :
  PE X (.Call (.Attribute o "join" apos) [e] [] cpos) (tBM X.K "str" (J88 X.K) to t) :=
 J3e F.plainAttrs_str F.slot_str_join F.type_str_join J8S ho ha hbase hfew hline hs hplain
section
variable {X : Cx}
theorem J4C : J1R X (.builtin "isinstance") (fun xs H Q=>(∃ b,xs = [.bl b,.ty "bool"] ∧ Q (.bl true) H) ∨ (∃ i,xs = [.int i,.ty "bool"] ∧ Q (.bl false) H) ∨ (∃ i,xs = [.int i,.ty "int"] ∧ Q (.bl true) H) ∨ (∃ x,xs = [.str x,.ty "str"] ∧ Q (.bl true) H) ∨
  (∃ p ys,xs = [.ref p,.ty "list"] ∧ H p = some (.lst ys) ∧ Q (.bl true) H)):=by
 intro pins s σ H xs us Q I r h
 rcases h with ⟨b,rfl,q⟩ | ⟨i,rfl,q⟩ | ⟨i,rfl,q⟩ | ⟨x,rfl,q⟩ | ⟨p,ys,rfl,hp,q⟩
 ·obtain ⟨u,v,rfl,r1,r2⟩:=r.two
  cases r1; cases r2
  exact PySem.W.kia_one PySem.W.kitx_bool I.kIn True.intro (by rfl) (fun z=>nomatch z) fun tk=>⟨.bl true,H,I.tok _,rfl,q⟩
 ·obtain ⟨u,v,rfl,r1,r2⟩:=r.two
  obtain ⟨t,rfl⟩:=r1; cases r2
  exact PySem.W.kia_one PySem.W.kitx_int I.kIn True.intro (by rfl) (fun z=>nomatch z) fun tk=>⟨.bl false,H,I.tok _,rfl,q⟩
 ·obtain ⟨u,v,rfl,r1,r2⟩:=r.two
  obtain ⟨t,rfl⟩:=r1; cases r2
  exact PySem.W.kia_one PySem.W.kitx_int I.kIn True.intro (by rfl) (fun z=>nomatch z) fun tk=>⟨.bl true,H,I.tok _,rfl,q⟩
 ·obtain ⟨u,v,rfl,r1,r2⟩:=r.two
  obtain ⟨t,rfl⟩:=r1; cases r2
  exact PySem.W.kia_one PySem.W.kitx_str I.kIn True.intro (by rfl) (fun z=>nomatch z) fun tk=>⟨.bl true,H,I.tok _,rfl,q⟩
 ·obtain ⟨u,v,rfl,r1,r2⟩:=r.two
  cases r1; cases r2
  obtain ⟨_,its,n,_,h1⟩:=I.hok p _ hp
  exact PySem.W.kia_one PySem.W.kitx_list I.kIn ⟨_,h1,rfl⟩ (by rfl) (fun z=>nomatch z) fun tk=>⟨.bl true,H,I.tok _,rfl,q⟩
end
end L2
set_option linter.all false
set_option maxRecDepth 100000
set_option maxHeartbeats 4000000
namespace L2
open PySem PySem.Spec PyProof.Rows
open Builtin Builtin.Str
section
variable {prog : Program} {w : World} {A : Around} {E : Value → Shared → Prop} {s : Shared}
end
section
variable {X : Cx} {es : List Expr} {k : Nat} {tpos : Pos}
end
end L2
set_option linter.all false
set_option maxRecDepth 100000
set_option maxHeartbeats 4000000
namespace L2
open PySem PySem.Spec PyProof.Rows
end L2
set_option linter.all false
set_option maxRecDepth 100000
set_option maxHeartbeats 4000000
namespace L2
open PySem PySem.Spec PyProof.Rows
noncomputable def GF (K : PySem.W.Frag) (mg : Str → Option Value) (x : Str) (st : Stmt) : Prop:=∃ f fd,Fun K x x st f fd ∧ mg x = some (.ref f)
noncomputable def FnG (P : Program) (w : World) (K : PySem.W.Frag) (mg : Str → Option Value) (base : Heap) (x : Str) (k : Nat) (ps : List Str) (sp : Sp) : Prop :=
 ∃ f fd,FnOk P w K mg base CX0 k f fd ps sp ∧ mg x = some (.ref f) ∧ PySem.W.keepIn K (.ref f) = true ∧ J20 K fd ps []
noncomputable def MF (K : PySem.W.Frag) (C : Addr) (m qual : Str) (st : Stmt) : Prop:=∃ f fd,Fun K m qual st f fd ∧ Meth K C m f
noncomputable def MtG (P : Program) (w : World) (K : PySem.W.Frag) (mg : Str → Option Value) (base : Heap) (C : Addr) (m : Str) (k : Nat) (ps : List Str) (sp : Sp) : Prop :=
 ∃ f fd,FnOk P w K mg base CX0 k f fd ps sp ∧ Cls K C ∧ Meth K C m f ∧ J20 K fd ps []
structure CF (K : PySem.W.Frag) (mg : Str → Option Value) (x : Str) (C : Addr) : Prop where
 cl : Cls K C
 mg : mg x = some (.ref C)
 makes : PySem.W.makesIn K C = true
 kp : PySem.W.keepIn K (.ref C) = true
noncomputable def MkG (P : Program) (w : World) (K : PySem.W.Frag) (mg : Str → Option Value) (base : Heap) (C : Addr) (x : Str) (k : Nat) (ps : List Str) (sp : Sp) : Prop :=
 ∃ f fd,FnOk P w K mg base CX0 k f fd ps sp ∧ Mk K C f ∧ mg x = some (.ref C) ∧ J20 K fd ps []
section
variable {P : Program} {w : World} {K : PySem.W.Frag} {mg : Str → Option Value} {base : Heap}
theorem GF.g {x : Str} {st : Stmt} {N ps : List Str} {k : Nat} {sp : Sp} (F : GF K mg x st) (S : Jp N ps (J4 st))
  (bnd : ∀ (kV doc pm : Value) (an : Option Addr) (cdv ct : Value) (us : List Value),us.length = ps.length → bindArgs (PySem.W.fnOf x x (Jn st) (Jk st) (J4 st) .none kV doc pm an cdv ct) ⟨us,[]⟩ = pure (ps.zip us))
  (len : ∀ vs H Q E,sp vs H Q E → vs.length = ps.length)
  (hbody : ∀ (f : Addr) (cdv : Value) (A : Around) (outer : List Env) (s : Shared) (H : Hp) (vs : List V) (Q : VK) (E : XK),Room k (A.deeper (envOfC x (J4 st) s.heap.objs.size f cdv)) → sp vs H Q E →
   ∃ t,PSs (cxOf CX0 P w K mg base N x (J4 st) f cdv A outer s H E).nox (Jk st) t ∧ t { nx:=fun _ H'=>Q .non H',rt:=Q } (start N vs) H) : FnG P w K mg base x (k + 1) ps sp:=by
 obtain ⟨f,fd,F,m⟩:=F
 exact ⟨f,fd,F.ok S len fun cdv A outer s H vs Q E hr h=>hbody f cdv A outer s H vs Q E hr h,m,F.kp,F.binds bnd⟩
theorem MF.g {C : Addr} {m qual : Str} {st : Stmt} {N ps : List Str} {k : Nat} {sp : Sp} (F : MF K C m qual st) (cl : Cls K C) (S : Jp N ps (J4 st))
  (bnd : ∀ (kV doc pm : Value) (an : Option Addr) (cdv ct : Value) (us : List Value),us.length = ps.length → bindArgs (PySem.W.fnOf m qual (Jn st) (Jk st) (J4 st) .none kV doc pm an cdv ct) ⟨us,[]⟩ = pure (ps.zip us))
  (len : ∀ vs H Q E,sp vs H Q E → vs.length = ps.length)
  (hbody : ∀ (f : Addr) (cdv : Value) (A : Around) (outer : List Env) (s : Shared) (H : Hp) (vs : List V) (Q : VK) (E : XK),Room k (A.deeper (envOfC qual (J4 st) s.heap.objs.size f cdv)) → sp vs H Q E →
   ∃ t,PSs (cxOf CX0 P w K mg base N qual (J4 st) f cdv A outer s H E).nox (Jk st) t ∧ t { nx:=fun _ H'=>Q .non H',rt:=Q } (start N vs) H) : MtG P w K mg base C m (k + 1) ps sp:=by
 obtain ⟨f,fd,F,m⟩:=F
 exact ⟨f,fd,F.ok S len fun cdv A outer s H vs Q E hr h=>hbody f cdv A outer s H vs Q E hr h,cl,m,F.binds bnd⟩
theorem CF.g {C : Addr} {x : Str} {k : Nat} {ps : List Str} {sp : Sp} (c : CF K mg x C) (G : MtG P w K mg base C "__init__" k ps sp) : MkG P w K mg base C x k ps sp:=by
 obtain ⟨f,fd,a,_,m,b⟩:=G
 exact ⟨f,fd,a,⟨c.makes,m.at_,m.fn,c.kp⟩,c.mg,b⟩
end
section
variable {X : Cx} {x m : Str} {k : Nat} {ps : List Str} {sp : Sp} {C : Addr} {p pos apos : Pos} {e o : Expr} {es : List Expr} {t : TA} {to : TE}
theorem JY (G : FnG X.prog X.w X.K X.mg X.base x k ps sp) (hr : Room k X.A) (ha : PA X (e :: es) t) (hg : Gl X x:=by rfl) (hdb : (x == ("__debug__" : Str)) = false:=by decide)
  (he : starEach (e :: es) X.env = (false,eval e X.env) :: starEach es X.env:=by rfl) (hpl : (backTo pos (starEach es X.env)).any (·.1) = false:=by rfl) : PE X (.Call (.Name x p) (e :: es) [] pos) (J6w sp [] E0 t):=by
 obtain ⟨f,fd,a,b,c,d⟩:=G
 exact J6r a hr hg b c d .nil J7A ha hdb he hpl
theorem J5C {pl : Sem Bool} (G : MtG X.prog X.w X.K X.mg X.base C m k ps sp) (hr : Room k X.A) (ho : PE X o to) (ha : PA X (e :: es) t)
  (hst : starEach (e :: es) X.env = (false,eval e X.env) :: starEach es X.env:=by rfl) (hpl : (backTo pos (starEach es X.env)).any (·.1) = false:=by rfl)
  (ht : eval (.Call (.Attribute o m apos) (e :: es) [] pos) X.env = (do
   let ov ← eval o X.env
   standAt apos.atName
   let (f,first) ← holding [ov] (getMethod ov m pl)
   callWith pos f first (backTo pos (starEach (e :: es) X.env)) (backToKw pos (keywordEach [] X.env))):=by rfl) :
  PE X (.Call (.Attribute o m apos) (e :: es) [] pos) (J9c C m sp [] E0 to t):=by
 obtain ⟨f,fd,a,b,c,d⟩:=G
 exact J8H (pl:=pl) ho b c a hr d .nil J7A ha hst hpl ht
theorem J8i {n : Str} {T : String} (hm : X.mg n = none) (hv : bootBuiltins n = some (.type T)) (hg : Gl X n:=by rfl) (hn : n ≠ "__name__":=by decide) (hd : (n == ("__debug__" : Str)) = false:=by decide) : PE X (.Name n pos) (tC (.ty T)) :=
 J8Q hg hm hv rfl hn hd
end
section
variable {X : Cx} {K : PySem.W.Frag}
theorem Ju (h : X.K = K) : IxR X (rIxL K):=h ▸ J8W
theorem J1J (h : X.K = K) : IxR X (rIxT K):=h ▸ J9B
theorem J7x (h : X.K = K) : SlR X (rSlL K):=h ▸ J8Z
theorem JM (h : X.K = K) : J1R X (.builtin "len") (fun xs H Q=>∃ p ys,xs = [.ref p] ∧ (SqL K H p ys ∨ SqT K H p ys) ∧ Q (.int ys.length) H):=h ▸ J54
theorem J18 {e : Expr} {f : Str} {ta : TE} {pos : Pos} (h : X.K = K) (he : PE X e ta) (hb : attributeBase e f X.env (eval e X.env) = eval e X.env) : PE X (.Attribute e f pos) (tFld K ta f):=h ▸ J9J he hb
theorem J3R {o e : Expr} {to : TE} {t : TA} {apos cpos : Pos} (h : X.K = K) (ho : PE X o to) (ha : PA X [e] t)
  (hbase : attributeBase o "join" X.env (eval o X.env) = eval o X.env:=by rfl)
  (hfew : ((backTo cpos (starEach [e] X.env)).all (fun x=>!x.1) && (backToKw cpos (keywordEach [] X.env)).all (fun x=>x.1.isSome)
   && decide ([e].length + ([] : List Keyword).length + (if ([] : List Keyword).isEmpty then 0 else 1) < 30)) = true:=by rfl)
  (hline : (apos.endLine == cpos.line) = true:=by rfl) (hs : starEach [e] X.env = (false,eval e X.env) :: starEach [] X.env:=by rfl) (hplain : (backTo cpos (starEach [] X.env)).any (·.1) = false:=by rfl) :
  PE X (.Call (.Attribute o "join" apos) [e] [] cpos) (tBM K "str" (J88 K) to t):=h ▸ J8L ho ha hbase hfew hline hs hplain
theorem J03 {tg l : Expr} {tl : TE} (h : X.K = K) (hl : PE X l tl) : PI X tg l (J9e K tl):=h ▸ J8X hl
end
theorem J6T : bootBuiltins "str" = some (.type "str"):=by decide +kernel
theorem J0t : bootBuiltins "list" = some (.type "list"):=by decide +kernel
theorem J9A : bootBuiltins "max" = some (.builtin "max"):=by decide +kernel
theorem J9C : bootBuiltins "min" = some (.builtin "min"):=by decide +kernel
theorem J0I : bootBuiltins "isinstance" = some (.builtin "isinstance"):=by decide +kernel
end L2
set_option linter.all false
set_option maxRecDepth 100000
set_option maxHeartbeats 4000000
namespace L2
open PySem PySem.Spec PyProof.Rows
theorem Vals.rel {xs : List V} {us : List Value} (r : Vals xs us) : ∀ (j : Nat) (h1 : j < xs.length) (h2 : j < us.length),RelV xs[j] us[j]:=by
 induction r with
 | nil=>intro j h1; simp at h1
 | cons a t ih =>
  intro j h1 h2
  cases j with
  | zero=>exact a
  | succ j=>exact ih j (by simpa using h1) (by simpa using h2)
noncomputable def eqVs : List V → List V → Bool
 | [],[]=>true
 | x :: xs,y :: ys=>eqV x y && eqVs xs ys
 | _,_=>false
theorem J3D : ∀ {xs ys : List V},xs.length ≠ ys.length → eqVs xs ys = false
 | [],[],h=>absurd rfl h
 | [],_ :: _,_=>rfl
 | _ :: _,[],_=>rfl
 | x :: xs,y :: ys,h=>by
  have : xs.length ≠ ys.length:=fun e=>h (by simp [e])
  rw [eqVs,J3D this,Bool.and_false]
theorem J2v : ∀ {xs ys : List V},xs.length = ys.length → (List.range xs.length).all (fun j=>eqV (xs.getD j .non) (ys.getD j .non)) = eqVs xs ys
 | [],[],_=>rfl
 | [],_ :: _,h=>by simp at h
 | _ :: _,[],h=>by simp at h
 | x :: xs,y :: ys,h=>by
  have h' : xs.length = ys.length:=by simpa using h
  rw [List.length_cons,List.range_succ_eq_map,List.all_cons,List.all_map,eqVs,← J2v h']
  rfl
section
variable {X : Cx} {K : PySem.W.Frag}
theorem J5W {A : Around} {s : Shared} {xs ys : List V} {ia ib : List Value} (ra : Vals xs ia) (rb : Vals ys ib) (fx : xs.all JZ = true) (fy : ys.all JZ = true) :
  ∀ j (h1 : j < ia.toArray.size) (h2 : j < ib.toArray.size),SeqAt.EqAt A s ia.toArray[j] ib.toArray[j] (eqV (xs.getD j .non) (ys.getD j .non)):=by
 intro j h1 h2
 have la:=ra.length
 have lb:=rb.length
 have g1 : j < ia.length:=by simpa using h1
 have g2 : j < ib.length:=by simpa using h2
 have e1 : xs.getD j .non = xs[j]'(by omega):=by rw [List.getD_eq_getElem?_getD,List.getElem?_eq_getElem (by omega)]; rfl
 have e2 : ys.getD j .non = ys[j]'(by omega):=by rw [List.getD_eq_getElem?_getD,List.getElem?_eq_getElem (by omega)]; rfl
 rw [e1,e2]
 have k1:=ra.rel j (by omega) g1
 have k2:=rb.rel j (by omega) g2
 have q:=J8y (A:=A) (s:=s) k1 k2 (List.all_eq_true.mp fx _ (List.getElem_mem _)) (List.all_eq_true.mp fy _ (List.getElem_mem _))
 simpa using q
noncomputable def rEqL (K : PySem.W.Frag) (neg : Bool) : R2:=fun x y H Q=>∃ p r xs ys,x = .ref p ∧ y = .ref r ∧ SqL K H p xs ∧ SqL K H r ys ∧ xs.all JZ = true ∧ ys.all JZ = true ∧ Q (.bl (if neg then !eqVs xs ys else eqVs xs ys)) H
theorem J82 (h : X.K = K) (hu : X.A.units < cLine) : OpR X (compareOp .NotEq) (rEqL K true):=by
 subst h
 intro pins s σ H x y v u Q I rx ry h
 obtain ⟨p,r,xs,ys,rfl,rfl,hp,hr,fx,fy,q⟩:=h
 cases rx; cases ry
 obtain ⟨ia,ra,pa,za⟩:=I.list hp
 obtain ⟨ib,rb,pb,zb⟩:=I.list hr
 have la:=ra.length
 have lb:=rb.length
 have q' : Q (.bl (!eqVs xs ys)) H:=q
 by_cases hsz : xs.length = ys.length
 ·refine SeqAt.RcNeAt.lists (e:=fun j=>eqV (xs.getD j .non) (ys.getD j .non)) pa.isList pb.isList (by simp; omega) hu (J5W ra rb fx fy) _ _ _ _ ⟨.bl _,H,I,rfl,?_⟩
  rw [List.size_toArray,← la,J2v hsz]
  exact q'
 ·refine SeqAt.RcNeAt.lists_lengths pa.isList pb.isList (by simp; omega) hu _ _ _ _ ⟨.bl true,H,I,rfl,?_⟩
  rw [J3D hsz] at q'
  exact q'
end
end L2
set_option linter.all false
set_option maxRecDepth 100000
set_option maxHeartbeats 4000000
namespace L2
open PySem PySem.Spec PyProof.Rows
section
variable {X : Cx} {K : PySem.W.Frag}
end
section
variable {prog : Program} {w : World} {A : Around} {E : Value → Shared → Prop} {s : Shared}
end
section
variable {X : Cx} {K : PySem.W.Frag} {pos : Pos}
end
end L2
set_option linter.all false
set_option maxRecDepth 100000
set_option maxHeartbeats 4000000
namespace L2
open PySem PySem.Spec PyProof.Rows
section
variable {X : Cx} {es : List Expr} {k : Nat} {tpos : Pos}
end
end L2
set_option linter.all false
set_option maxRecDepth 100000
set_option maxHeartbeats 4000000
namespace L2
open PySem PySem.Spec PyProof.Rows
section
variable {X : Cx} {elt tg iter : Expr} {ifs : List Expr} {scope : Scope} {pos : Pos} {N : List Str} {js : List (Option Nat)} {wi : TI} {g : TG} {tc : TT} {te : TE}
theorem J3m {osc : Scope} {ON : List Str} {k : Nat} {y : Str} {py spos : Pos} (hN : X.N.Nodup) (hk : X.N[k]? = some y) (hky : Loc X.env.scope y) (cs : J28 osc ON scope N js) (ho : X.env.scope = osc) (hON : X.N = ON) (hc : X.calm = true) (hi : PI X tg iter wi)
    (hg : ∀ s₀ H₀ cl C ex,PG (J0m X scope N s₀ H₀ cl C ex) tg g) (hif : ∀ s₀ H₀ cl C ex,PIfs (J0m X scope N s₀ H₀ cl C ex) ifs tc) (he : ∀ s₀ H₀ cl C ex,PE (J0m X scope N s₀ H₀ cl C ex) elt te)
    (hsw : swapsWith (.ListComp elt [⟨tg,iter,ifs,0⟩] scope pos) (some (.Name y py)) spos.line X.env = pure true:=by rfl)
    (hs : ∀ x,foldedSetIterable iter X.env x = pure x:=by intro _; rfl) (hf : X.fn y = true ∨ X.env.scope.names.lookup y = some .local:=by first | exact .inl rfl | exact .inr rfl | assumption) :
    PS X (.Assign [.Name y py] (.ListComp elt [⟨tg,iter,ifs,0⟩] scope pos) spos) (tAsg (J7O wi (subσ js) g tc te) (J4m k)):=by
  intro pins s σ H Dn I h0
  have h : J7O wi (subσ js) g tc te σ H (fun v H'=>Dn.nx (σ.set k (some v)) H'):=h0
  subst ho hON
  obtain ⟨cl,hcl,cl1,cl2⟩:=J2l (scope:=scope) (env:=X.env) fun y hy hf=>I.ok.has y.1 (cs.free y hy hf)
  rw [exec_Assign_Name_used _ _ _ _ hsw]
  refine wpAny_bind (wpAny_standAt (wpAny_bind ?_))
  show wpAny _ X.A (do let _ ← comprehension (.ListComp elt [⟨tg,iter,ifs,0⟩] scope pos) scope X.env _ (newList []) false (eval iter X.env) (some (assign (.Name y py) X.env))) _ _ s
  refine wpAny_bind (wpAny_mono (wpAny_comprehension_free (use:=some (assign (.Name y py) X.env)) (Q:=fun _ s'=>SP X pins Dn .next s') rfl hs hcl cs.kind cs.names ?_) (fun _ s' hq=>wpAny_pure (wpAny_pure hq)) fun _ _ e=>e)
  refine thn (hi pins s σ H _ I h) fun v s1 h1=>thn h1 fun itv s2 h2=>?_
  obtain ⟨it,fp,tn,J,H2,e,I2,T,st2,f2,hW⟩:=h2
  subst e
  have hD0 : H2 s2.heap.objs.size = none:=I2.hok.fresh (Nat.le_refl _)
  obtain ⟨W,⟨m0,w0⟩,turn⟩:=hW s2.heap.objs.size hD0
  have I3:=I2.lnew (t':=s2.toks) (ys:=[]) (its:=[]) .nil (Nat.zero_le _)
  refine wpAny_newObj_type (wpAny_newFunctionEnv cs.cell (by intro y hy; simp at hy) (fun h₁ hns₁ hsb₁=>?_) cs.kind)
  dsimp only at hns₁ hsb₁ ⊢
  obtain ⟨s3,hs3⟩ : ∃ s3 : Shared,s3 = { s2 with heap:=s2.heap.push { cls:=.type "list",data:=.seq ([] : List Value).toArray },toks:=s2.toks }:=⟨_,rfl⟩
  rw [← hs3] at I3
  have e3 : s3.heap = s2.heap.push { cls:=.type "list",dict:=none,data:=.seq ([] : List Value).toArray }:=by rw [hs3]
  have e3o : s3.os = s2.os:=by rw [hs3]
  have e3g : s3.gens = s2.gens:=by rw [hs3]
  rw [← e3] at hns₁ hsb₁ ⊢
  obtain ⟨H3,hH3⟩ : ∃ H3 : Hp,H3 = upd H2 s2.heap.objs.size (.lst []):=⟨_,rfl⟩
  rw [← hH3] at I3 w0
  have up1 : ∀ b o,s2.heap.get? b = some o → s3.heap.get? b = some o:=fun b o q=>by rw [e3]; exact Heap.get?_push_of_some _ q
  have up2 : ∀ b o,s3.heap.get? b = some o → h₁.get? b = some o:=fun b o q=>hsb₁.extBut b o (Nat.ne_of_lt (Heap.lt_size q)) (Heap.get?_push_of_some _ q)
  have fpo : ∀ b ∈ fp,∃ o,s3.heap.get? b = some o:=fun b hb=>by
    obtain ⟨o,ho,_⟩:=T.obj 0 _ st2 b hb
    exact ⟨o,up1 b o ho⟩
  have fr3 : ∀ b ∈ fp,H3 b = none:=fun b hb=>by
    obtain ⟨o,ho,_⟩:=T.obj 0 _ st2 b hb
    rw [hH3,Jc (Nat.ne_of_lt (Heap.lt_size ho))]
    exact (f2 b hb).1
  have fpC : ∀ b ∈ fp,b ≠ s3.heap.objs.size:=fun b hb=>by
    obtain ⟨o,ho⟩:=fpo b hb
    exact Nat.ne_of_lt (Heap.lt_size ho)
  have fpS : ∀ b ∈ fp,b ∉ frs X.stack:=fun b hb hs'=>by
    rcases List.mem_cons.mp (I2.stkSub b hs') with z | z
    · exact (f2 b hb).2.1 z
    · exact (f2 b hb).2.2.1 z
  have ok' : (J0m X scope N s3 H3 cl s3.heap.objs.size fp).Ok:=by
    refine ⟨I.ok.mod,cs.kind,I.ok.glob,I.ok.blt,Nat.le_refl _,fun x y c e1 e2=>I.ok.inj x y c (cl2 x c e1) (cl2 y c e2),fun x hx=>?_,fun x c hf=>(nomatch hf),I.ok.hd,I.ok.frames,.inl rfl,fun b hb=>⟨fpC b hb,fun x c e=>(f2 b hb).2.2.2.2.1 x c (cl2 x c e)⟩,
      I3.bs,Nat.le_trans I.ok.bsz I3.sz,fun b o e hb=>?_,fun b hb=>fpS b hb,I3.stack,I3.stkFree⟩
    · have hm : (x,NameKind.free) ∈ scope.names:=J1O cs.cell hx
      obtain ⟨c,hc⟩:=I.ok.has x (cs.free _ hm rfl)
      exact ⟨c,(cl1 _ hm rfl).trans hc⟩
    · rcases (f2 b hb).2.2.2.1 with z | z
      · exact I.ok.noex b o e z
      · exact absurd (Nat.lt_of_lt_of_le (Heap.lt_size e) (Nat.le_trans I.ok.bsz z)) (Nat.lt_irrefl _)
  have cellK : ∀ c v,s3.heap.IsCell c v → h₁.IsCell c v:=fun c v ⟨o,ho,hd⟩=>⟨o,up2 c o ho,hd⟩
  have I4 : ∀ t : Nat,Inv (J0m X scope N s3 H3 cl s3.heap.objs.size fp) [] (subσ js σ) H3 { s2 with heap:=h₁,toks:=t }:=fun t=>by
    refine ⟨ok',e3o.symm,I2.bare,Un.kept up2,⟨_,hns₁,fun i x v hi hv hx=>?_⟩,fun x c e=>?_,I3.hok.fresh (Nat.le_refl _),fun x c e=>I3.freeC x c (cl2 x c e),fun p hp=>(nomatch hp),I3.hok.kept up2,?_⟩
    ·
      have hv' : ∃ j,js[i]? = some (some j) ∧ σ[j]? = some (some v):=by
        unfold subσ at hv
        rw [List.getElem?_map] at hv
        cases hj : js[i]? with
        | none=>rw [hj] at hv; cases hv
        | some o =>
          rw [hj] at hv
          cases o with
          | none=>cases hv
          | some j =>
            refine ⟨j,rfl,?_⟩
            have hv2 : (σ[j]?).join = some v:=Option.some.inj hv
            cases hs2 : σ[j]? with
            | none=>rw [hs2] at hv2; cases hv2
            | some u=>rw [hs2] at hv2; exact congrArg some hv2
      obtain ⟨j,hj,hσ⟩:=hv'
      obtain ⟨x',h1',h2',h3'⟩:=cs.sub i j hj
      have hxx : x = x':=Option.some.inj (hi.symm.trans h1')
      subst hxx
      have hm : (x,NameKind.free) ∈ scope.names:=mem_of_lookup h3'
      have hk:=cs.free _ hm rfl
      obtain ⟨m,hn,hl⟩:=id I3.loc
      obtain ⟨u,ru,lk⟩:=hl j x v h2' hσ (by rcases hk with z | z; exact .inr (.inl z); exact .inr (.inr z))
      refine ⟨u,ru,?_⟩
      rcases lk with ⟨k1,_⟩ | ⟨k1,c,e1,z⟩
      · rcases hk with z | z <;> (rw [show X.env.kindOf x = _ from z] at k1; cases k1)
      · exact .inr ⟨J0B h3',c,(cl1 _ hm rfl).trans e1,cellK c _ z⟩
    · obtain ⟨v,z⟩:=I3.cell x c (cl2 x c e)
      exact ⟨v,cellK c v z⟩
    · unfold subσ
      rw [List.length_map]
      exact cs.len
  have hst₁ : tn 0 h₁:=T.keep 0 _ _ st2 fun b hb o q=>up2 b o (up1 b o q)
  have stat : ∀ {H' : Hp},(∀ b ∈ fp,H' b = none) → ∀ b ∈ fp,FpOk (J0m X scope N s3 H3 cl s3.heap.objs.size fp) [] H' b:=fun hn b hb =>
    ⟨hn b hb,fpC b hb,fpS b hb,.inl hb,fun x c e=>(f2 b hb).2.2.2.2.1 x c (cl2 x c e),fun p hp=>(nomatch hp)⟩
  have loop : ∀ s4 : Shared,(∃ t,s4 = { s2 with heap:=h₁,toks:=t }) →
      codeAny (model X.prog X.w) X.A (.compLoop (.ListComp elt [⟨tg,iter,ifs,0⟩] scope pos) 0 (.ref it) (.ref s2.heap.objs.size) (compEnvC scope cl s3.heap.objs.size X.env))
        (compPost (model X.prog X.w) X.A X.xe (some (assign (.Name y py) X.env)) (fun _ s'=>SP X pins Dn .next s') (.ref s2.heap.objs.size) s3.heap.objs.size) s4:=by
    rintro s4 ⟨t,rfl⟩
    refine J2H (fun n s'=>∃ i σ' ys H',Inv (J0m X scope N s3 H3 cl s3.heap.objs.size fp) [] σ' H' s' ∧ tn i s'.heap ∧ (∀ b ∈ fp,H' b = none) ∧ W i n σ' ys H') ?_ m0 ⟨0,_,[],H3,I4 t,hst₁,fr3,w0⟩
    rintro n s5 ⟨i,σ5,ys,H5,I5,st5,fr5,w5⟩
    rcases turn i n σ5 ys H5 w5 with ⟨stop,qn⟩ | ⟨go,step⟩
    · refine thn (T.done (J0m X scope N s3 H3 cl s3.heap.objs.size fp) rfl rfl rfl hc i [] s5 σ5 H5 _ I5 (stat fr5) st5 stop) fun r s6 ⟨hr,I6⟩=>?_
      subst hr
      obtain ⟨m,hn,_⟩:=id I6.loc
      have IX : ∀ h',Heap.SameBut s3.heap.objs.size s6.heap h' → Inv X pins σ H5 { s6 with heap:=h' }:=fun h' hs'=>by
        have neC : ∀ b o,s3.heap.get? b = some o → b ≠ s3.heap.objs.size:=fun b o q=>Nat.ne_of_lt (Heap.lt_size q)
        have un : Un (frs X.stack) fp H3 H5 s3.heap h' :=
          ⟨fun b o q n1 hb hx=>(hs'.2 b (neC b o q)).trans (I6.base.keep b o q n1 hb hx),
           fun b o q n1 hb hx=>by
             obtain ⟨sl,e⟩:=I6.base.slot b o q n1 hb hx
             exact ⟨sl,(hs'.2 b (neC b o q)).trans e⟩,
           fun b o q n1 hx=>I6.base.free b o q n1 hx,
           fun b o q hx=>by
             obtain ⟨o',e⟩:=I6.base.there b o q hx
             exact ⟨o',(hs'.2 b (neC b o q)).trans e⟩,
           I6.base.tups,I6.base.frzs,I6.base.tbls⟩
        refine I3.call' (ch:=fp) (s':={ s6 with heap:=h' }) I6.os un (fun b ob e=>?_) I6.bare (fun b hb=>⟨(f2 b hb).2.2.2.1,(f2 b hb).2.1,(f2 b hb).2.2.2.2.1,(f2 b hb).2.2.2.2.2⟩)
        refine (I6.hok b ob e).stay (fun c w' hc' q=>(hs'.2 c ?_).trans q) (fun _ q=>q) fun _ _ q=>q
        rintro rfl
        have fC : H5 s3.heap.objs.size = none:=I6.free
        rcases hc' with z | z
        · rw [← z,fC] at e; cases e
        · rw [fC] at z; cases z
      have fC : H5 s3.heap.objs.size = none:=I6.free
      have IY : Inv X pins σ H5 s6:=IX s6.heap (Heap.SameBut.refl ..)
      have fo : FpOk X pins H5 s3.heap.objs.size:=I3.fpOk (Nat.le_refl _) fC
      obtain ⟨oC,es,ep,ho1,hd1,hrest⟩:=id hn
      have IZ:=IY.pinned (fp:=[s3.heap.objs.size]) (fun b hb=>by obtain rfl : b = _:=(by simpa using hb); exact fo) (fun b hb=>by obtain rfl : b = _:=(by simpa using hb); exact ⟨oC,ho1,fun v z=>by rw [hd1] at z; cases z⟩)
      show wpAny _ X.A (assign (.Name y py) X.env (.ref s2.heap.objs.size)) _ _ s6
      refine wpAny_assign_Name (J1Y IZ hN hk hky (show RelV (.ref s2.heap.objs.size) (.ref s2.heap.objs.size) from rfl) (fun s7 I7=>?_) hf)
      have hC7 : s7.heap.get? s3.heap.objs.size = some oC:=(I7.pin (s3.heap.objs.size,oC) (List.mem_append_right _ (List.mem_append_right _ (J0M (by simp) ho1)))).1
      refine ⟨m,hn.at' fun o e=>?_,fun h' hs'=>⟨_,H5,?_,qn⟩⟩
      · rw [ho1] at e; cases e; exact hC7
      · have I8:=I7.unpinned
        exact I8.turned (t':=s7.toks) (fun b o hb e=>(hs'.2 b hb).trans e) fo.1 fo.2.1 fo.2.2.2.1 fo.2.2.2.2.1 fo.2.2.2.2.2
    · refine thn (T.item (J0m X scope N s3 H3 cl s3.heap.objs.size fp) rfl rfl rfl hc i [] s5 σ5 H5 _ I5 (stat fr5) st5 go) fun r s6 ⟨u,hr,h6⟩=>?_
      subst hr
      refine thn h6 fun _ s7 ⟨x,H7,I7,r7,y7,st7,fr7⟩=>?_
      have I7':=I7.pinned (stat fr7) (T.obj _ _ st7)
      refine thn (hg _ _ _ _ _ _ s7 σ5 H7 x u _ I7' r7 (step x H7 y7)) fun _ s8 ⟨σ8,H8,I8,q8⟩=>?_
      refine thn (hif _ _ _ _ _ _ s8 σ8 H8 _ I8 q8) fun ok s9 ⟨H9,I9,q9⟩=>?_
      have again : ∀ {σ' : St} {H' : Hp} {s' : Shared},Inv (J0m X scope N s3 H3 cl s3.heap.objs.size fp) ([] ++ J2Y fp s7.heap) σ' H' s' →
          Inv (J0m X scope N s3 H3 cl s3.heap.objs.size fp) [] σ' H' s' ∧ tn (i + 1) s'.heap ∧ ∀ b ∈ fp,H' b = none:=fun {σ' H' s'} I'=>by
        refine ⟨I'.unpinned,T.keep _ _ _ st7 fun b hb o e=>(I'.pin (b,o) (List.mem_append_right _ (List.mem_append_right _ (J0M hb e)))).1,fun b hb=>?_⟩
        obtain ⟨o,e,d⟩:=T.obj _ _ st7 b hb
        exact (I'.pin (b,o) (List.mem_append_right _ (List.mem_append_right _ (J0M hb e)))).2.1
      cases ok with
      | false =>
        rw [if_neg Bool.false_ne_true] at q9 ⊢
        obtain ⟨m',hm,w9⟩:=q9
        obtain ⟨a1,a2,a3⟩:=again I9
        exact ⟨m',hm,i + 1,σ8,ys,H9,a1,a2,a3,w9⟩
      | true =>
        rw [if_pos rfl] at q9 ⊢
        refine thn (he _ _ _ _ _ _ s9 σ8 H9 _ I9 q9) fun yv s10 ⟨y,H10,I10,r10,q10⟩=>?_
        obtain ⟨hD,hz,m',hm,w10⟩:=q10
        refine thn (J1s (X:=J0m X scope N s3 H3 cl s3.heap.objs.size fp) _ s10 σ8 H10 (.ref s2.heap.objs.size) [y] (.ref s2.heap.objs.size) [yv] (fun v H'=>H' = upd H10 s2.heap.objs.size (.lst (ys ++ [y]))) I10 rfl (.cons r10 .nil)
          ⟨s2.heap.objs.size,ys,y,rfl,rfl,hD,hz,rfl⟩) fun _ s11 ⟨v11,H11,I11,_,e11⟩=>?_
        have e11' : H11 = upd H10 s2.heap.objs.size (.lst (ys ++ [y])):=e11
        subst e11'
        obtain ⟨a1,a2,a3⟩:=again I11
        exact ⟨m',hm,i + 1,σ8,ys ++ [y],_,a1,a2,a3,w10⟩
  exact codeAny_compStart_list (loop _ ⟨_,rfl⟩) (T.self X.A 0 _ _ _ hst₁ (loop _ ⟨_,rfl⟩))
end
end L2
set_option linter.all false
namespace L2
open PySem PySem.StrLaws Builtin Builtin.Str
end L2
set_option linter.all false
set_option maxRecDepth 100000
set_option maxHeartbeats 4000000
namespace L2
open PySem PySem.Spec PyProof.Rows
section
variable {X : Cx} {e : Expr} {es : List Expr} {te : TE} {tr : TF} {pos : Pos}
end
end L2
set_option linter.all false
set_option maxRecDepth 100000
set_option maxHeartbeats 4000000
namespace L2
open PySem PySem.Spec PyProof.Rows
section
variable {X : Cx} {x m : Str} {k : Nat} {ps : List Str} {sp : Sp} {C : Addr} {p pos apos : Pos} {e o : Expr} {es : List Expr} {t : TA} {to : TE}
theorem J7H {r : List V → Hp → VK → Prop} (G : MkG X.prog X.w X.K X.mg X.base C x k ps sp) (hr : Room (k + 1) X.A)
  (imp : ∀ vs H Q,r vs H Q → ∀ x dx,H x = none → H dx = none → dx ≠ x → sp (.ref x :: (vs ++ [])) (upd (upd H dx (.own x)) x (.ins C dx [])) (fun v H2=>v = .non ∧ Q (.ref x) H2) E0)
  (ha : PA X (e :: es) t) (hg : Gl X x:=by rfl) (hdb : (x == ("__debug__" : Str)) = false:=by decide)
  (he : starEach (e :: es) X.env = (false,eval e X.env) :: starEach es X.env:=by rfl) (hpl : (backTo pos (starEach es X.env)).any (·.1) = false:=by rfl) : PE X (.Call (.Name x p) (e :: es) [] pos) (tCB r t):=by
 obtain ⟨f,fd,a,M,hm,hb⟩:=G
 intro pins s σ H Q I h
 refine wpAny_Call_Name_kw (J26 I hg hm ?_ hdb)
 refine PySem.W.callWith_K (h₀:=X.base) I.ok.mod.kin M.kp (thn (ha pos pins s σ H _ I h) fun us s1 ⟨vs,H1,I1,rv,q⟩=>⟨I1.kIn,?_⟩) he hpl
 exact J7v M a hr hb .nil J7A I1 rv (imp vs H1 Q q)
end
end L2
set_option linter.all false
set_option maxRecDepth 100000
set_option maxHeartbeats 4000000
namespace L2
open PySem PySem.Spec PyProof.Rows
noncomputable def All2 {α : Type} (P : α → V → Hp → Prop) (H : Hp) : List α → List V → Prop
 | [],[]=>True
 | a :: as,y :: ys=>P a y H ∧ All2 P H as ys
 | _,_=>False
section
variable {α : Type} {P : α → V → Hp → Prop} {H H' : Hp}
theorem All2.len : ∀ {as : List α} {ys : List V},All2 P H as ys → ys.length = as.length
 | [],[],_=>rfl
 | _ :: _,_ :: _,h=>by rw [List.length_cons,List.length_cons,All2.len h.2]
 | [],_ :: _,h=>h.elim
 | _ :: _,[],h=>h.elim
theorem All2.snoc : ∀ {as : List α} {ys : List V} {a : α} {y : V},All2 P H as ys → P a y H → All2 P H (as ++ [a]) (ys ++ [y])
 | [],[],_,_,_,p=>⟨p,trivial⟩
 | _ :: _,_ :: _,_,_,h,p=>⟨h.1,All2.snoc h.2 p⟩
 | [],_ :: _,_,_,h,_=>h.elim
 | _ :: _,[],_,_,h,_=>h.elim
theorem All2.imp {P' : α → V → Hp → Prop} : ∀ {as : List α} {ys : List V},All2 P H as ys → (∀ a y,P a y H → P' a y H') → All2 P' H' as ys
 | [],[],_,_=>trivial
 | _ :: _,_ :: _,h,f=>⟨f _ _ h.1,All2.imp h.2 f⟩
 | [],_ :: _,h,_=>h.elim
 | _ :: _,[],h,_=>h.elim
theorem All2.get : ∀ {as : List α} {ys : List V} {i : Nat} {a : α},All2 P H as ys → as[i]? = some a → ∃ y,ys[i]? = some y ∧ P a y H
 | [],[],_,_,_,e=>by simp at e
 | b :: _,y :: _,0,a,h,e=>⟨y,rfl,by rw [← (Option.some.inj e : b = a)]; exact h.1⟩
 | _ :: as,_ :: ys,i + 1,a,h,e=>All2.get (as:=as) (ys:=ys) (i:=i) h.2 (by simpa using e)
 | [],_ :: _,_,_,h,_=>h.elim
 | _ :: _,[],_,_,h,_=>h.elim
theorem All2.back : ∀ {as : List α} {ys : List V} {i : Nat} {y : V},All2 P H as ys → ys[i]? = some y → ∃ a,as[i]? = some a ∧ P a y H
 | [],[],_,_,_,e=>by simp at e
 | b :: _,z :: _,0,y,h,e=>⟨b,rfl,by rw [← (Option.some.inj e : z = y)]; exact h.1⟩
 | _ :: as,_ :: ys,i + 1,y,h,e=>All2.back (as:=as) (ys:=ys) (i:=i) h.2 (by simpa using e)
 | [],_ :: _,_,_,h,_=>h.elim
 | _ :: _,[],_,_,h,_=>h.elim
theorem All2.eqmap {f : α → V} : ∀ {as : List α} {ys : List V},All2 P H as ys → (∀ a y,P a y H → y = f a) → ys = as.map f
 | [],[],_,_=>rfl
 | _ :: _,_ :: _,h,g=>by rw [List.map_cons,← g _ _ h.1,← All2.eqmap h.2 g]
 | [],_ :: _,h,_=>h.elim
 | _ :: _,[],h,_=>h.elim
end
noncomputable def J19 (Ha Hb : Hp) : Prop:=∀ a ob,Ha a = some ob → (∀ zs,ob ≠ .lst zs) → Hb a = some ob
theorem Same.keeps {Ha Hb : Hp} (h : Same Ha Hb) : J19 Ha Hb:=fun a ob e _=>h a ob e
theorem J19.trans {Ha Hb Hc : Hp} (h : J19 Ha Hb) (h' : J19 Hb Hc) : J19 Ha Hc:=fun a ob e n=>h' a ob (h a ob e n) n
theorem J27 {Ha : Hp} {D : Addr} {zs ys : List V} (h : Ha D = some (.lst zs)) : J19 Ha (upd Ha D (.lst ys)):=fun a ob e hn=>by
 by_cases c : a = D
 ·subst c; rw [h] at e; cases e; exact absurd rfl (hn zs)
 ·rw [Jc c]; exact e
theorem J7U {α : Type} {J : It} {H : Hp} {σ0 : St} {g : TG} {tc : TT} {te : TE} {Q : VK} (xs : List α) (p : α → Bool) (P : α → V → Hp → Prop) (sh : St → Prop) (hx : xs.length ≤ 1000000) (h0 : sh σ0)
  (hgo : ∀ i H',Same H H' → i < xs.length → J.go i H') (hstop : ∀ H',Same H H' → J.stop xs.length H')
  (hk : ∀ a y Ha Hb,J19 Ha Hb → P a y Ha → P a y Hb)
  (step : ∀ (i : Nat) a σ x H' H'',xs[i]? = some a → sh σ → Same H H' → J.yld i H' x H'' → ∀ (Rf : St → Hp → Prop) (Rt : St → V → Hp → Prop),
   (∀ σ2 H3,p a = false → sh σ2 → Same H' H3 → Rf σ2 H3) → (∀ σ2 y H4,p a = true → sh σ2 → Same H' H4 → P a y H4 → Rt σ2 y H4) →
   g x σ H'' fun σ2 H2=>tc σ2 H2 fun b H3=>if b = true then te σ2 H3 (fun y H4=>Rt σ2 y H4) else Rf σ2 H3)
  (hQ : ∀ D H' ys,H D = none → Same H H' → All2 P H' (xs.filter p) ys → H' D = some (.lst ys) → Q (.ref D) H') : J5u J H σ0 g tc te Q:=by
 intro D hD
 refine ⟨fun i m σ1 ys H'=>m = xs.length - i ∧ i ≤ xs.length ∧ sh σ1 ∧ All2 P H' ((xs.take i).filter p) ys ∧ H' D = some (.lst ys) ∧ Same H H',⟨xs.length,by simp,Nat.zero_le _,h0,trivial,Jb,JS hD _⟩,?_⟩
 rintro i m σ1 ys H' ⟨rfl,hi,hσ,hP,hDD,hs⟩
 by_cases hlt : i < xs.length
 ·refine .inr ⟨hgo i H' hs hlt,fun x H'' hy=>?_⟩
  have ha : xs[i]? = some xs[i]:=List.getElem?_eq_getElem hlt
  have ht : xs.take (i + 1) = xs.take i ++ [xs[i]]:=by rw [List.take_add_one,ha]; rfl
  refine step i xs[i] σ1 x H' H'' ha hσ hs hy _ _ (fun σ2 H3 hf sh2 s3=>?_) (fun σ2 y H4 hf sh2 s4 py=>?_)
  ·refine ⟨xs.length - (i + 1),by omega,rfl,hlt,sh2,?_,s3 _ _ hDD,hs.trans s3⟩
   rw [ht,List.filter_append,List.filter_cons,hf]
   show All2 P H3 (List.filter p (xs.take i) ++ []) ys
   rw [List.append_nil]
   exact hP.imp fun a y=>hk a y _ _ s3.keeps
  ·have hl:=hP.len
   refine ⟨s4 _ _ hDD,?_,xs.length - (i + 1),by omega,rfl,hlt,sh2,?_,Jb,(hs.trans s4).upd hD⟩
   ·have h1:=List.length_filter_le p (xs.take i)
    rw [List.length_take] at h1
    have : (1000001 : Nat) ≤ sizeLine:=by decide
    omega
   ·rw [ht,List.filter_append,List.filter_cons,hf]
    have kk : J19 H4 (upd H4 D (.lst (ys ++ [y]))):=J27 (s4 _ _ hDD)
    exact All2.snoc (hP.imp fun a y=>hk a y _ _ (s4.keeps.trans kk)) (hk _ _ _ _ kk py)
 ·have e : i = xs.length:=by omega
  subst e
  refine .inl ⟨hstop H' hs,hQ D H' ys hD hs ?_ hDD⟩
  rw [List.take_of_length_le (Nat.le_refl _)] at hP
  exact hP
theorem JP {α : Type} {J : It} {H : Hp} {σ0 : St} {g : TG} {tc : TT} {te : TE} {Q : VK} {vs : List V} (xs : List α) (p : α → Bool) (P : α → V → Hp → Prop) (sh : St → Prop) (hJ : J4E J H vs) (hv : vs.length = xs.length) (hx : xs.length ≤ 1000000) (h0 : sh σ0)
  (hk : ∀ a y Ha Hb,J19 Ha Hb → P a y Ha → P a y Hb)
  (step : ∀ (i : Nat) a v σ H',xs[i]? = some a → vs[i]? = some v → sh σ → Same H H' → ∀ (Rf : St → Hp → Prop) (Rt : St → V → Hp → Prop),
   (∀ σ2 H3,p a = false → sh σ2 → Same H' H3 → Rf σ2 H3) → (∀ σ2 y H4,p a = true → sh σ2 → Same H' H4 → P a y H4 → Rt σ2 y H4) →
   g v σ H' fun σ2 H2=>tc σ2 H2 fun b H3=>if b = true then te σ2 H3 (fun y H4=>Rt σ2 y H4) else Rf σ2 H3)
  (hQ : ∀ D H' ys,H D = none → Same H H' → All2 P H' (xs.filter p) ys → H' D = some (.lst ys) → Q (.ref D) H') : J5u J H σ0 g tc te Q:=by
 refine J7U xs p P sh hx h0 (fun i H' s hi=>hJ.go i H' s (by omega)) (fun H' s=>by rw [← hv]; exact hJ.stop H' s) hk (fun i a σ x H' H'' ha hσ s hy=>?_) hQ
 have hi : i < xs.length:=(List.getElem?_eq_some_iff.mp ha).1
 obtain ⟨e,hx⟩:=hJ.yld i H' x H'' s (by omega) hy
 subst e
 exact step i a x σ H'' ha hx hσ s
section
variable {X : Cx} {K : PySem.W.Frag}
end
end L2
set_option linter.all false
set_option maxRecDepth 100000
set_option maxHeartbeats 4000000
namespace L2
open PySem PySem.Spec PyProof.Rows
noncomputable def Iel (K : PySem.W.Frag) (l : Addr) : It :=
  ⟨fun i H=>∃ xs x,SqL K H l xs ∧ xs[i]? = some x,
   fun i H v H'=>∃ p x,H p = none ∧ (∀ xs,SqL K H l xs → xs[i]? = some x) ∧ v = .ref p ∧ H' = upd H p (.tup [.int i,x]),
   fun i H=>∃ xs,SqL K H l xs ∧ xs.length ≤ i⟩
theorem J6h {P : Program} {w : World} {K : PySem.W.Frag} {es : List Expr} {k : Nat} {pos : Pos} {z it l : Addr} (zi : z ≠ it) :
  Turn P w K (.Tuple es k pos) (Iel K l) [z,it] z (fun i h=>(∃ old,IsEnum h z it (i : Int) old) ∧ h.IsListIter it l i) where
 mem:=by simp
 obj:=fun i h st b hb=>by
  obtain ⟨⟨old,hz⟩,o1,e1,c1,d1⟩:=st
  simp only [List.mem_cons,List.not_mem_nil,or_false] at hb
  rcases hb with rfl | rfl
  ·exact ⟨_,hz,fun v q=>by cases q⟩
  ·exact ⟨o1,e1,fun v q=>by rw [d1] at q; cases q⟩
 keep:=fun i h h' st kk=>by
  obtain ⟨⟨old,hz⟩,o1,e1,r1⟩:=st
  exact ⟨⟨old,kk z (by simp) _ hz⟩,⟨o1,kk it (by simp) _ e1,r1⟩⟩
 item:=by
  intro X hP hw hK hc i pins s σ H E I hf st hg
  subst hP hw hK
  obtain ⟨⟨old,hz⟩,h1⟩:=st
  obtain ⟨xs,x,hq1,hx⟩:=hg
  obtain ⟨ia,ra,pa,_⟩:=I.list hq1
  obtain ⟨u,hu,ru⟩:=ra.get hx
  refine wpAny_pyNext_enum_item hz h1 pa.isList (x:=u) (by simpa using hu) zi fun h' a1 a2 a3 a4 kp=>?_
  refine ⟨_,rfl,?_⟩
  refine wpAny_letOwnedTupleGo_enum (s:={ s with heap:=h',toks:=s.toks + 1 }) a1 fun h2' hz' hs'=>?_
  replace hs' : Heap.SameBut z h' h2':=hs'
  have zlt : z < s.heap.objs.size:=Heap.lt_size hz
  have far : ∀ q ∈ [z,it],q < s.heap.objs.size:=by
   intro q hq
   obtain ⟨o1,e1,_⟩:=h1
   simp only [List.mem_cons,List.not_mem_nil,or_false] at hq
   rcases hq with rfl | rfl
   ·exact zlt
   ·exact Heap.lt_size e1
  have fz:=hf z (by simp)
  have f1:=hf it (by simp)
  have keepAll : ∀ b o,b ≠ z → b ≠ it → s.heap.get? b = some o → h2'.get? b = some o:=fun b o b1 b2 e=>hs'.extBut _ _ b1 (kp b o b1 b2 e)
  have hnew : H s.heap.objs.size = none:=I.hok.fresh (Nat.le_refl _)
  have Tz : s.heap.objs.size ≠ z:=Nat.ne_of_gt zlt
  have ht2 : h2'.get? s.heap.objs.size = some { cls:=.type "tuple",data:=.seq #[.int i s.toks,u] }:=hs'.extBut _ _ Tz a3
  have I2 : Inv X pins σ (upd H s.heap.objs.size (.tup [.int i,x])) { s with heap:=h2',toks:=s.toks + 1 }:=by
   have there : ∀ q ∈ [z,it],∃ o',h2'.get? q = some o':=by
    intro q hq
    obtain ⟨o1,e1,_⟩:=a2
    simp only [List.mem_cons,List.not_mem_nil,or_false] at hq
    rcases hq with rfl | rfl
    ·exact ⟨_,hz'⟩
    ·exact ⟨_,hs'.extBut _ _ zi.symm e1⟩
   have nch : ∀ b,b ∉ [z,it] → b ≠ z ∧ b ≠ it:=fun b hb=>by
    simp only [List.mem_cons,List.not_mem_nil,or_false,not_or] at hb
    exact hb
   have trk : ∀ b u',H b = some u' → b ≠ z ∧ b ≠ it:=fun b u' e =>
    ⟨fun q=>(by rw [q,fz.1] at e; cases e),fun q=>(by rw [q,f1.1] at e; cases e)⟩
   have okH : HOk X.prog X.w (upd H s.heap.objs.size (.tup [.int i,x])) h2':=fun b u' e=>by
    by_cases hb : b = s.heap.objs.size
    ·subst hb
     rw [Jb] at e
     cases e
     exact ⟨(show 2 ≤ sizeLine by decide),[.int i s.toks,u],.cons ⟨_,rfl⟩ (.cons ru .nil),⟨_,ht2,rfl,_,rfl⟩⟩
    ·rw [Jc hb] at e
     have hx:=I.hok b u' e
     refine hx.stay (fun q o hq e2=>?_) (fun q e2=>?_) (fun q xs e2=>?_)
     ·rcases hq with rfl | hq
      ·obtain ⟨b1,b2⟩:=trk q _ e
       exact keepAll q o b1 b2 e2
      ·obtain ⟨b1,b2⟩:=trk q _ hq
       exact keepAll q o b1 b2 e2
     ·rw [Jc (Ja e2 hnew)]; exact e2
     ·rw [Jc (Ja e2 hnew)]; exact e2
   refine I.step (g':=s.gens) (d':=s.drawn) (ch:=[z,it]) (fun b hb=>?_) (fun b o _ _ hcb e n=>?_) (fun b o _ _ hcb e n=>?_) (fun b o hcb e n=>?_) (fun b o hcb e=>?_) (fun b xs e=>?_) (fun b o u' e=>?_) (fun b ps e=>?_) (fun m hm=>?_) okH I.bare
   ·simp only [List.mem_cons,List.not_mem_nil,or_false] at hb
    rcases hb with rfl | rfl
    ·exact ⟨fz.2.2.2.1,fz.2.1,fz.2.2.2.2.1,fz.2.2.2.2.2⟩
    ·exact ⟨f1.2.2.2.1,f1.2.1,f1.2.2.2.2.1,f1.2.2.2.2.2⟩
   ·obtain ⟨b1,b2⟩:=nch b hcb
    exact keepAll b o b1 b2 e
   ·obtain ⟨b1,b2⟩:=nch b hcb
    exact ⟨o.slots,keepAll b o b1 b2 e⟩
   ·rw [Jc (Nat.ne_of_lt (Heap.lt_size e))]; exact n
   ·obtain ⟨b1,b2⟩:=nch b hcb
    exact ⟨o,keepAll b o b1 b2 e⟩
   ·rw [Jc (Ja e hnew)]; exact e
   ·rw [Jc (Ja e hnew)]; exact e
   ·exact ⟨#[],by rw [Jc (Ja e hnew),e]; simp⟩
   ·obtain ⟨o,es',ep,ho,r⟩:=hm
    exact ⟨o,es',ep,keepAll _ o fz.2.1.symm f1.2.1.symm ho,r⟩
  refine ⟨.ref s.heap.objs.size,_,I2,rfl,⟨_,x,hnew,fun zs hz=>by rw [I.list_inj hz hq1]; exact hx,rfl,rfl⟩,⟨⟨_,by rw [Int.natCast_add]; exact hz'⟩,?_⟩,fun b hb=>?_⟩
  ·obtain ⟨o,e,r⟩:=a2; exact ⟨o,hs'.extBut _ _ zi.symm e,r⟩
  ·rw [Jc (Nat.ne_of_lt (far b hb))]; exact (hf b hb).1
 done:=by
  intro X hP hw hK hc i pins s σ H E I hf st hg
  subst hP hw hK
  obtain ⟨⟨old,hz⟩,h1⟩:=st
  obtain ⟨xs,hq1,hg⟩:=hg
  obtain ⟨ia,ra,pa,_⟩:=I.list hq1
  have la:=ra.length
  obtain ⟨f0,f1,f2,f3,f4,f5⟩:=hf it (by simp)
  refine wpAny_pyNext_enum_end (I.ok.hd hc) hz h1 pa.isList (by simp; omega) fun h' eb=>⟨rfl,I.turned (t':=s.toks) (fun b o hb e=>eb b o hb e) f0 f1 f3 f4 f5⟩
 self:=fun _ _ _ _ _ st h=>by
  obtain ⟨⟨old,hz⟩,_⟩:=st
  exact wpAny_pyIter_enum hz h
section
variable {X : Cx} {es : List Expr} {k : Nat} {tpos : Pos}
noncomputable def J8z (K : PySem.W.Frag) (ta : TA) : TI:=fun σ H R=>ta σ H fun vs H1=>∃ a,vs = [.ref a] ∧ (∃ xs,SqL K H1 a xs) ∧ R (Iel K a) H1
theorem J8t {a : Expr} {ta : TA} {p pos : Pos} (hg : Gl X "enumerate") (hm : X.mg "enumerate" = none) (ha : PA X [a] ta) (hv : bootBuiltins "enumerate" = some (.type "enumerate"):=by decide +kernel) (hs : starEach [a] X.env = [(false,eval a X.env)]:=by rfl) :
  PI X (.Tuple es k tpos) (.Call (.Name "enumerate" p) [a] [] pos) (J8z X.K ta):=by
 intro pins s σ H R I h
 refine Call_ (J3X I hg hm hv (PyProof.Rows.callWith_type1 (thn (ha pos pins s σ H _ I h) fun us s1 ⟨vs,H1,I1,r1,q1⟩=>?_) (by rw [hs]; rfl) (by rfl)))
 obtain ⟨l1,e,⟨xs,hq1⟩,q⟩:=q1
 subst e
 obtain ⟨u,rfl,ru⟩:=r1.one
 cases ru
 obtain ⟨ia,ra,pa,_⟩:=I1.list hq1
 refine call_enumerate_list pa.isList fun h' a1 a2 a3 kp=>?_
 have I2 : Inv X pins σ H1 { s1 with heap:=h' }:=I1.kept (t':=s1.toks) kp
 refine wpAny_pyIter_enum a1 ⟨s1.heap.objs.size + 1,[s1.heap.objs.size + 1,s1.heap.objs.size],_,_,H1,rfl,I2,J6h (Nat.ne_of_gt (Nat.lt_succ_self _)),⟨⟨_,a1⟩,a2⟩,fun b hb=>?_,q⟩
 have hb' : s1.heap.objs.size ≤ b:=by
  simp only [List.mem_cons,List.not_mem_nil,or_false] at hb
  rcases hb with rfl | rfl
  ·exact Nat.le_add_right _ _
  ·exact Nat.le_refl _
 exact I1.fpOk hb' (I1.hok.fresh hb')
theorem J79 {K : PySem.W.Frag} {a : Expr} {ta : TA} {p pos : Pos} (h : X.K = K) (hg : Gl X "enumerate") (hm : X.mg "enumerate" = none) (ha : PA X [a] ta) (hv : bootBuiltins "enumerate" = some (.type "enumerate"):=by decide +kernel) (hs : starEach [a] X.env = [(false,eval a X.env)]:=by rfl) :
  PI X (.Tuple es k tpos) (.Call (.Name "enumerate" p) [a] [] pos) (J8z K ta):=h ▸ J8t hg hm ha hv hs
end
theorem J6Y {K : PySem.W.Frag} {a : Addr} {xs : List V} {g : TG} {tb : TS} {D : Ends} {σ : St} {H : Hp} (Pv : Nat → St → Hp → Prop) (h0 : Pv 0 σ H) (hl : ∀ i σ H,i ≤ xs.length → Pv i σ H → SqL K H a xs)
  (hs : ∀ i x p σ H,xs[i]? = some x → H p = none → Pv i σ H → g (.ref p) σ (upd H p (.tup [.int i,x])) fun σ2 H2=>tb { D with nx:=Pv (i + 1),ct:=Pv (i + 1),bk:=D.nx } σ2 H2) (hd : ∀ σ H,Pv xs.length σ H → D.nx σ H) :
  ∃ W : Nat → Nat → St → Hp → Prop,(∃ m,W 0 m σ H) ∧ ∀ i m σ H,W i m σ H →
   ((Iel K a).stop i H ∧ D.nx σ H) ∨ ((Iel K a).go i H ∧ ∃ N : St → Hp → Prop,(∀ σ' H',N σ' H' → ∃ m',m' < m ∧ W (i + 1) m' σ' H') ∧ ∀ x H',(Iel K a).yld i H x H' → g x σ H' fun σ2 H2=>tb { D with nx:=N,ct:=N,bk:=D.nx } σ2 H2):=by
 refine ⟨fun i m σ H=>m = xs.length - i ∧ i ≤ xs.length ∧ Pv i σ H,⟨xs.length,by simp,Nat.zero_le _,h0⟩,?_⟩
 rintro i m σ H ⟨rfl,hi,p⟩
 have q:=hl i σ H hi p
 by_cases hlt : i < xs.length
 ·refine .inr ⟨⟨xs,xs[i],q,by simp [hlt]⟩,Pv (i + 1),fun σ' H' p'=>⟨xs.length - (i + 1),by omega,rfl,hlt,p'⟩,fun x H' y=>?_⟩
  obtain ⟨r,u,hr,e1,rfl,rfl⟩:=y
  exact hs i u r σ H (e1 xs q) hr p
 ·have e : i = xs.length:=by omega
  subst e
  exact .inl ⟨⟨xs,q,Nat.le_refl _⟩,hd σ H p⟩
end L2
set_option linter.all false
set_option maxRecDepth 100000
set_option maxHeartbeats 4000000
namespace L2
open PySem PySem.Spec PyProof.Rows
theorem J33 : ∀ {xs : List V},xs.all JZ = true → eqVs xs xs = true
 | [],_=>rfl
 | x :: xs,h=>by
  rw [List.all_cons,Bool.and_eq_true] at h
  rw [eqVs,J33 h.2,Bool.and_true]
  cases x <;> first | rfl | exact beq_self_eq_true _ | exact absurd h.1 Bool.false_ne_true
theorem J7E (xs ys : List V) : ((List.range (min xs.length ys.length)).all (fun j=>eqV (xs.getD j .non) (ys.getD j .non)) && xs.length == ys.length) = eqVs xs ys:=by
 by_cases h : xs.length = ys.length
 ·rw [beq_iff_eq.mpr h,Bool.and_true,h,Nat.min_self,← h,J2v h]
 ·rw [beq_eq_false_iff_ne.mpr h,Bool.and_false,J3D h]
noncomputable def TpAt (K : PySem.W.Frag) : List V → V → Hp → Prop:=fun xs v H=>∃ p,v = .ref p ∧ SqT K H p xs ∧ xs.all JZ = true
section
variable {X : Cx} {K : PySem.W.Frag} {pins : List (Addr × Obj)} {s : Shared} {σ : St} {H : Hp} {A : Around}
theorem J7z {p r : Addr} {xs ys : List V} (I : Inv X pins σ H s) (hp : SqT X.K H p xs) (hr : SqT X.K H r ys) (fx : xs.all JZ = true) (fy : ys.all JZ = true) (hu : A.units < cLine) : SeqAt.RcAt A s (.ref p) (.ref r) (eqVs xs ys):=by
 obtain ⟨ia,ra,pa,za⟩:=I.tuple hp
 obtain ⟨ib,rb,pb,zb⟩:=I.tuple hr
 have h:=SeqAt.RcAt.tuples (A:=A) (e:=fun j=>eqV (xs.getD j .non) (ys.getD j .non)) (show s.heap.IsTuple p ia.toArray from pa) (show s.heap.IsTuple r ib.toArray from pb) hu (J5W ra rb fx fy)
 rw [List.size_toArray,List.size_toArray,← ra.length,← rb.length,J7E] at h
 exact h
theorem J8o {p r : Addr} {xs ys : List V} (I : Inv X pins σ H s) (hp : SqT X.K H p xs) (hr : SqT X.K H r ys) (fx : xs.all JZ = true) (fy : ys.all JZ = true) (hu : A.units < cLine) : SeqAt.EqAt A s (.ref p) (.ref r) (eqVs xs ys):=by
 by_cases h : p = r
 ·subst h
  rw [I.tuple_inj hr hp,J33 fx]
  exact SeqAt.EqAt.same _
 ·exact SeqAt.EqAt.of_refs h (J7z I hp hr fx fy hu)
noncomputable def rInT (K : PySem.W.Frag) (neg : Bool) : R2:=fun x y H Q=>∃ p l xs yss vs,x = .ref p ∧ y = .ref l ∧ SqT K H p xs ∧ xs.all JZ = true ∧ SqL K H l vs ∧ All2 (TpAt K) H yss vs ∧ Q (.bl (if neg then !(yss.any fun ys=>eqVs ys xs) else yss.any fun ys=>eqVs ys xs)) H
open Classical in
noncomputable def inE (K : PySem.W.Frag) (H : Hp) (xs : List V) (u : Value) : Bool:=decide (∃ p ys,u = Value.ref p ∧ SqT K H p ys ∧ eqVs ys xs = true)
open Classical in
theorem J8d {p : Addr} {xs ys : List V} (I : Inv X pins σ H s) (hp : SqT X.K H p ys) : inE X.K H xs (.ref p) = eqVs ys xs:=by
 unfold inE
 cases e : eqVs ys xs with
 | true=>exact decide_eq_true ⟨p,ys,rfl,hp,e⟩
 | false =>
  refine decide_eq_false ?_
  rintro ⟨r,zs,h1,h2,h3⟩
  cases h1
  rw [I.tuple_inj h2 hp,e] at h3
  cases h3
theorem J6A {xs : List V} (I : Inv X pins σ H s) : ∀ {yss : List (List V)} {vs : List V} {us : List Value},All2 (TpAt X.K) H yss vs → Vals vs us → us.any (inE X.K H xs) = yss.any fun ys=>eqVs ys xs
 | [],[],_,_,.nil=>rfl
 | ys :: yss,v :: vs,_,h,.cons r t=>by
  obtain ⟨⟨p,rfl,hp,_⟩,h2⟩:=h
  cases r
  rw [List.any_cons,List.any_cons,J6A I h2 t,J8d I hp]
 | [],_ :: _,_,h,_=>h.elim
 | _ :: _,[],_,h,_=>h.elim
theorem J6F {q : Addr} {xs : List V} (I : Inv X pins σ H s) (hq : SqT X.K H q xs) (fx : xs.all JZ = true) (hu : A.units < cLine) : ∀ {yss : List (List V)} {vs : List V} {us : List Value},All2 (TpAt X.K) H yss vs → Vals vs us → ∀ u ∈ us,SeqAt.EqAt A s u (.ref q) (inE X.K H xs u)
 | [],[],_,_,.nil=>fun u hu=>by cases hu
 | ys :: yss,v :: vs,_,h,.cons r t=>fun u hm=>by
  obtain ⟨⟨p,rfl,hp,fy⟩,h2⟩:=h
  cases r
  rcases List.mem_cons.mp hm with rfl | hm
  ·rw [J8d I hp]
   exact J8o I hp hq fy fx hu
  ·exact J6F I hq fx hu h2 t u hm
 | [],_ :: _,_,h,_=>h.elim
 | _ :: _,[],_,h,_=>h.elim
theorem J7J (h : X.K = K) (hu : X.A.units + 1 < cLine) : OpR X (compareOp .In) (rInT K false):=by
 subst h
 intro pins s σ H x y v u Q I rx ry h
 obtain ⟨p,l,xs,yss,vs,rfl,rfl,hp,fx,hl,ha,q⟩:=h
 cases rx; cases ry
 obtain ⟨its,r,pl,hz⟩:=I.list hl
 refine SeqAt.in_listAt (inE X.K H xs) pl.isList (fun w hw=>J6F (A:=X.A.in1) I hp fx hu ha r w (by simpa using hw)) ⟨.bl _,H,I,rfl,?_⟩
 rw [show its.toArray.any (inE X.K H xs) = its.any (inE X.K H xs) by simp,J6A I ha r]
 exact q
noncomputable def rEqE (K : PySem.W.Frag) (neg : Bool) : R2:=fun x y H Q=>∃ p r xs,x = .ref p ∧ y = .ref r ∧ SqL K H p xs ∧ SqL K H r [] ∧ Q (.bl (if neg then !xs.isEmpty else xs.isEmpty)) H
theorem J9U (h : X.K = K) (hu : X.A.units < cLine) : OpR X (compareOp .NotEq) (rEqE K true):=by
 subst h
 intro pins s σ H x y v u Q I rx ry h
 obtain ⟨p,r,xs,rfl,rfl,hp,hr,q⟩:=h
 cases xs with
 | nil=>exact J82 rfl hu pins s σ H _ _ v u Q I rx ry ⟨p,r,[],[],rfl,rfl,hp,hr,rfl,rfl,q⟩
 | cons a t =>
  cases rx; cases ry
  obtain ⟨ia,ra,pa,za⟩:=I.list hp
  obtain ⟨ib,rb,pb,zb⟩:=I.list hr
  have la:=ra.length
  have lb:=rb.length
  rw [List.length_cons] at la
  rw [List.length_nil] at lb
  exact SeqAt.RcNeAt.lists_lengths pa.isList pb.isList (by simp; omega) hu _ _ _ _ ⟨.bl true,H,I,rfl,q⟩
end
end L2
set_option linter.all false
set_option maxRecDepth 100000
set_option maxHeartbeats 4000000
namespace L2
open PySem PySem.Spec PyProof.Rows
@[irreducible] def tCut (t : TS) : TS:=fun D σ H=>∃ R : St → Hp → Prop,t { D with nx:=R } σ H ∧ ∀ σ' H',R σ' H' → D.nx σ' H'
theorem tCut.mk {t : TS} {D : Ends} {σ : St} {H : Hp} (R : St → Hp → Prop) (h : t { D with nx:=R } σ H) (h' : ∀ σ' H',R σ' H' → D.nx σ' H') : tCut t D σ H:=by unfold tCut; exact ⟨R,h,h'⟩
section
variable {X : Cx} {K : PySem.W.Frag}
theorem J9N {st : Stmt} {t : TS} (h : PS X st t) : PS X st (tCut t):=by
 intro pins s σ H D I q
 unfold tCut at q
 obtain ⟨R,h1,h2⟩:=q
 refine thn (h pins s σ H _ I h1) fun f s' z=>?_
 cases f with
 | next=>obtain ⟨σ',H',I',r⟩:=z; exact ⟨σ',H',I',h2 σ' H' r⟩
 | brk=>exact z
 | cont=>exact z
 | ret u=>exact z
theorem J4X {M : Model} {A : Around} {E : Value → Shared → Prop} {s : Shared} {a b : Value} {Q : Value → Shared → Prop} (ha : s.TypeIs a "list") (hb : s.TypeIs b "list") (hc : wpAny M A (call (.builtin "list.__iadd__") [a,b]) Q E s) : wpAny M A (inplaceOp .Add a b) Q E s:=by
 unfold inplaceOp
 refine wpAny_holding ?_
 have hl : typeLookup (.type "list") (dunderI "add") = pure (some (.builtin "list.__iadd__")):=F.slot_list_iadd.lookup
 have hfi : fillsInplaceSlot (.type "list") "add" (Operator.Add == .Add) = pure false:=by
  unfold fillsInplaceSlot
  show (typeLookup (.type "list") (dunderI "add") >>= fun fi=>pure (fi.isSome && !isSeqSlot fi)) = pure false
  rw [hl]; rfl
 have hsi : seqSlot? (.type "list") (dunderI "add") = pure (some (.builtin "list.__iadd__")):=by
  unfold seqSlot?
  rw [hl]; rfl
 refine wpAny_bind (wpAny_typeOf ha (wpAny_bind (wpAny_of_eq hfi ?_)))
 show wpAny M A (if false = true then _ else _) Q E s
 rw [if_neg Bool.false_ne_true]
 refine wpAny_bind (binaryOp1_none (nm:="add") ha hb noFill_list_add ?_)
 refine wpAny_bind (wpAny_of_eq hsi ?_)
 exact wpAny_bind (wpAny_rule hc)
noncomputable def ipL : TIp:=fun x y H Q=>∃ l b xs zs,x = .ref l ∧ y = .ref b ∧ H l = some (.lst xs) ∧ H b = some (.lst zs) ∧ xs.length + zs.length ≤ sizeLine ∧ Q (.ref l) (upd H l (.lst (xs ++ zs)))
theorem J8K : PIp X .Add ipL:=by
 intro pins s σ H x y v u Q I rx ry h
 obtain ⟨l,b,xs,zs,rfl,rfl,hH,hB,hz,q⟩:=h
 cases rx
 cases ry
 obtain ⟨z,its,n,r,hl,e⟩:=I.lstM hH
 obtain ⟨z2,its2,n2,r2,hl2,e2⟩:=I.lstM hB
 have hsz : its.toArray.size + its2.toArray.size ≤ sizeLine:=by rw [List.size_toArray,List.size_toArray]; omega
 have hlong : ¬ (!its.toArray.isEmpty && Builtin.List.listTooLong (its.toArray.size + its2.toArray.size)) = true:=by
  rw [J8q hsz,Bool.and_false]
  exact Bool.false_ne_true
 refine J4X ⟨_,e,rfl⟩ ⟨_,e2,rfl⟩ ?_
 refine call_meets F.slot_list_iadd ⟨_,e,rfl⟩ F.entry_list_iadd (F.args_list_iadd_2 _ _)
  (AutoSeq1.list___iadd___list_list_0 l its.toArray n b its2.toArray n2 hlong (by rw [List.size_toArray]; omega) (by omega)) ⟨e,e2,?_⟩
 refine ⟨.ref l,_,I.lset (its':=its ++ its2) hH e (by simp) (r.append r2) ?_,rfl,q⟩
 rw [List.length_append]
 omega
end
end L2
namespace L2
open PySem PySem.Spec PyProof.Rows
section
variable {α β : Type} {H : Hp}
theorem All2.mapL {P : β → V → Hp → Prop} {f : α → β} : ∀ {as : List α} {ys : List V},All2 (fun a y H=>P (f a) y H) H as ys → All2 P H (as.map f) ys
 | [],[],_=>trivial
 | _ :: _,_ :: _,h=>⟨h.1,All2.mapL h.2⟩
 | [],_ :: _,h=>h.elim
 | _ :: _,[],h=>h.elim
theorem All2.app {P : α → V → Hp → Prop} : ∀ {as bs : List α} {ys zs : List V},All2 P H as ys → All2 P H bs zs → All2 P H (as ++ bs) (ys ++ zs)
 | [],_,[],_,_,h=>h
 | _ :: _,_,_ :: _,_,h,g=>⟨h.1,All2.app h.2 g⟩
 | [],_,_ :: _,_,h,_=>h.elim
 | _ :: _,_,[],_,h,_=>h.elim
end
end L2
set_option linter.all false
set_option maxRecDepth 100000
set_option maxHeartbeats 4000000
namespace L2
open PySem PySem.Spec PyProof.Rows
noncomputable def CX1 (P : Program) (w : World) : CXT:=fun outer H s E ev s'=>∃ (a C : Addr) (a0 : Value) (H' : Hp) (B : Heap),ev = .ref a ∧ s'.os = s.os ∧ AllBare s'.gens ∧ Un (frs outer) [] H H' s.heap s'.heap ∧ HOk P w H' s'.heap ∧
 Heap.FlyingW B outer a (.ref C) a0 s'.heap ∧ (∀ b o,s.heap.get? b = some o → H b = none → b ∉ frs outer → B.get? b = some o) ∧ (∀ b o u,H' b = some u → s'.heap.get? b = some o → B.get? b = some o) ∧
 (∀ b o,s.heap.get? b = some o → b ∉ frs outer → ∃ o',B.get? b = some o') ∧ H' a = none ∧ E (.ref C) none H'
theorem J3C {P : Program} {w : World} {H : Hp} {h : Heap} {a : Addr} {o : HO} (x : J1k P w H h a o) : ∃ ob,h.get? a = some ob:=by
 cases o with
 | lst xs=>obtain ⟨_,_,_,_,e⟩:=x; exact ⟨_,e⟩
 | tup xs=>obtain ⟨_,_,_,o,e,_⟩:=x; exact ⟨_,e⟩
 | dK kvs=>obtain ⟨_,_,_,_,o,_,_,e,_⟩:=x; exact ⟨_,e⟩
 | dT kvs=>obtain ⟨_,_,_,_,o,_,_,e,_⟩:=x; exact ⟨_,e⟩
 | set S n=>obtain ⟨o,_,_,_,e,_⟩:=x; exact ⟨_,e⟩
 | ins C dx fs=>obtain ⟨_,_,_,e,_⟩:=x; exact ⟨_,e⟩
 | own y=>exact x
 | xd fs=>obtain ⟨_,⟨_,_,_,e,_⟩,_⟩:=x; exact ⟨_,e⟩
 | rng lo hi=>obtain ⟨_,_,_,e⟩:=x; exact ⟨_,e⟩
 | frz ob u=>obtain ⟨e,_⟩:=x; exact ⟨_,e⟩
 | tbl ps=>exact ⟨_,(show h.get? a = some _ from x)⟩
 | met f y=>exact ⟨_,(show h.get? a = some _ from x)⟩
 | ext φ=>obtain ⟨_,e,_⟩:=x; exact e
section
variable {X : Cx} {pins : List (Addr × Obj)} {σ : St} {H : Hp} {s : Shared} {E : XK} {Ex : Value → Shared → Prop}
theorem Inv.oldfr (I : Inv X pins σ H s) {b : Addr} {o : Obj} (q : X.s₀.heap.get? b = some o) (hb : b ∈ frs X.stack) : b ∈ X.fs:=by
 rcases List.mem_cons.mp (I.stkSub b hb) with e | e
 ·exact absurd (Nat.lt_of_lt_of_le (Heap.lt_size q) I.ok.above) (by rw [e]; exact Nat.lt_irrefl _)
 ·exact e
theorem J4W (I : Inv X pins σ H s) (hex : X.ex = []) (hst : X.stack = X.env :: X.outer) (hfr : X.env.frame = some X.env.locals) {h' : Heap} {e C : Addr} {vs : List Value} (hx : Heap.MadeExcOf s.heap h' e (.ref C) vs) (q : E (.ref C) none H) :
  wpAny (model X.prog X.w) X.A (leaving X.env (.ref e)) (fun _ s''=>CX1 X.prog X.w X.outer X.H₀ X.s₀ E (.ref e) s'') Ex { s with heap:=h' }:=by
 have hs:=I.stack
 rw [hst] at hs
 have nex : ∀ b : Addr,b ∉ X.ex:=fun b z=>by rw [hex] at z; simp at z
 refine wpAny_leaves_madeW (base:=PySem.W.hideAll s.heap (frs (X.env :: X.outer))) (h:=s.heap) (by rw [I.ok.frames,hst]) hfr (fun b o q=>PySem.W.of_hideAll _ q) (PySem.W.funFrames_hide hs fun env he b hb=>List.mem_filterMap.mpr ⟨env,he,hb⟩) hx fun h2 t x1 x2 x3 x4=>?_
 replace x4 : h'.UpToSlots h2:=x4
 have inB : ∀ b o,s.heap.get? b = some o → b ∉ frs X.stack → (PySem.W.hideAll s.heap (frs (X.env :: X.outer))).get? b = some o:=fun b o q nb=>PySem.W.hideAll_get _ q (by rw [← hst]; exact nb)
 have prot : ∀ b o,s.heap.get? b = some o → b ∉ frs X.stack → h2.get? b = some o:=fun b o q nb=>x1.1 b o (inB b o q nb)
 have slots : ∀ b o,s.heap.get? b = some o → b ∈ X.fs → ∃ sl,h2.get? b = some { o with slots:=sl }:=fun b o q hb=>by
  obtain ⟨_,o',ho',hd⟩:=I.funs.mem hb
  rw [q] at ho'
  cases ho'
  exact x4 b o (hx.keeps b o q) hd
 have trk : ∀ b u,H b = some u → b ∉ frs X.stack:=fun b u e hb=>by rw [I.stkFree b hb] at e; cases e
 refine ⟨e,C,.ref t,H,_,rfl,I.os,I.bare,⟨fun b o q n nb _=>?_,fun b o q n hb _=>?_,fun b o q n _=>I.base.free b o q n (nex b),fun b o q _=>?_,I.base.tups,I.base.frzs,I.base.tbls⟩,fun b u e=>?_,x1,fun b o q n nb=>?_,fun b o u e q=>?_,fun b o q nb=>?_,?_,q⟩
 ·exact prot b o (I.base.keep b o q n nb (nex b)) fun z=>nb (I.oldfr q z)
 ·obtain ⟨sl,e1⟩:=I.base.slot b o q n hb (nex b)
  obtain ⟨sl2,e2⟩:=slots b _ e1 hb
  exact ⟨sl2,e2⟩
 ·obtain ⟨o',e1⟩:=I.base.there b o q (nex b)
  by_cases hb : b ∈ frs X.stack
  ·obtain ⟨sl,e2⟩:=slots b o' e1 (I.oldfr q hb)
   exact ⟨_,e2⟩
  ·exact ⟨o',prot b o' e1 hb⟩
 ·refine (I.hok b u e).stay (fun c o hc q=>?_) (fun _ q=>q) fun _ _ q=>q
  rcases hc with rfl | hc
  ·exact prot c o q (trk c _ e)
  ·exact prot c o q (trk c _ hc)
 ·exact inB b o (I.base.keep b o q n nb (nex b)) fun z=>nb (I.oldfr q z)
 ·obtain ⟨o',e1⟩:=J3C (I.hok b u e)
  have e2:=prot b o' e1 (trk b u e)
  have q' : h2.get? b = some o:=q
  rw [e2] at q'
  cases q'
  exact inB b o e1 (trk b u e)
 ·obtain ⟨o',e1⟩:=I.base.there b o q (nex b)
  exact ⟨o',inB b o' e1 fun z=>nb (I.oldfr q z)⟩
 ·cases q' : H e with
  | none=>rfl
  | some u =>
   obtain ⟨o,e1⟩:=J3C (I.hok e u q')
   rw [hx.new] at e1
   cases e1
end
end L2
set_option linter.all false
set_option maxRecDepth 100000
set_option maxHeartbeats 4000000
namespace L2
open PySem PySem.Spec PyProof.Rows
abbrev J69 : List Value:=[.type "ValueError",.type "Exception",.type "BaseException",.type "object"]
noncomputable def XCls (K : PySem.W.Frag) (C : Addr) : Prop:=PySem.W.excIn K C J69 "ValueError.__new__" = true
theorem XCls.at {K : PySem.W.Frag} {C : Addr} {h : Heap} (q : XCls K C) (X : K.In h) :
  ∃ bm N nm q bs hdct sn sub ab col dd k0 k1 k2 k3 k5 mN,h.get? C = some (excClassObj nm q C N bs bm hdct sn sub ab col dd k0 k1 k2 k3 k5 "ValueError.__new__") ∧ h.Ns N mN ∧ mN "__init__" = none ∧ OwnTail h J69 bm:=by
 unfold XCls PySem.W.excIn at q
 split at q
 ·rename_i dd cd sl ho
  split at q
  ·rename_i C' bm k0 k1 k2 k3 n k5 hm hs
   simp only [Bool.and_eq_true,beq_iff_eq,Bool.not_eq_true'] at q
   obtain ⟨⟨⟨⟨⟨rfl,rfl⟩,hdel⟩,ht⟩,hok⟩,hni⟩:=q
   obtain ⟨nm,bs,mro,ns,qn,hd,sn,sub,ab,col,del⟩:=cd
   dsimp only at hm hdel hok hni
   subst hm hdel
   have hsl : sl = #[k0,k1,k2,k3,some (.builtin "ValueError.__new__"),k5]:=by
    obtain ⟨l⟩:=sl
    simp only at hs
    rw [hs]
   subst hsl
   exact ⟨bm,ns,nm,qn,bs,hd,sn,sub,ab,col,dd,k0,k1,k2,k3,k5,_,X _ _ ho,.of_isNs (PySem.W.isNs_of_in X hok),PySem.W.nsMap_none_of_in X hok hni,PySem.W.tail_of_in X ht⟩
  ·cases q
 ·cases q
structure Rs (X : Cx) (E : XK) : Prop where
 xe : X.xe = fun e s'=>wpAny (model X.prog X.w) X.A (leaving X.env e) (fun _ s''=>CX1 X.prog X.w X.outer X.H₀ X.s₀ E e s'') (fun e' s''=>CX1 X.prog X.w X.outer X.H₀ X.s₀ E e' s'') s'
 ex : X.ex = []
 st : X.stack = X.env :: X.outer
 fr : X.env.frame = some X.env.locals
 cm : X.calm = true
theorem J8n {P : Program} {w : World} {K : PySem.W.Frag} {mg : Str → Option Value} {base : Heap} {N : List Str} {qual : Str} {scope : Scope} {f : Addr} {cd : Value} {A : Around} {outer : List Env} {s : Shared} {H : Hp} {E : XK} :
  Rs (cxOf (CX1 P w) P w K mg base N qual scope f cd A outer s H E) E:=⟨rfl,rfl,rfl,rfl,rfl⟩
theorem Rs.own {X : Cx} {E : XK} (R : Rs X E) : PassesOwn (model X.prog X.w) X.A X.env X.xe:=by rw [R.xe]; exact PassesOwn.leaving
noncomputable def J9P (C : Addr) (E : XK) (t : TA) : TS:=fun _ σ H=>t σ H fun vs H1=>vs.length ≤ sizeLine ∧ E (.ref C) none H1
theorem J7S {X : Cx} {E : XK} {x : Str} {C : Addr} {np cpos pos : Pos} {e : Expr} {es : List Expr} {t : TA} (R : Rs X E) (hx : XCls X.K C) (hm : X.mg x = some (.ref C)) (ha : PA X (e :: es) t) (hg : Gl X x:=by rfl) (hdb : (x == ("__debug__" : Str)) = false:=by decide)
  (he : starEach (e :: es) X.env = (false,eval e X.env) :: starEach es X.env:=by rfl) (hpl : (backTo cpos (starEach es X.env)).any (·.1) = false:=by rfl) :
  PS X (.Raise (some (.Call (.Name x np) (e :: es) [] cpos)) none pos) (J9P C E t):=by
 intro pins s σ H D I h
 obtain ⟨bm,N,nm,q,bs,hdct,sn,sub,ab,col,dd,k0,k1,k2,k3,k5,mN,e1,e2,e3,e4⟩:=hx.at I.mod.kin
 refine wpAny_Raise_call_subT (C:=C) (nm:=nm) (q:=q) (N:=N) (bs:=bs) (bm:=bm) (hdct:=hdct) (sn:=sn) (sub:=sub) (ab:=ab) (col:=col) (dd:=dd) (k0:=k0) (k1:=k1) (k2:=k2) (k3:=k3) (k5:=k5) (newId:="ValueError.__new__") (mN:=mN) PySem.F.excBase_ValueError (e4.hasType (by decide)) (I.ok.hd R.cm)
  (by rw [he]; show (false || (backTo cpos (starEach es X.env)).any (·.1)) = false; rw [hpl]; rfl) e3 (J26 I hg hm ⟨rfl,?_⟩ hdb)
 have hh:=ha cpos pins s σ H _ I h
 rw [he] at hh ⊢
 refine Calls.evalArgs_plain (thn hh fun us s1 ⟨vs,H1,I1,r,hl,q⟩=>⟨rfl,by rw [← r.length]; exact hl,I1.bk _ _ e1,e2.keeps I1.bk,e4.keeps I1.bk,fun h' e hm=>?_⟩)
 rw [R.xe]
 exact J4W I1 R.ex R.st R.fr hm q
noncomputable def FnX (P : Program) (w : World) (K : PySem.W.Frag) (mg : Str → Option Value) (base : Heap) (x : Str) (k : Nat) (ps : List Str) (sp : Sp) : Prop :=
 ∃ f fd,FnOk P w K mg base (CX1 P w) k f fd ps sp ∧ mg x = some (.ref f) ∧ PySem.W.keepIn K (.ref f) = true ∧ J20 K fd ps []
section
variable {P : Program} {w : World} {K : PySem.W.Frag} {mg : Str → Option Value} {base : Heap}
theorem GF.x {x : Str} {st : Stmt} {N ps : List Str} {k : Nat} {sp : Sp} (F : GF K mg x st) (S : Jp N ps (J4 st))
  (bnd : ∀ (kV doc pm : Value) (an : Option Addr) (cdv ct : Value) (us : List Value),us.length = ps.length → bindArgs (PySem.W.fnOf x x (Jn st) (Jk st) (J4 st) .none kV doc pm an cdv ct) ⟨us,[]⟩ = pure (ps.zip us))
  (len : ∀ vs H Q E,sp vs H Q E → vs.length = ps.length)
  (hbody : ∀ (f : Addr) (cdv : Value) (A : Around) (outer : List Env) (s : Shared) (H : Hp) (vs : List V) (Q : VK) (E : XK),Room k (A.deeper (envOfC x (J4 st) s.heap.objs.size f cdv)) → sp vs H Q E →
   ∃ t,PSs (cxOf (CX1 P w) P w K mg base N x (J4 st) f cdv A outer s H E) (Jk st) t ∧ t { nx:=fun _ H'=>Q .non H',rt:=Q } (start N vs) H) : FnX P w K mg base x (k + 1) ps sp:=by
 obtain ⟨f,fd,F,m⟩:=F
 refine ⟨f,fd,?_,m,F.kp,F.binds bnd⟩
 obtain ⟨oc,od,kV,doc,pm,an,cdv,ct,osl,rfl,lk,hcd⟩:=F.ex
 exact J9h lk hcd S len fun A outer s H vs Q E hr hsp=>hbody f cdv A outer s H vs Q E hr hsp
end
section
variable {X : Cx} {x m : Str} {k : Nat} {ps : List Str} {sp : Sp} {C : Addr} {p pos apos : Pos} {e o : Expr} {es : List Expr} {t : TA} {to : TE} {E : XK}
theorem J8s (G : FnX X.prog X.w X.K X.mg X.base x k ps sp) (hr : Room k X.A) (hx : J2u (CX1 X.prog X.w) X E) (ha : PA X (e :: es) t) (hg : Gl X x:=by rfl) (hdb : (x == ("__debug__" : Str)) = false:=by decide)
  (he : starEach (e :: es) X.env = (false,eval e X.env) :: starEach es X.env:=by rfl) (hpl : (backTo pos (starEach es X.env)).any (·.1) = false:=by rfl) : PE X (.Call (.Name x p) (e :: es) [] pos) (J6w sp [] E t):=by
 obtain ⟨f,fd,a,b,c,d⟩:=G
 exact J6r a hr hg b c d .nil hx ha hdb he hpl
end
end L2
set_option linter.all false
set_option maxRecDepth 100000
set_option maxHeartbeats 4000000
namespace L2
open PySem PySem.Spec PyProof.Rows
section
variable {prog : Program} {w : World} {A : Around} {E : Value → Shared → Prop} {K : PySem.W.Frag} {x C : Addr} {h : Heap} {g : Array GenState} {d : Drawn} {t : Nat} {os : OsState} {o : Obj}
structure XTy (K : PySem.W.Frag) (C : Addr) : Prop where
 ga : PySem.W.findIn K (.ref C) "__getattribute__" = some (some (.builtin "BaseException.__getattribute__"))
 gn : PySem.W.findIn K (.ref C) "__getattr__" = some none
 cl : PySem.W.findIn K (.ref C) "__class__" = some (some (.builtin "object.__class__"))
 mo : PySem.W.mroIn K C (.type "object") = some true
 mb : PySem.W.mroIn K C (.type "BaseException") = some true
theorem J9r {R : Result → Shared → Prop} (X : K.In h) (T : XTy K C) (hx : h.get? x = some o) (hc : o.cls = .ref C) (hq : R (.ok (.ret (.ref C))) ⟨h,g,d,t,os⟩) :
  codeAny (model prog w) A (.call (.builtin "getset_descriptor.__get__") ⟨[.builtin "object.__class__",.ref x,.ref C],[]⟩) R ⟨h,g,d,t,os⟩:=by
 have hT5 : (⟨h,g,d,t,os⟩ : Shared).TypeIs (.builtin "object.__class__") "getset_descriptor":=F.typeOf_object_class
 have L0 : PySem.W.Looks (model prog w) h (typeOf (.ref x)) (.ref C):=hc ▸ (PySem.W.Looks.ld hx).andThen .now
 have L1 : PySem.W.Looks (model prog w) h (isSubtype (.ref C) (.type (".".intercalate ("object.__class__".cutAt '.').dropLast))) true:=by rw [F.owner_object_class]; exact PySem.W.looks_mroIn X T.mo
 refine codeAny_call_builtin F.slot_gs_get.plain F.entry_gs_get (F.slot_gs_get.check _ _ _ _ _ _ _ _ hT5 (F.args_gs_get _ _ _) ?_)
 repeat (any_goals (first | assumption | with_reducible refine L0.at ?_ | with_reducible refine L1.at ?_ | wp_step))
 refine ⟨Code.quiet_builtin _ (by decide +kernel),codeAny_builtin F.entry_object_class ?_⟩
 repeat (any_goals (first | assumption | with_reducible refine L0.at ?_ | with_reducible refine L1.at ?_ | wp_step))
theorem J7K {tk : Tok} {Q : Fin → Shared → Prop} (X : K.In h) (T : XTy K C) (hx : h.get? x = some o) (hc : o.cls = .ref C) (hq : Q (.done (.ret (.ref C))) ⟨h,g,d,t,os⟩) :
  wpAny (model prog w) A (Builtin.«object.__getattribute__» ⟨[.ref x,.str "__class__" tk],[]⟩) Q E ⟨h,g,d,t,os⟩:=by
 have hT5 : (⟨h,g,d,t,os⟩ : Shared).TypeIs (.builtin "object.__class__") "getset_descriptor":=F.typeOf_object_class
 have L0 : PySem.W.Looks (model prog w) h (typeOf (.ref x)) (.ref C):=hc ▸ (PySem.W.Looks.ld hx).andThen .now
 have L2:=PySem.W.looks_findIn (M:=model prog w) X T.cl
 have f5:=F.typeOf_object_class
 have f6:=F.slot_gs_get.lookup
 have f7:=F.slot_gs_set.lookup
 repeat (any_goals (first | assumption | with_reducible refine L0.at ?_ | with_reducible refine L2.at ?_ | wp_step))
 refine J9r X T hx hc ?_
 repeat (any_goals (first | assumption | wp_step))
theorem J87 {M : Model} {nameV : Value} {Q : Unit → Shared → Prop} (X : K.In h) (T : XTy K C) (hx : h.get? x = some o) (hc : o.cls = .ref C) (hq : Q () ⟨h,g,d,t,os⟩) : wpAny M A (checkBuiltinCall "BaseException.__getattribute__" ⟨[.ref x,nameV],[]⟩) Q E ⟨h,g,d,t,os⟩:=by
 have hk : builtinKind "BaseException.__getattribute__" = some .slot:=by decide +kernel
 have hsplit : splitId "BaseException.__getattribute__" = some ("BaseException","__getattribute__"):=by decide +kernel
 have ha:=F.args_bexc_ga (.ref x) nameV
 have L0 : PySem.W.Looks M h (typeOf (.ref x)) (.ref C):=hc ▸ (PySem.W.Looks.ld hx).andThen .now
 have L1 : PySem.W.Looks M h (isSubtype (.ref C) (.type "BaseException")) true:=PySem.W.looks_mroIn X T.mb
 simp only [checkBuiltinCall,hk,hsplit]
 refine wpAny_bind ?_
 ·unfold isInstance
  repeat (first | with_reducible refine L0.at ?_ | with_reducible refine L1.at ?_ | wp_step)
  exact hq
theorem J96 {tk : Tok} {R : Result → Shared → Prop} (X : K.In h) (T : XTy K C) (hx : h.get? x = some o) (hc : o.cls = .ref C) (hq : R (.ok (.ret (.ref C))) ⟨h,g,d,t,os⟩) :
  codeAny (model prog w) A (.call (.builtin "BaseException.__getattribute__") ⟨[.ref x,.str "__class__" tk],[]⟩) R ⟨h,g,d,t,os⟩ :=
 codeAny_call_builtin F.attr_ValueError.ga.plain F.entry_bexc_ga (J87 X T hx hc (J7K X T hx hc hq))
theorem Jac {tk : Tok} {Q : Value → Shared → Prop} (X : K.In h) (T : XTy K C) (hx : h.get? x = some o) (hc : o.cls = .ref C) (hq : Q (.ref C) ⟨h,g,d,t,os⟩) :
  wpAny (model prog w) A (getAttrBy (.ref x) (.str "__class__" tk) false) Q E ⟨h,g,d,t,os⟩:=by
 have f3:=F.attr_ValueError.ga.bind (.ref x)
 have hx2 : (Value.builtin "BaseException.__getattribute__" == Value.builtin "object.__getattribute__") = false:=by decide +kernel
 have hx1 : (onTheHeap (Value.ref C) && Value.builtin "BaseException.__getattribute__" == Value.builtin "object.__getattribute__") = false:=by rw [hx2]; rfl
 have L0 : PySem.W.Looks (model prog w) h (typeOf (.ref x)) (.ref C):=hc ▸ (PySem.W.Looks.ld hx).andThen .now
 have L1:=PySem.W.looks_findIn (M:=model prog w) X T.ga
 have L2:=PySem.W.looks_findIn (M:=model prog w) X T.gn
 repeat (any_goals (first | assumption | with_reducible refine L0.at ?_ | with_reducible refine L1.at ?_ | with_reducible refine L2.at ?_ | wp_step))
 refine J96 X T hx hc ?_
 repeat (any_goals (first | assumption | wp_step))
theorem J92 {Q : Option Value → Shared → Prop} (X : K.In h) (T : XTy K C) (hx : h.get? x = some o) (hc : o.cls = .ref C) (hq : Q (some (.ref C)) ⟨h,g,d,t + 1,os⟩) : wpAny (model prog w) A (getAttr? (.ref x) "__class__") Q E ⟨h,g,d,t,os⟩:=by
 unfold getAttr? getAttrBy?
 repeat (any_goals (first | assumption | with_reducible apply Jac X T hx hc | wp_step))
theorem J7D (T : XTy K C) (hz : (PySem.W.clsIn K C).isSome = true) : PySem.W.KitX K (.ref x) (.ref C) (fun h=>∃ o,h.get? x = some o ∧ o.cls = .ref C) where
 ty:=fun M h _ ⟨o,h1,h2⟩=>h2 ▸ (PySem.W.Looks.ld h1).andThen .now
 it:=fun _ _ X _=>by
  unfold PySem.W.clsIn at hz
  split at hz
  ·rename_i c' d' cd' sl' ho
   intro A' Q' E' s' k q
   unfold isType loadHead
   exact wpAny_bind (wpAny_loadPart (k _ _ (X _ _ ho)) (wpAny_pure q))
  ·cases hz
 ne:=fun h tp dd its n sl X htp=>by
  refine Bool.eq_false_iff.mpr fun q=>?_
  have e : C = tp:=Value.ref.inj (beq_iff_eq.mp q)
  subst e
  unfold PySem.W.clsIn at hz
  split at hz
  ·rename_i c' d' cd' sl' ho
   have z:=(X _ _ ho).symm.trans htp
   cases z
  ·cases hz
 ca:=fun {_ _ _ _ _ s} X p k=>by
  obtain ⟨h,g,d,t,os⟩:=s
  obtain ⟨o,h1,h2⟩:=p
  exact J92 X T h1 h2 k
end
end L2
set_option linter.all false
set_option maxRecDepth 100000
set_option maxHeartbeats 4000000
namespace L2
open PySem PySem.Spec PyProof.Rows
noncomputable def XO (a C : Addr) : HO:=.ext fun h=>∃ o,h.get? a = some o ∧ o.cls = .ref C
theorem XO.ok {P : Program} {w : World} {H : Hp} {h : Heap} {a C : Addr} (q : ∃ o,h.get? a = some o ∧ o.cls = .ref C) : J1k P w H h a (XO a C) :=
 ⟨q,let ⟨o,e,_⟩:=q; ⟨o,e⟩,fun _ _ ⟨o,e,c⟩ k=>⟨o,k o e,c⟩⟩
section
variable {X : Cx} {pins : List (Addr × Obj)} {σ : St} {H : Hp} {s : Shared}
theorem J6G (I : Inv X pins σ H s) {a C : Addr} {a0 : Value} {H' : Hp} {B h' : Heap} {s' : Shared} (os : s'.os = s.os) (bare : AllBare s'.gens) (un : Un (frs X.stack) [] H H' s.heap s'.heap) (hok : HOk X.prog X.w H' s'.heap)
  (fl : Heap.FlyingW B X.stack a (.ref C) a0 s'.heap) (g1 : ∀ b o,s.heap.get? b = some o → H b = none → b ∉ frs X.stack → B.get? b = some o) (g2 : ∀ b o u,H' b = some u → s'.heap.get? b = some o → B.get? b = some o)
  (g3 : ∀ b o,s.heap.get? b = some o → b ∉ frs X.stack → ∃ o',B.get? b = some o') (na : H' a = none) (fl' : Heap.FlyingW B X.stack a (.ref C) a0 h') (sm : s'.heap.UpToSlots h') :
  Inv X pins σ (upd H' a (XO a C)) { s' with heap:=h' }:=by
 have frn : a ∉ frs X.stack:=fun hb=>by
  obtain ⟨_,o,ho,hd⟩:=fl'.2.2.1.mem hb
  obtain ⟨oe,vs,he,_,hde,_⟩:=fl'.first
  rw [he] at ho
  cases ho
  exact hd vs hde
 have ne : ∀ b o,s.heap.get? b = some o → b ≠ a:=fun b o q e=>by
  subst e
  obtain ⟨o',e⟩:=g3 b o q frn
  rw [fl.2.1] at e
  cases e
 have neH : ∀ b u,H' b = some u → b ≠ a:=fun b u q e=>by subst e; rw [na] at q; cases q
 have up : ∀ b,b ≠ a → upd H' a (XO a C) b = H' b:=fun b e=>by unfold upd; rw [if_neg e]
 refine I.call' (ch:=[]) os ⟨fun b o q n nb _=>fl'.1 b o (g1 b o q n nb),fun b o q n hb _=>?_,fun b o q n _=>?_,fun b o q _=>?_,fun b xs e=>?_,fun b o u e=>?_,fun b ps e=>?_⟩ (fun b u e=>?_) bare (fun b z=>absurd z (by simp))
 ·obtain ⟨sl,e1⟩:=un.slot b o q n hb (by simp)
  obtain ⟨_,o',ho',hd⟩:=fl.2.2.1.mem hb
  rw [e1] at ho'
  cases ho'
  obtain ⟨sl2,e2⟩:=sm b _ e1 hd
  exact ⟨sl2,e2⟩
 ·rw [up b (ne b o q)]
  exact un.free b o q n (by simp)
 ·by_cases hb : b ∈ frs X.stack
  ·obtain ⟨_,o',ho',_⟩:=fl'.2.2.1.mem hb
   exact ⟨o',ho'⟩
  ·obtain ⟨o',e⟩:=g3 b o q hb
   exact ⟨o',fl'.1 b o' e⟩
 ·have z:=un.tups b xs e
  rw [up b (neH b _ z)]
  exact z
 ·have z:=un.frzs b o u e
  rw [up b (neH b _ z)]
  exact z
 ·obtain ⟨m,z⟩:=un.tbls b ps e
  exact ⟨m,by rw [up b (neH b _ z)]; exact z⟩
 ·by_cases hb : b = a
  ·subst hb
   unfold upd at e
   rw [if_pos rfl] at e
   cases e
   exact XO.ok fl'.there
  ·rw [up b hb] at e
   refine (hok b u e).stay (fun c o hc q=>?_) (fun c q=>by rw [up c (neH c _ q)]; exact q) fun c xs q=>by rw [up c (neH c _ q)]; exact q
   rcases hc with rfl | hc
   ·exact fl'.1 c o (g2 c o _ e q)
   ·exact fl'.1 c o (g2 c o _ hc q)
noncomputable abbrev Cx.sui (X : Cx) (a : Addr) : Cx:={ X with A:=X.A.mark (some (.ref a)),calm:=false,xe:=fun _ _=>False }
theorem Inv.sui (I : Inv X pins σ H s) (a : Addr) : Inv (X.sui a) pins σ H s :=
 ⟨⟨I.ok.mod,I.ok.kind,I.ok.glob,I.ok.blt,I.ok.above,I.ok.inj,I.ok.has,I.ok.cab,(fun z=>nomatch z),I.ok.frames,I.ok.stk,I.ok.exf,I.ok.bs,I.ok.bsz,I.ok.noex,I.ok.exfs,I.ok.funs,I.ok.frf⟩,I.os,I.bare,I.base,I.loc,I.cell,I.free,I.freeC,I.pin,I.hok,I.len⟩
theorem Inv.unsui {a : Addr} (ok : X.Ok) (I : Inv (X.sui a) pins σ H s) : Inv X pins σ H s:=⟨ok,I.os,I.bare,I.base,I.loc,I.cell,I.free,I.freeC,I.pin,I.hok,I.len⟩
theorem J25 {M : Model} {A : Around} {E : Value → Shared → Prop} {i : Nat} {x : Str} {hp : Pos} {Q : Unit → Shared → Prop} (I : Inv X pins σ H s) (hN : X.N.Nodup) (hi : X.N[i]? = some x) (hk : X.env.scope.names.lookup x = some .local)
  (h : ∀ s',Inv X pins (σ.set i none) H s' → Q () s') : wpAny M A (do bindName X.env x .none; unbindBehindTheSuite X.env x hp) Q E s:=by
 obtain ⟨m,hn,hl⟩:=id I.loc
 have hcls : (X.env.scope.kind == .class || (X.env.scope.kind == .module && X.env.locals != X.env.globals)) = false:=by rw [I.ok.kind]; rfl
 refine wpAny_nameGoes_keeps hk hn hcls fun h' v hn' hs=>h _ ?_
 obtain ⟨oL,_,_,hoL,_⟩:=id hn
 have ne0 : ∀ b o,X.s₀.heap.get? b = some o → b ≠ X.env.locals:=fun b o e=>Nat.ne_of_lt (Nat.lt_of_lt_of_le (Heap.lt_size e) I.ok.above)
 refine ⟨I.ok,I.os,I.bare,⟨fun b o e n hb hx=>(hs.2 b (ne0 b o e)).trans (I.base.keep b o e n hb hx),fun b o e n hb hx=>?_,I.base.free,fun b o e hx=>?_,I.base.tups,I.base.frzs,I.base.tbls⟩,⟨_,hn',fun j y v' e1 e2 e3=>?_⟩,fun y c e=>?_,I.free,I.freeC,fun p hp=>?_,fun b ob e=>?_,by simpa using I.len⟩
 ·obtain ⟨sl,e1⟩:=I.base.slot b o e n hb hx
  exact ⟨sl,(hs.2 b (ne0 b o e)).trans e1⟩
 ·obtain ⟨o',e1⟩:=I.base.there b o e hx
  exact ⟨o',(hs.2 b (ne0 b o e)).trans e1⟩
 ·have hj : j ≠ i:=fun hj=>by
   subst hj
   have hiσ : j < σ.length:=by rw [I.len]; exact (List.getElem?_eq_some_iff.mp hi).1
   rw [List.getElem?_set_self hiσ] at e2
   cases e2
  rw [List.getElem?_set_ne (Ne.symm hj)] at e2
  obtain ⟨u',r',q⟩:=hl j y v' e1 e2 e3
  refine ⟨u',r',?_⟩
  rcases q with ⟨k,e⟩ | ⟨k,c,e,z⟩
  ·refine .inl ⟨k,?_⟩
   have : y ≠ x:=fun e=>hj (J3O hN e1 (e ▸ hi))
   simp [this,e]
  ·exact .inr ⟨k,c,e,z.sameBut hs (I.cne y c e)⟩
 ·obtain ⟨w',z⟩:=I.cell y c e
  exact ⟨w',z.sameBut hs (I.cne y c e)⟩
 ·obtain ⟨e,n,ne,nf,d⟩:=I.pin p hp
  exact ⟨(hs.2 p.1 ne).trans e,n,ne,nf,d⟩
 ·refine (I.hok b ob e).stay (fun c w' hc q=>(hs.2 c ?_).trans q) (fun _ q=>q) fun _ _ q=>q
  rintro rfl
  rcases hc with z | hc
  ·rw [← z,I.free] at e; cases e
  ·rw [I.free] at hc; cases hc
end
noncomputable def PEX (X : Cx) (e : Expr) (t : XK → TE) : Prop :=
 ∀ (pins : List (Addr × Obj)) (s : Shared) (σ : St) (H : Hp) (Q : VK) (E : XK) (Ex : Value → Shared → Prop),Inv X pins σ H s → t E σ H Q → (∀ ev s1 H1 s0,Inv X pins σ H1 s0 → CX1 X.prog X.w X.stack H1 s0 E ev s1 → Ex ev s1) →
  wpAny (model X.prog X.w) X.A (eval e X.env) (EP X pins σ Q) Ex s
noncomputable def PBX (X : Cx) (b : List Stmt) (t : XK → TS) : Prop :=
 ∀ (pins : List (Addr × Obj)) (s : Shared) (σ : St) (H : Hp) (D : Ends) (E : XK) (Ex : Value → Shared → Prop),Inv X pins σ H s → t E D σ H → (∀ ev s1 H1 s0,Inv X pins σ H1 s0 → CX1 X.prog X.w X.stack H1 s0 E ev s1 → Ex ev s1) →
  wpAny (model X.prog X.w) X.A (execs b X.env) (SP X pins D) Ex s
section
variable {X : Cx} {x m : Str} {k : Nat} {ps : List Str} {sp : Sp} {C : Addr} {p pos apos : Pos} {e o : Expr} {es : List Expr} {t : TA} {to : TE}
theorem AP.unwish {pins : List (Addr × Obj)} {σ : St} {Q : List V → Hp → Prop} {E : Value → Shared → Prop} {us : List Value} {s : Shared} (h : AP (X.wish E) pins σ Q us s) : AP X pins σ Q us s:=by
 obtain ⟨vs,H',I,r,q⟩:=h
 exact ⟨vs,H',I.unwish,r,q⟩
theorem J9y (G : FnX X.prog X.w X.K X.mg X.base x k ps sp) (hr : Room k X.A) (ha : PA X.nox (e :: es) t) (hg : Gl X x:=by rfl) (hdb : (x == ("__debug__" : Str)) = false:=by decide)
  (he : starEach (e :: es) X.env = (false,eval e X.env) :: starEach es X.env:=by rfl) (hpl : (backTo pos (starEach es X.env)).any (·.1) = false:=by rfl) : PEX X (.Call (.Name x p) (e :: es) [] pos) (fun E=>J6w sp [] E t):=by
 obtain ⟨f,fd,F,hm,hk,hb⟩:=G
 intro pins s σ H Q E Ex I h hx
 refine wpAny_Call_Name_kw (J26 I hg hm ?_ hdb)
 refine PySem.W.callWith_K (h₀:=X.base) I.ok.mod.kin hk (wpAny_mono (ha pos pins s σ H _ (I.wish _) h) (fun us s1 q=>?_) fun _ _ z=>False.elim z) he hpl
 obtain ⟨vs,H1,I1,r,q⟩:=AP.unwish (X:=X) q
 refine ⟨I1.kIn,?_⟩
 have hl : us.length = ps.length:=by
  rw [← r.length]
  have:=F.len _ _ _ _ q
  rw [List.append_nil] at this
  exact this
 have hbb:=hb s1 us I1.kIn (by rw [List.append_nil]; exact hl)
 rw [List.append_nil] at hbb
 rw [List.append_nil] at q
 refine wpAny_call (codeAny_mono (F.run X.A X.stack s1 H1 ⟨us,[]⟩ us vs Q E hr I1.env0 hbb r q) fun r s' hq=>?_)
 cases r with
 | error e=>exact hx e s' H1 s1 I1 hq
 | ok fl =>
  cases fl with
  | ret u=>exact I1.after hq
  | next=>exact False.elim hq
  | brk=>exact False.elim hq
  | cont=>exact False.elim hq
theorem J7T {te : XK → TE} (he : PEX X e te) (hs : swapsWith e none pos.line X.env = pure false:=by rfl) : PBX X [.Expr e pos] (fun E=>J9l (te E)):=by
 intro pins s σ H D E Ex I h hx
 refine wpAny_execs_cons (wpAny_Expr_any (thn (he pins s σ H _ E Ex I h hx) fun v s1 ⟨x,H1,I1,r1,q1⟩=>?_) I.quiet hs)
 exact wpAny_execs_nil ⟨σ,H1,I1,q1⟩
end
noncomputable def Jaj (K : PySem.W.Frag) (CB : Addr) (i : Nat) (tb : XK → TS) (ts : TS) : TS:=fun D σ H=>tb (fun c _ H2=>∃ C,c = .ref C ∧ PySem.W.exmOne K (.ref C) (.ref CB) = some true ∧
 ∀ a,H2 a = none → ts { nx:=fun σ' H'=>D.nx (σ'.set i none) H',bk:=fun σ' H'=>D.bk (σ'.set i none) H',ct:=fun σ' H'=>D.ct (σ'.set i none) H',rt:=D.rt } (σ.set i (some (.ref a))) (upd H2 a (XO a C))) D σ H
section
variable {X : Cx}
theorem J98 {cx n : Str} {CB : Addr} {i : Nat} {cp hp pos : Pos} {b : List Stmt} {tb : XK → TS} {b₀ : Stmt} {suite : List Stmt} {ts : TS} (hst : X.stack = X.env :: X.outer) (hfr : X.env.frame = some X.env.locals) (hN : X.N.Nodup) (hi : X.N[i]? = some n)
  (hl : X.env.scope.names.lookup n = some .local) (hcm : X.mg cx = some (.ref CB)) (hb : PBX X b tb) (hs : ∀ a,PSs (X.sui a) (b₀ :: suite) ts) (hgc : Gl X cx:=by rfl) (hdb : (cx == ("__debug__" : Str)) = false:=by decide) :
  PS X (.Try b [.ExceptHandler (some (.Name cx cp)) (some n) (b₀ :: suite) hp] [] [] pos) (Jaj X.K CB i tb ts):=by
 intro pins s σ H D I h
 refine wpAny_Try_except ?_
 refine wpAny_mono (hb pins s σ H D _ (fun e s₁=>wpAny (model X.prog X.w) X.A (noteFrame e X.env) (fun _ s₂=>wpAny (model X.prog X.w) X.A (setFlight e none) (fun _ s₃=>wpAny (model X.prog X.w) X.A (handleBy e X.env [.ExceptHandler (some (.Name cx cp)) (some n) (b₀ :: suite) hp]) (SP X pins D) X.xe s₃) X.xe s₂) X.xe s₁) I h fun ev s1 H1 s0 I0 hc=>?_) (fun f s1 q=>?_) fun _ _ z=>z
 ·obtain ⟨a,C,a0,H',B,rfl,os,bare,un,hok,fl,g1,g2,g3,na,C',hC,hx,q⟩:=hc
  cases hC
  have fl':=fl
  rw [hst] at fl'
  refine wpAny_looks_onW (by rw [I0.ok.frames,hst]) hfr fl' fun h4 x4 m4=>?_
  refine wpAny_landsW x4 fun h5 x5 m5=>?_
  rw [← hst] at x5
  have I5:=J6G I0 os bare un hok fl g1 g2 g3 na x5 (Heap.UpToSlots.trans m4 m5)
  refine wpAny_handleBy_cons (codeAny_handlers_test (J26 (X:=X.sui a) (I5.sui a) hgc hcm ?_ hdb)) (by intro q; cases q)
  have LT : PySem.W.Looks (model X.prog X.w) h5 (typeOf (.ref a)) (.ref C):=by
   obtain ⟨o,e1,e2⟩:=x5.there
   exact e2 ▸ (PySem.W.Looks.ld e1).andThen .now
  refine (PySem.W.exm_one I5.kIn LT hx).at (codeAny_handlers_suite_as ?_)
  refine lands_againW x5 fun h6 x6 m6=>?_
  have I6:=J6G I0 os bare un hok fl g1 g2 g3 na x6 (Heap.UpToSlots.trans (Heap.UpToSlots.trans m4 m5) m6)
  refine J1Y (v:=.ref a) (X:=X) I6 hN hi (.inl hl) rfl (fun s7 I7=>?_) (.inr hl)
  refine wpAny_mono (hs a pins s7 _ _ _ (I7.sui a) (q a na)) (fun f s8 q8=>?_) fun _ _ z=>False.elim z
  cases f with
  | next =>
   obtain ⟨σ',H8,I8,q8⟩:=q8
   exact J25 (Inv.unsui I0.ok I8) hN hi hl fun s9 I9=>⟨_,_,I9,q8⟩
  | brk =>
   obtain ⟨σ',H8,I8,q8⟩:=q8
   exact J25 (Inv.unsui I0.ok I8) hN hi hl fun s9 I9=>⟨_,_,I9,q8⟩
  | cont =>
   obtain ⟨σ',H8,I8,q8⟩:=q8
   exact J25 (Inv.unsui I0.ok I8) hN hi hl fun s9 I9=>⟨_,_,I9,q8⟩
  | ret u =>
   obtain ⟨v,σ',H8,I8,rv,q8⟩:=q8
   exact J25 (Inv.unsui I0.ok I8) hN hi hl fun s9 I9=>⟨v,_,_,I9,rv,q8⟩
 ·cases f with
  | next=>exact wpAny_execs_nil q
  | brk=>exact q
  | cont=>exact q
  | ret u=>exact q
end
end L2
set_option linter.all false
set_option maxRecDepth 100000
set_option maxHeartbeats 4000000
namespace L2
open PySem PySem.Spec PyProof.Rows
theorem J6c {K : PySem.W.Frag} {C : Addr} {b : Value} {r : Bool} (e : PySem.W.mroIn K C b = some r) : (PySem.W.clsIn K C).isSome = true:=by
 unfold PySem.W.mroIn at e
 cases h : PySem.W.clsIn K C with
 | none=>rw [h] at e; cases e
 | some cd=>rfl
theorem J31 : bootBuiltins "ValueError" = some (.type "ValueError"):=by decide +kernel
section
variable {X : Cx} {K : PySem.W.Frag}
structure XIs (K : PySem.W.Frag) (C : Addr) : Prop where
 ty : XTy K C
 cls : (PySem.W.clsIn K C).isSome = true
theorem XO.at {P : Program} {w : World} {H : Hp} {h : Heap} {a C : Addr} (x : J1k P w H h a (XO a C)) : ∃ o,h.get? a = some o ∧ o.cls = .ref C:=x.1
theorem J2y (h : X.K = K) : J1R X (.builtin "isinstance") (fun xs H Q=>∃ p C v c b,xs = [.ref p,v] ∧ H p = some (XO p C) ∧ XIs K C ∧ ((∃ D,v = .ref D ∧ c = .ref D) ∨ ∃ T,v = .ty T ∧ c = .type T) ∧ PySem.W.kitOne K (.ref C) c = some b ∧ Q (.bl b) H):=by
 subst h
 intro pins s σ H xs us Q I r h
 obtain ⟨p,C,v,c,b,rfl,hp,T,hv,hk,q⟩:=h
 obtain ⟨u,u2,rfl,r1,r2⟩:=r.two
 cases r1
 have e : u2 = c:=by
  rcases hv with ⟨D,rfl,rfl⟩ | ⟨T,rfl,rfl⟩
  ·exact r2
  ·exact r2
 subst e
 exact PySem.W.kia_one (J7D T.ty T.cls) I.kIn (XO.at (I.hok p _ hp)) hk (fun z=>nomatch z) fun tk=>⟨.bl b,H,I.tok _,rfl,q⟩
end
end L2
set_option linter.all false
set_option maxRecDepth 100000
set_option maxHeartbeats 4000000
namespace L2
open PySem PySem.Spec PyProof.Rows
theorem J7I {X : Cx} : J2u (CX1 X.prog X.w) X E0:=fun _ _ _ _ _ _ _ h=>by
 obtain ⟨a,C,a0,H',B,_,_,_,_,_,_,_,_,_,_,z⟩:=h
 exact z.elim
section
variable {X : Cx} {K : PySem.W.Frag} {pins : List (Addr × Obj)} {σ : St} {H : Hp} {s : Shared} {A : Around}
end
end L2
set_option linter.all false
set_option maxRecDepth 100000
set_option maxHeartbeats 4000000
namespace L2
open PySem PySem.Spec PyProof.Rows
section
variable {X : Cx} {K : PySem.W.Frag} {pins : List (Addr × Obj)} {σ : St} {H : Hp} {s : Shared} {A : Around}
theorem J7t (h : X.K = K) : OpR X (compareOp .In) (rIn K false):=h ▸ J6S
end
end L2
set_option linter.all false
set_option maxRecDepth 100000
set_option maxHeartbeats 4000000
namespace L2
open PySem PySem.Spec PyProof.Rows
section
variable {X : Cx} {K : PySem.W.Frag}
end
end L2
set_option linter.all false
set_option maxRecDepth 100000
namespace L2
open PySem PySem.Spec PyProof.Rows
end L2
namespace L2
open PySem PySem.Spec PyProof.Rows
section
variable (P : Program) (w : World)
end
section
variable {P : Program} {w : World} {H H' : Hp} {h h' : Heap} {a : Addr} {o : HO}
end
section
variable {P : Program} {w : World} {H : Hp} {h h' : Heap} {x e : Addr} {o' : HO}
end
section
variable {fs fs' ex ex' : List Addr} {H H1 H2 : Hp} {h h1 h2 h' : Heap} {a x e : Addr} {o : HO}
end
end L2
namespace L2
open PySem PySem.Spec PyProof.Rows
section
variable {X : Cx} {pins : List (Addr × Obj)} {σ : List (Option V)} {H H' : Hp} {s : Shared} {h' : Heap}
end
end L2
namespace L2
open PySem PySem.Spec PyProof.Rows
section
variable {X : Cx}
variable {a b : Expr} {ta tb : TE} {pos : Pos}
variable {tA tB' : TT} {rest : List Expr}
end
end L2
namespace L2
open PySem PySem.Spec PyProof.Rows
section
variable {X : Cx} {pins : List (Addr × Obj)} {σ : St} {H : Hp} {s : Shared} {a : Addr} {xs ys : List V}
end
section
variable {X : Cx} {pins : List (Addr × Obj)} {σ : St} {H : Hp} {s : Shared} {E : Value → Shared → Prop}
end
section
variable {X : Cx} {st : Stmt} {rest : List Stmt} {t u : TS} {e : Expr} {te : TE} {pos : Pos}
end
section
variable {X : Cx} {pos : Pos}
end
section
variable {X : Cx} {pos : Pos}
end
end L2
namespace L2
open PySem PySem.Spec PyProof.Rows
section
variable {X : Cx} {tg : Expr}
end
end L2
namespace L2
open PySem PySem.Spec PyProof.Rows
section
variable {X : Cx} {a b c : Expr} {ta tb tc : TE} {pos : Pos}
end
section
variable {X : Cx} {a b c : Expr} {ta tb tc : TE} {pos : Pos}
end
end L2
namespace L2
open PySem PySem.Spec PyProof.Rows
section
variable {prog : Program} {w : World} {A : Around} {E : Value → Shared → Prop} {s : Shared} {K : PySem.W.Frag} {x dx C f : Addr} {mA : Str → Option Value} {name : Str} {v : Value}
end
section
variable {P : Program} {w : World} {H H' : Hp} {h h' : Heap} {a C dx : Addr} {fs fs' : List (Str × V)}
end
section
variable {X : Cx} {pins : List (Addr × Obj)} {σ : St} {H : Hp} {s : Shared} {a C dx : Addr} {fs : List (Str × V)} {f : Str} {v : V} {A : Around} {E : Value → Shared → Prop}
end
section
variable {X : Cx} {o e value : Expr} {f : Str} {pos pos' tpos : Pos} {ta tv : TE}
end
section
variable {X : Cx} {pins : List (Addr × Obj)} {σ : St} {H : Hp} {s : Shared} {A : Around} {E : Value → Shared → Prop} {Q : Value → Shared → Prop} {c : Value} {b : Bool}
end
end L2
namespace L2
open PySem PySem.Spec PyProof.Rows
section
variable {X : Cx} {e : Expr} {es : List Expr} {te : TE} {t : TA} {pos : Pos}
end
section
variable {X : Cx} {pins : List (Addr × Obj)} {σ : St} {H : Hp} {s s' : Shared}
end
section
variable {X : Cx} {CX : CXT} {k : Nat} {f C : Addr} {fd : FuncData} {ps : List Str} {sp : Sp} {dvs : List V} {ds : List Value} {E : XK} {x m : Str} {p pos apos : Pos} {e o : Expr} {es : List Expr} {ta : TE} {t : TA}
end
section
variable {X : Cx} {CX : CXT} {k : Nat} {f C : Addr} {fd : FuncData} {ps ks : List Str} {sp : Sp} {E : XK} {x m : Str} {p pos apos kpos : Pos} {e o : Expr} {es : List Expr} {kws : List Keyword} {te ta : TE} {t tk : TA} {nm : Option Str}
variable {g : List Value → List Value → List Value} {gV : List V → List V → List V}
end
end L2
namespace L2
open PySem PySem.Spec PyProof.Rows
section
variable {X : Cx} {x : Str} {p pos : Pos} {e : Expr} {es : List Expr} {t : TA} {id T : String} {r : List V → Hp → VK → Prop}
end
end L2
namespace L2
open PySem PySem.Spec PyProof.Rows
section
variable {κ : Type} [DecidableEq κ]
end
section
variable {P : Program} {w : World} {H : Hp} {h : Heap} {a : Addr}
end
section
variable {X : Cx} {pins : List (Addr × Obj)} {σ : St} {H : Hp} {s : Shared} {a : Addr} {y v : V} {u r : Value} {o : Option V} {A : Around} {E : Value → Shared → Prop}
end
section
variable {X : Cx} {pins : List (Addr × Obj)} {σ : St} {H : Hp} {s : Shared} {a : Addr} {kvs : List (Key × V)} {k : Key} {u : Value} {A : Around} {E : Value → Shared → Prop}
end
section
variable {X : Cx} {o i e value : Expr} {pos pos' tpos : Pos} {td ty tv : TE}
end
section
variable {X : Cx} {pos : Pos}
end
section
variable {X : Cx} {pins : List (Addr × Obj)} {σ : St} {H : Hp} {s : Shared} {a : Addr} {y d : V} {u r : Value} {o : Option V} {A : Around} {E : Value → Shared → Prop}
end
section
variable {X : Cx} {o e f : Expr} {apos cpos : Pos} {td ty tx : TE}
end
section
variable {X : Cx} {pins : List (Addr × Obj)} {σ : St} {H : Hp} {s : Shared} {a : Addr} {kvs : List (Key × V)} {A : Around} {E : Value → Shared → Prop}
end
section
variable {X : Cx} {pins : List (Addr × Obj)} {σ : St} {H : Hp} {s : Shared} {a : Addr} {y : V} {u : Value} {A : Around} {E : Value → Shared → Prop}
end
end L2
namespace Att
open PySem PySem.W PySem.Calls PyProof.Rows
section
variable {prog : Program} {w : World} {A : Around} {E : Value → Shared → Prop} {s : Shared} {K : Frag}
end
end Att
namespace L2
open PySem PySem.Spec PyProof.Rows
end L2
namespace L2
open PySem PySem.Spec PyProof.Rows
end L2
namespace L2
open PySem PySem.Spec PyProof.Rows
section
variable {P : Program} {w : World} {K : PySem.W.Frag} {mg : Str → Option Value} {base : Heap}
end
section
variable {X : Cx}
end
section
variable {κ : Type} [DecidableEq κ]
end
end L2
set_option linter.all false
set_option maxRecDepth 100000
set_option maxHeartbeats 4000000
namespace L2
open PySem PySem.Spec PyProof.Rows
section
variable {prog : Program} {w : World} {K : Type} [DecidableEq K] {knd : HeapKind prog w K} {A : Around} {E : Value → Shared → Prop} {s : Shared} {d a : Addr} {xs : List (K × Addr × Value)} {k : K} {z : Value}
end
section
variable {X : Cx} {K : PySem.W.Frag}
end
end L2
set_option linter.all false
set_option maxRecDepth 100000
set_option maxHeartbeats 4000000
namespace L2
open PySem PySem.Spec PyProof.Rows
section
variable {X : Cx} {K : PySem.W.Frag}
end
section
variable {X : Cx} {es : List Expr} {k : Nat} {tpos : Pos}
end
section
variable {elt tg iter : Expr} {ifs : List Expr} {scope : Scope} {pos : Pos} {N : List Str} {js : List (Option Nat)} {wi : TI} {g : TG} {tc : TT} {te : TE}
end
end L2
set_option linter.all false
set_option maxRecDepth 100000
set_option maxHeartbeats 4000000
namespace L2
open PySem PySem.Spec PyProof.Rows
section
variable {prog : Program} {w : World} {K : Type} [DecidableEq K] {knd : KeyKind prog w K} {A : Around} {E : Value → Shared → Prop} {s : Shared}
end
theorem J4n : ∀ {vs : List Value} {ss : List Str},StrsAre vs ss → Vals (ss.map V.str) vs
 | _,_,.nil=>.nil
 | _,_,.cons y t h=>.cons ⟨t,rfl⟩ (J4n h)
section
variable {X : Cx}
end
theorem Jag {a b c : List Nat} (h1 : ltCps b a = false) (h2 : ltCps c b = false) : ltCps c a = false:=by
 rw [ltCps_eq] at *
 have h1' : ¬ b < a:=of_decide_eq_false h1
 have h2' : ¬ c < b:=of_decide_eq_false h2
 exact decide_eq_false (List.not_lt.mpr (List.le_trans (List.not_lt.mp h1') (List.not_lt.mp h2')))
theorem Jan {a b : List Nat} (h1 : ltCps b a = false) (h2 : ltCps a b = false) : a = b:=by
 rw [ltCps_eq] at *
 have h1' : ¬ b < a:=of_decide_eq_false h1
 have h2' : ¬ a < b:=of_decide_eq_false h2
 exact List.le_antisymm (List.not_lt.mp h1') (List.not_lt.mp h2')
theorem J4s : ∀ (l : List Str) (p : Str),risingS p l = true → (p :: l).Pairwise fun a b=>ltCps b.cps.toList a.cps.toList = false
 | [],p,_=>List.pairwise_singleton _ _
 | x :: r,p,h=>by
  have h' : (!ltCps x.cps.toList p.cps.toList && risingS x r) = true:=h
  obtain ⟨h1,h2⟩:=(Bool.and_eq_true _ _).mp h'
  have ih:=J4s r x h2
  have h1' : ltCps x.cps.toList p.cps.toList = false:=by simpa using h1
  refine List.pairwise_cons.mpr ⟨fun y hy=>?_,ih⟩
  rcases List.mem_cons.mp hy with rfl | hy
  ·exact h1'
  ·exact Jag h1' ((List.pairwise_cons.mp ih).1 y hy)
theorem J2W {l : List Str} (h : sortedS l = true) : l.Pairwise fun a b=>ltCps b.cps.toList a.cps.toList = false:=by
 cases l with
 | nil=>exact List.Pairwise.nil
 | cons x r=>exact J4s r x h
theorem J6C : ∀ {l l' : List Str},l.Perm l' → (l.Pairwise fun a b=>ltCps b.cps.toList a.cps.toList = false) → (l'.Pairwise fun a b=>ltCps b.cps.toList a.cps.toList = false) → l = l'
 | [],l',p,_,_=>(List.nil_perm.mp p).symm
 | x :: r,[],p,_,_=>(List.perm_nil.mp p)
 | x :: r,y :: t,p,h1,h2=>by
  have hx : x ∈ y :: t:=p.subset List.mem_cons_self
  have hy : y ∈ x :: r:=p.symm.subset List.mem_cons_self
  have e : x = y:=by
   rcases List.mem_cons.mp hx with e | hx'
   ·exact e
   rcases List.mem_cons.mp hy with e | hy'
   ·exact e.symm
   have a1:=(List.pairwise_cons.mp h1).1 y hy'
   have a2:=(List.pairwise_cons.mp h2).1 x hx'
   have:=Jan a1 a2
   cases x; cases y
   simp only [Str.mk.injEq]
   exact Array.toList_inj.mp this
  subst e
  rw [J6C ((List.perm_cons x).mp p) (List.pairwise_cons.mp h1).2 (List.pairwise_cons.mp h2).2]
theorem J5A {l l' : List Str} (p : l.Perm l') (h : sortedS l = true) (h' : sortedS l' = true) : l = l':=J6C p (J2W h) (J2W h')
section
variable {X : Cx} {K : PySem.W.Frag}
theorem J7L : ∀ {v : V},JZ v = true → eqV v v = true:=fun {v} h=>by
 have:=J33 (xs:=[v]) (by simp [h])
 simpa [eqVs] using this
end
theorem J6Z : bootBuiltins "sorted" = some (.builtin "sorted"):=by decide +kernel
section
variable {X : Cx}
theorem J84 {x : Str} {n : Int} {pos : Pos} (hg : Gl X x) (hm : ∃ t,X.mg x = some (.int n t)) (hd : (x == ("__debug__" : Str)) = false:=by decide) : PE X (.Name x pos) (tC (.int n)):=by
 obtain ⟨t,hm⟩:=hm
 exact J4T hg hm ⟨t,rfl⟩ hd
end
section
variable {X : Cx}
end
end L2
set_option linter.all false
set_option maxRecDepth 100000
set_option maxHeartbeats 4000000
namespace L2
open PySem PySem.Spec PyProof.Rows
section
variable {p : Program} {w : World} {A : Around} {R : Result → Shared → Prop} {it bst : Addr} {fp wr : List Addr} {n : Nat} {G : Nat → Value → Prop} {St : Nat → Heap → Prop} {bt : Nat → Nat → Bool} {kw : List (Str × Value)}
end
section
variable {p : Program} {w : World} {A : Around} {E : Value → Shared → Prop} {s : Shared} {l : Addr} {xs : Array (Int × Tok)} {Q : Value → Shared → Prop} {d : Value}
end
section
variable {X : Cx} {K : PySem.W.Frag}
end
end L2
set_option linter.all false
set_option maxRecDepth 100000
set_option maxHeartbeats 4000000
namespace L2
open PySem PySem.Spec PyProof.Rows
section
variable {κ : Type} [DecidableEq κ]
end
section
variable {p : Program} {w : World} {A : Around} {R : Result → Shared → Prop} {it : Addr} {fp wr : List Addr} {gs : Array GenState → Array GenState → Prop} {n : Nat} {Pv : Nat → Value → Prop} {St : Nat → Shared → Prop}
end
section
variable {p : Program} {w : World} {A : Around} {E : Value → Shared → Prop} {s : Shared}
end
section
variable {X : Cx}
end
end L2
set_option linter.all false
set_option maxRecDepth 100000
namespace L2
open PySem PySem.Spec PyProof.Rows
section
variable {X : Cx}
end
end L2
set_option linter.all false
set_option maxRecDepth 100000
set_option maxHeartbeats 4000000
namespace L2
open PySem PySem.Spec PyProof.Rows
section
variable {X : Cx} {e : Expr} {pos : Pos}
end
end L2
set_option linter.all false
set_option maxRecDepth 100000
set_option maxHeartbeats 4000000
namespace L2
open PySem PySem.Spec PyProof.Rows
section
variable {X : Cx}
theorem J6q : ∀ ws : List (List Nat),(ws.map T).all JZ = true
 | []=>rfl
 | _ :: r=>by rw [List.map_cons,List.all_cons,J6q r]; rfl
theorem J8p (a b : List Nat) : eqV (T a) (T b) = decide (a = b):=by
 by_cases h : a = b
 ·subst h
  rw [decide_eq_true rfl]
  exact decide_eq_true rfl
 ·rw [decide_eq_false h]
  exact decide_eq_false fun z=>h (J2D (congrArg V.str z))
noncomputable def J9E : V → List V → Hp → VK → Prop:=fun x vs H Q=>∃ (l : Addr) (ws : List (List Nat)) (wd : List Nat) (k : Nat),x = .ref l ∧ vs = [T wd] ∧ H l = some (.lst (ws.map T)) ∧ ws[k]? = some wd ∧ (∀ j < k,¬ ws[j]? = some wd) ∧ Q (.int (k : Nat)) H
theorem J5Z : MtM X "list.index" J9E:=by
 intro pins s σ H x vs v us Q I rx rv h
 obtain ⟨l,ws,wd,k,rfl,rfl,hH,hk,hno,q⟩:=h
 cases rx
 obtain ⟨u,rfl,ru⟩:=rv.one
 obtain ⟨z,its,n,r,hl,e⟩:=I.lstM hH
 have hkl:=(List.getElem?_eq_some_iff.mp hk).1
 have hrl:=r.length
 rw [List.length_map] at hrl z
 have hjs : k < its.toArray.size:=by rw [List.size_toArray]; omega
 have at_ : ∀ (m : Nat) (hm : m < its.toArray.size) (y : List Nat),ws[m]? = some y → eqU (T wd) its.toArray[m] = decide (y = wd):=fun m hm y hy=>by
  have hy' : (ws.map T)[m]? = some (T y):=by rw [List.getElem?_map,hy]; rfl
  obtain ⟨u',hu',ru'⟩:=r.get hy'
  have e1 : its.toArray[m] = u':=by
   have : its[m]? = some its[m]:=List.getElem?_eq_getElem (by simpa using hm)
   rw [this] at hu'
   exact Option.some.inj hu'
  rw [e1,J6n ru' rfl,J8p]
 have big : sizeLine < 2 ^ 62:=by decide
 refine call_meets F.slot_list_index ⟨_,e,rfl⟩ F.entry_list_index (F.args_list_index_2 _ _)
  (SeqAt.list_indexAt l its.toArray n none #[] u (eqU (T wd)) k hjs (by omega) ?_ (fun m hm hmk=>?_)) ⟨e,fun y hy=>J2E ru rfl r (J6q ws) y (by simpa using hy),?_⟩
 ·rw [at_ k hjs wd hk]
  exact decide_eq_true rfl
 ·have hm' : m < ws.length:=by omega
  rw [at_ m hm ws[m] (List.getElem?_eq_getElem hm')]
  exact decide_eq_false fun y=>hno m hmk (by rw [List.getElem?_eq_getElem hm',y])
 ·exact ⟨.int (k : Nat),H,I.tok _,⟨_,rfl⟩,q⟩
end
end L2
set_option linter.all false
set_option maxRecDepth 100000
set_option maxHeartbeats 4000000
namespace L2
open PySem PySem.Spec PyProof.Rows
section
variable {X : Cx} {K : PySem.W.Frag} {pins : List (Addr × Obj)} {σ : St} {H : Hp} {s : Shared} {A : Around}
end
end L2
namespace L2
open PySem
end L2
set_option linter.all false
set_option maxRecDepth 100000
set_option maxHeartbeats 4000000
namespace L2
open PySem PySem.Spec PyProof.Rows
section
variable {X : Cx}
end
end L2
set_option linter.all false
set_option maxRecDepth 100000
set_option maxHeartbeats 4000000
namespace L2
open PySem PySem.Spec PyProof.Rows
section
variable {X : Cx} {K : PySem.W.Frag}
end
end L2
set_option linter.all false
set_option maxRecDepth 100000
set_option maxHeartbeats 4000000
namespace L2
open PySem PySem.Spec PyProof.Rows
section
variable {M : Model} {A : Around} {E : Value → Shared → Prop} {s : Shared} {B : Heap} {env : Env} {outer l : List Env} {L e : Addr} {c a0 fl : Value} {d : Option Addr} {Q : Unit → Shared → Prop}
end
end L2
set_option linter.all false
set_option maxRecDepth 100000
set_option maxHeartbeats 4000000
namespace L2
open PySem PySem.Spec PyProof.Rows
section
variable {prog : Program} {w : World} {A : Around} {E : Value → Shared → Prop} {h : Heap} {g : Array GenState} {d : Drawn} {t : Nat} {os : OsState}
variable {nm q : Str} {C N : Addr} {bs bm : List Value} {hdct : Bool} {sn : List Str} {sub : List Value} {ab : Bool} {col : Option Bool} {dd : Option Addr} {k0 k1 k2 k3 k5 : Option Value}
end
end L2
set_option linter.all false
set_option maxRecDepth 100000
set_option maxHeartbeats 4000000
namespace L2
open PySem PySem.Spec PyProof.Rows PySem.Builtin PySem.Builtin.ObjectAttr
section
variable {prog : Program} {w : World} {A : Around} {R : Result → Shared → Prop} {E : Value → Shared → Prop} {s : Shared} {K : PySem.W.Frag} {x C : Addr} {f : Str} {v : Value}
end
section
variable {X : Cx} {pins : List (Addr × Obj)} {σ : St} {H : Hp} {s : Shared} {e C t dx : Addr} {f : Str} {v : V} {u : Value} {A : Around} {E : Value → Shared → Prop} {Q : Unit → Shared → Prop}
end
end L2
set_option linter.all false
set_option maxRecDepth 100000
set_option maxHeartbeats 4000000
namespace L2
open PySem PySem.Spec PyProof.Rows
section
variable {X : Cx} {pins : List (Addr × Obj)} {σ : St} {H : Hp} {s : Shared} {E : XK} {Ex : Value → Shared → Prop}
end
section
variable {X : Cx} {pins : List (Addr × Obj)} {σ : St} {H : Hp} {s : Shared}
end
section
variable {P : Program} {w : World} {K : PySem.W.Frag} {mg : Str → Option Value} {base : Heap}
end
section
variable {X : Cx} {x m : Str} {k : Nat} {ps : List Str} {sp : Sp} {C : Addr} {p pos apos : Pos} {e o : Expr} {es : List Expr} {t : TA} {to : TE} {E : XK}
end
section
variable {X : Cx} {x : Str} {k : Nat} {ps : List Str} {sp : Sp} {C : Addr} {np cpos pos : Pos} {e : Expr} {es : List Expr} {t : TA} {E : XK}
end
end L2
set_option linter.all false
set_option maxRecDepth 100000
set_option maxHeartbeats 4000000
namespace L2
open PySem PySem.Spec PyProof.Rows PySem.Builtin PySem.Builtin.ObjectAttr
section
variable {X : Cx}
end
section
variable {prog : Program} {w : World} {A : Around} {E : Value → Shared → Prop} {K : PySem.W.Frag} {x C : Addr} {h : Heap} {g : Array GenState} {d : Drawn} {t : Nat} {os : OsState} {o : Obj} {od : Option Obj} {f : Str} {v : Value}
end
section
variable {X : Cx} {K : PySem.W.Frag}
end
end L2
set_option linter.all false
set_option maxRecDepth 100000
set_option maxHeartbeats 4000000
namespace L2
open PySem PySem.Spec PyProof.Rows
section
variable {X : Cx} {pins : List (Addr × Obj)} {σ : St} {H : Hp} {s : Shared} {E : XK} {Ex : Value → Shared → Prop}
end
section
variable {X : Cx} {x m : Str} {k : Nat} {ps : List Str} {sp : Sp} {C : Addr} {p pos apos : Pos} {e o : Expr} {es : List Expr} {t : TA} {to : TE} {E : XK}
end
section
variable {X : Cx} {K : PySem.W.Frag}
end
end L2
set_option linter.all false
set_option maxRecDepth 100000
set_option maxHeartbeats 4000000
namespace L2
open PySem PySem.Spec PyProof.Rows PySem.NumText
section
variable {X : Cx}
end
end L2
set_option linter.all false
set_option maxRecDepth 100000
set_option maxHeartbeats 4000000
namespace L2
open PySem PySem.Spec PyProof.Rows
section
variable {X : Cx} {a b c d : Expr} {ta tb tc td : TE} {pos : Pos}
end
section
variable {X : Cx} {K : PySem.W.Frag}
end
section
open PySem.StrLaws Builtin Builtin.Str
end
section
variable {X : Cx} {K : PySem.W.Frag}
end
section
variable {X : Cx} {e : Expr} {te : TE} {pos : Pos}
end
end L2
set_option linter.all false
set_option maxRecDepth 100000
set_option maxHeartbeats 4000000
namespace L2
open PySem PySem.Spec PyProof.Rows
section
open PySem.StrLaws Builtin Builtin.Str
end
section
variable {X : Cx} {K : PySem.W.Frag}
end
section
variable {X : Cx}
end
end L2
set_option linter.all false
set_option maxRecDepth 100000
set_option maxHeartbeats 4000000
namespace L2
open PySem PySem.Spec PyProof.Rows
theorem Jak (x : Str) : x = ⟨x.cps.toList.toArray⟩:=by cases x; simp
section
variable {X : Cx} {K : PySem.W.Frag}
theorem J8x (c : Nat) : ∀ l : List Nat,cnt c l = (l.count c : Int)
 | []=>rfl
 | n :: r=>by
  rw [cnt_cons,J8x c r,List.count_cons]
  by_cases e : n = c
  ·simp [e]; omega
  ·simp [e]
noncomputable def rCnt : V → List V → Hp → VK → Prop:=fun x vs H Q=>∃ (l : List Nat) (c : Nat),x = T l ∧ vs = [T [c]] ∧ Q (.int (l.count c : Nat)) H
theorem Ja4 : MtR X "str.count" rCnt:=by
 intro pins s σ H x vs v us Q I rx rv h
 obtain ⟨l,c,rfl,rfl,q⟩:=h
 obtain ⟨t,rfl⟩:=rx
 obtain ⟨u,rfl,ru⟩:=rv.one
 obtain ⟨t2,rfl⟩:=ru
 refine SC.count ?_
 have e : Txt.count ⟨l.toArray⟩ ⟨#[c]⟩ = (l.count c : Int):=by rw [count_is]; exact J8x c l
 rw [e]
 exact ⟨.int (l.count c : Nat),H,I.tok _,⟨_,rfl⟩,q⟩
theorem J3k {o e : Expr} {to : TE} {t : TA} {apos cpos : Pos} (h : X.K = K) (ho : PE X o to) (ha : PA X [e] t)
  (hbase : attributeBase o "count" X.env (eval o X.env) = eval o X.env:=by rfl)
  (hfew : ((backTo cpos (starEach [e] X.env)).all (fun x=>!x.1) && (backToKw cpos (keywordEach [] X.env)).all (fun x=>x.1.isSome)
   && decide ([e].length + ([] : List Keyword).length + (if ([] : List Keyword).isEmpty then 0 else 1) < 30)) = true:=by rfl)
  (hline : (apos.endLine == cpos.line) = true:=by rfl) (hs : starEach [e] X.env = (false,eval e X.env) :: starEach [] X.env:=by rfl) (hplain : (backTo cpos (starEach [] X.env)).any (·.1) = false:=by rfl) :
  PE X (.Call (.Attribute o "count" apos) [e] [] cpos) (tBM K "str" rCnt to t):=h ▸ J3e F.plainAttrs_str F.slot_str_count F.type_str_count Ja4 ho ha hbase hfew hline hs hplain
end
end L2
set_option linter.all false
set_option maxRecDepth 100000
set_option maxHeartbeats 4000000
namespace L2
open PySem PySem.Spec PyProof.Rows
section
variable {X : Cx} {K : PySem.W.Frag}
end
end L2
set_option linter.all false
set_option maxRecDepth 100000
set_option maxHeartbeats 4000000
namespace L2
open PySem PySem.Spec PyProof.Rows
section
variable {X : Cx} {K : PySem.W.Frag}
theorem J74 : OpR X (binaryOp .Mult) (fun x y H Q=>∃ c k,x = T [c] ∧ y = .int k ∧ -1000000 ≤ k ∧ k ≤ 1000 ∧ Q (T (List.replicate k.toNat c)) H):=by
 intro pins s σ H x y v u Q I rx ry h
 obtain ⟨c,k,rfl,rfl,h0,h1,q⟩:=h
 obtain ⟨t,rfl⟩:=rx
 obtain ⟨t',rfl⟩:=ry
 refine SB.mul (mulOk_of 1 1000 (by show 1 ≤ 1; decide) h1 (by omega) (by decide) (by decide)) fun t2 k2=>?_
 have e : Txt.mul ⟨[c].toArray⟩ k = ⟨(List.replicate k.toNat c).toArray⟩:=by
  have:=mul_one_list c k
  rw [Jak (Txt.mul ⟨[c].toArray⟩ k)]
  show (⟨(Txt.mul ⟨#[c]⟩ k).cps.toList.toArray⟩ : Str) = _
  rw [this]
 rw [e]
 exact ⟨T (List.replicate k.toNat c),H,I.tok _,⟨t2,rfl⟩,q⟩
end
end L2
set_option linter.all false
set_option maxRecDepth 100000
set_option maxHeartbeats 4000000
namespace L2
open PySem PySem.Spec PyProof.Rows
noncomputable abbrev SM (α : Type):=StateT SortSt Sem α
noncomputable def J17 : Bool → Keyed → Array Keyed → Nat → Nat → Nat → SM (Option Nat):=sortPriv% PySem.Builtin.gallop
noncomputable def bey (left : Bool) (key : Keyed) (arr : Array Keyed) (base i : Nat) : SM (Option Bool):=do
 let x ← elem' arr (base + i)
 if left then lt' x key else return (← lt' key x).map (!·)
noncomputable def J3p (b : Nat → SM (Option Bool)) (n lo0 hi0 : Nat) : SM (Option Nat):=do
 let mut lo:=lo0
 let mut hi:=hi0
 for _ in [0:n] do
  if lo ≥ hi then break
  let m:=lo + (hi - lo) / 2
  let some more ← b m | return none
  if more then lo:=m + 1 else hi:=m
 return some hi
theorem J6a (left : Bool) (key : Keyed) (arr : Array Keyed) (base cnt hn : Nat) : J17 left key arr base cnt hn = (do
 let mut e:=0
 let mut o:=1
 let mut lw:=0
 let mut hg:=0
 let some rt ← bey left key arr base hn | return none
 if rt then
  let mx:=cnt - hn
  for _ in [0:cnt] do
   if o ≥ mx then break
   let some yes ← bey left key arr base (hn + o) | return none
   if !yes then break
   e:=o
   o:=2 * o + 1
  lw:=hn + e + 1
  hg:=hn + min o mx
 else
  let mx:=hn + 1
  for _ in [0:cnt] do
   if o ≥ mx then break
   let some yes ← bey left key arr base (hn - o) | return none
   if yes then break
   e:=o
   o:=2 * o + 1
  lw:=hn + 1 - min o mx
  hg:=hn - e
 for _ in [0:cnt] do
  if lw ≥ hg then break
  let mid:=lw + (hg - lw) / 2
  let some yes ← bey left key arr base mid | return none
  if yes then lw:=mid + 1 else hg:=mid
 return some hg):=rfl
section
variable {prog : Program} {w : World} {A : Around} {E : Value → Shared → Prop} {s : Shared}
theorem J3a {b : Nat → SM (Option Bool)} {B : Nat → Bool} {n lo hi : Nat} {st : SortSt} {Q : Option Nat → SortSt → Prop} (hb : ∀ i,i < n → ∀ R : Option Bool → SortSt → Prop,R (some (B i)) st → wpS (model prog w) A E s (b i) R st)
  (mono : ∀ i j,i ≤ j → j < n → B j = true → B i = true) (h1 : lo ≤ hi) (h2 : hi ≤ n) (h3 : ∀ i,i < lo → B i = true) (h4 : ∀ i,hi ≤ i → i < n → B i = false)
  (h : ∀ k,k ≤ n → (∀ i,i < k → B i = true) → (∀ i,k ≤ i → i < n → B i = false) → Q (some k) st) : wpS (model prog w) A E s (J3p b n lo hi) Q st:=by
 unfold J3p
 refine wpS_bind (wpS_mono (wpS_forRange
  (I:=fun x c st'=>st' = st ∧ ∃ l r,c = (none,l,r) ∧ l ≤ r ∧ r ≤ n ∧ r - l ≤ n - x ∧ (∀ i,i < l → B i = true) ∧ (∀ i,r ≤ i → i < n → B i = false))
  (Q:=fun c st'=>st' = st ∧ ∃ l,c = (none,l,l) ∧ l ≤ n ∧ (∀ i,i < l → B i = true) ∧ (∀ i,l ≤ i → i < n → B i = false)) ?_ ?_ ⟨rfl,lo,hi,rfl,h1,h2,by omega,h3,h4⟩) ?_)
 ·rintro x c st' _ hx ⟨rfl,l,r,rfl,a1,a2,a3,a4,a5⟩
  dsimp only
  by_cases hge : l ≥ r
  ·rw [if_pos hge]
   have e : l = r:=by omega
   subst e
   exact wpS_pure ⟨rfl,l,rfl,a2,a4,a5⟩
  ·rw [if_neg hge]
   refine wpS_bind (hb _ (by omega) _ ?_)
   dsimp only
   cases hm : B (l + (r - l) / 2)
   ·rw [if_neg (by decide)]
    refine wpS_pure ⟨rfl,l,_,rfl,by omega,by omega,by omega,a4,fun i h1 h2=>?_⟩
    cases hi : B i
    ·rfl
    ·rw [mono _ i h1 h2 hi] at hm; cases hm
   ·rw [if_pos rfl]
    refine wpS_pure ⟨rfl,_,r,rfl,by omega,by omega,by omega,fun i h1=>?_,a5⟩
    exact mono i _ (by omega) (by omega) hm
 ·rintro c st' ⟨rfl,l,r,rfl,a1,a2,a3,a4,a5⟩
  have e : l = r:=by omega
  subst e
  exact ⟨rfl,l,rfl,a2,a4,a5⟩
 ·rintro c st' ⟨rfl,l,rfl,a2,a4,a5⟩
  exact wpS_pure (h l a2 a4 a5)
theorem J5y {left : Bool} {key : Keyed} {arr : Array Keyed} {base n hint : Nat} {B : Nat → Bool} {st : SortSt} {Q : Option Nat → SortSt → Prop}
  (hb : ∀ i,i < n → ∀ R : Option Bool → SortSt → Prop,R (some (B i)) st → wpS (model prog w) A E s (bey left key arr base i) R st)
  (mono : ∀ i j,i ≤ j → j < n → B j = true → B i = true) (hh : hint < n)
  (h : ∀ k,k ≤ n → (∀ i,i < k → B i = true) → (∀ i,k ≤ i → i < n → B i = false) → Q (some k) st) : wpS (model prog w) A E s (J17 left key arr base n hint) Q st:=by
 rw [J6a]
 refine wpS_bind (hb hint hh _ ?_)
 have up : ∀ i j,i ≤ j → j < n → B i = false → B j = false:=fun i j hij hj hi=>by
  cases hB : B j
  ·rfl
  ·rw [mono i j hij hj hB] at hi; cases hi
 cases hB : B hint
 ·show wpS (model prog w) A E s (forIn [0:n] ((none,0,1) : Option (Option Nat) × Nat × Nat) _ >>= _) Q st
  refine wpS_bind (wpS_mono (wpS_forRange (I:=fun x c st'=>st' = st ∧ ∃ l o,c = (none,l,o) ∧ l < o ∧ l < hint + 1 ∧ x + 1 ≤ o ∧ B (hint - l) = false)
   (Q:=fun c st'=>st' = st ∧ ∃ l o,c = (none,l,o) ∧ l < o ∧ l < hint + 1 ∧ B (hint - l) = false ∧ (o ≥ hint + 1 ∨ B (hint - o) = true)) ?_ ?_ ⟨rfl,0,1,rfl,by omega,by omega,by omega,hB⟩) ?_)
  ·rintro x c st' _ hx ⟨rfl,l,o,rfl,a1,a2,a3,a4⟩
   dsimp only
   by_cases hge : o ≥ hint + 1
   ·rw [if_pos hge]
    exact wpS_pure ⟨rfl,l,o,rfl,a1,a2,a4,.inl hge⟩
   ·rw [if_neg hge]
    refine wpS_bind (hb (hint - o) (by omega) _ ?_)
    dsimp only
    cases hBo : B (hint - o)
    ·rw [if_neg (by decide)]
     exact wpS_pure ⟨rfl,o,_,rfl,by omega,by omega,by omega,hBo⟩
    ·rw [if_pos rfl]
     exact wpS_pure ⟨rfl,l,o,rfl,a1,a2,a4,.inr hBo⟩
  ·rintro c st' ⟨rfl,l,o,rfl,a1,a2,a3,a4⟩
   exact ⟨rfl,l,o,rfl,a1,a2,a4,.inl (by omega)⟩
  ·rintro c st' ⟨rfl,l,o,rfl,a1,a2,a4,a5⟩
   show wpS (model prog w) A E s (J3p (bey left key arr base) n (hint + 1 - min o (hint + 1)) (hint - l)) Q _
   refine J3a hb mono (by omega) (by omega) (fun i hi=>?_) (fun i h1 h2=>up _ i h1 h2 a4) h
   rcases a5 with a5 | a5
   ·omega
   ·exact mono i (hint - o) (by omega) (by omega) a5
 ·show wpS (model prog w) A E s (forIn [0:n] ((none,0,1) : Option (Option Nat) × Nat × Nat) _ >>= _) Q st
  refine wpS_bind (wpS_mono (wpS_forRange (I:=fun x c st'=>st' = st ∧ ∃ l o,c = (none,l,o) ∧ l < o ∧ l < n - hint ∧ x + 1 ≤ o ∧ B (hint + l) = true)
   (Q:=fun c st'=>st' = st ∧ ∃ l o,c = (none,l,o) ∧ l < o ∧ l < n - hint ∧ B (hint + l) = true ∧ (o ≥ n - hint ∨ B (hint + o) = false)) ?_ ?_ ⟨rfl,0,1,rfl,by omega,by omega,by omega,hB⟩) ?_)
  ·rintro x c st' _ hx ⟨rfl,l,o,rfl,a1,a2,a3,a4⟩
   dsimp only
   by_cases hge : o ≥ n - hint
   ·rw [if_pos hge]
    exact wpS_pure ⟨rfl,l,o,rfl,a1,a2,a4,.inl hge⟩
   ·rw [if_neg hge]
    refine wpS_bind (hb (hint + o) (by omega) _ ?_)
    dsimp only
    cases hBo : B (hint + o)
    ·rw [if_pos (by decide)]
     exact wpS_pure ⟨rfl,l,o,rfl,a1,a2,a4,.inr hBo⟩
    ·rw [if_neg (by decide)]
     exact wpS_pure ⟨rfl,o,_,rfl,by omega,by omega,by omega,hBo⟩
  ·rintro c st' ⟨rfl,l,o,rfl,a1,a2,a3,a4⟩
   exact ⟨rfl,l,o,rfl,a1,a2,a4,.inl (by omega)⟩
  ·rintro c st' ⟨rfl,l,o,rfl,a1,a2,a4,a5⟩
   show wpS (model prog w) A E s (J3p (bey left key arr base) n (hint + l + 1) (hint + min o (n - hint))) Q _
   refine J3a hb mono (by omega) (by omega) (fun i hi=>mono i (hint + l) (by omega) (by omega) a4) (fun i h1 h2=>?_) h
   rcases a5 with a5 | a5
   ·omega
   ·exact up (hint + o) i (by omega) h2 a5
end
noncomputable def J0H : Nat → SM Unit:=sortPriv% PySem.Builtin.setMinGallop
noncomputable def J3G : Array Keyed → Array Keyed → SM (Array Keyed):=sortPriv% PySem.Builtin.mergeLo
noncomputable def J3K : Array Keyed → Array Keyed → SM (Array Keyed):=sortPriv% PySem.Builtin.mergeHi
theorem J5D (a b : Array Keyed) : J3G a b = (do
 rule "list.sort.merge-lo"
 let tot:=a.size + b.size
 let fin (o : Array Keyed) (i j : Nat):=o ++ a.extract i a.size ++ b.extract j b.size
 let fin2 (o : Array Keyed) (i j : Nat):=o ++ b.extract j b.size ++ a.extract i a.size
 let mut o : Array Keyed:=#[← elem' b 0]
 let mut i:=0
 let mut j:=1
 if j == b.size then return fin o i j
 if i + 1 == a.size then return fin2 o i j
 let mut g:=gallopOf (← get)
 for _ in [0:tot] do
  let mut ac:=0
  let mut bc:=0
  for _ in [0:tot] do
   let some win ← lt' (← elem' b j) (← elem' a i) | return fin o i j
   if win then
    o:=o.push (← elem' b j); j:=j + 1; bc:=bc + 1; ac:=0
    if j == b.size then return fin o i j
    if bc ≥ g then break
   else
    o:=o.push (← elem' a i); i:=i + 1; ac:=ac + 1; bc:=0
    if i + 1 == a.size then return fin2 o i j
    if ac ≥ g then break
  rule "list.sort.gallop"
  g:=g + 1
  for _ in [0:tot] do
   if g > 1 then g:=g - 1
   J0H g
   let some k ← J17 false (← elem' b j) a i (a.size - i) 0 | return fin o i j
   ac:=k
   if k > 0 then
    o:=o ++ a.extract i (i + k); i:=i + k
    if i + 1 == a.size then return fin2 o i j
    if i == a.size then return fin o i j
   o:=o.push (← elem' b j); j:=j + 1
   if j == b.size then return fin o i j
   let some k ← J17 true (← elem' a i) b j (b.size - j) 0 | return fin o i j
   bc:=k
   if k > 0 then
    o:=o ++ b.extract j (j + k); j:=j + k
    if j == b.size then return fin o i j
   o:=o.push (← elem' a i); i:=i + 1
   if i + 1 == a.size then return fin2 o i j
   if ac < 7 && bc < 7 then break
  g:=g + 1
  J0H g
 unsupported "internal:list.sort.merge-bound"):=rfl
theorem J0z (g : Nat) : J0H g = modify fun s=>SortSt.mk' (kindOf s) (arrOf s) (pendingOf s) g (failedOf s):=rfl
structure J0n (st st' : SortSt) : Prop where
 k : kindOf st' = kindOf st
 a : arrOf st' = arrOf st
 p : pendingOf st' = pendingOf st
 f : failedOf st' = failedOf st
theorem J0n.refl (st : SortSt) : J0n st st:=⟨rfl,rfl,rfl,rfl⟩
theorem J0n.set {st st' : SortSt} (h : J0n st st') (g : Nat) : J0n st (SortSt.mk' (kindOf st') (arrOf st') (pendingOf st') g (failedOf st')):=⟨h.k,h.a,h.p,h.f⟩
section
variable {κ : PyProof.Rows.KeyKind}
noncomputable def kOf (κ : PyProof.Rows.KeyKind) (p : Keyed) : κ.α:=(κ.keyOf p.1).getD κ.dflt
noncomputable def leKy (κ : PyProof.Rows.KeyKind) (p q : Keyed) : Prop:=κ.kle (kOf κ p) (kOf κ q)
noncomputable def ltB (κ : PyProof.Rows.KeyKind) (p q : Keyed) : Bool:=κ.blt (kOf κ p) (kOf κ q)
noncomputable def Kd (κ : PyProof.Rows.KeyKind) (p : Keyed) : Prop:=∃ a,κ.keyOf p.1 = some a
theorem leKy.refl (p : Keyed) : leKy κ p p:=KeyOrd.kle_refl _
theorem leKy.trans {p q r : Keyed} (h : leKy κ p q) (h2 : leKy κ q r) : leKy κ p r:=KeyOrd.kle_trans h h2
theorem leKy.of_lt {p q : Keyed} (h : ltB κ p q = true) : leKy κ p q:=KeyOrd.kle_of_klt h
theorem leKy.of_not {p q : Keyed} (h : ltB κ p q = false) : leKy κ q p:=h
theorem ltB.le {p q r : Keyed} (h : ltB κ p q = true) (h2 : leKy κ q r) : ltB κ p r = true:=KeyOrd.klt_of_klt_of_kle h h2
theorem leKy.lt {p q r : Keyed} (h : leKy κ p q) (h2 : ltB κ q r = true) : ltB κ p r = true:=KeyOrd.klt_of_kle_of_klt h h2
structure ML (κ : PyProof.Rows.KeyKind) (al bl out : List Keyed) (ia ib : Nat) : Prop where
 pa : ia ≤ al.length
 pb : ib ≤ bl.length
 perm : (out ++ (al.drop ia ++ bl.drop ib)).Perm (al ++ bl)
 srt : out.Pairwise (leKy κ)
 la : ∀ x ∈ out,∀ y ∈ al.drop ia,leKy κ x y
 lb : ∀ x ∈ out,∀ y ∈ bl.drop ib,leKy κ x y
theorem J4Z {l : List Keyed} {i : Nat} {x : Keyed} (h : l[i]? = some x) : l.drop i = x :: l.drop (i + 1):=by
 obtain ⟨h1,h2⟩:=List.getElem?_eq_some_iff.mp h
 rw [List.drop_eq_getElem_cons h1,h2]
theorem J1C {l : List Keyed} (s : l.Pairwise (leKy κ)) (i : Nat) : (l.drop i).Pairwise (leKy κ):=s.sublist (List.drop_sublist _ _)
variable {al bl out : List Keyed} {ia ib : Nat}
theorem ML.pushA (h : ML κ al bl out ia ib) (sa : al.Pairwise (leKy κ)) {x : Keyed} (hx : al[ia]? = some x) (hle : ∀ y ∈ bl.drop ib,leKy κ x y) : ML κ al bl (out ++ [x]) (ia + 1) ib:=by
 have hd:=J4Z hx
 have hs:=J1C sa ia
 rw [hd] at hs
 have hl:=(List.getElem?_eq_some_iff.mp hx).1
 refine ⟨by omega,h.pb,?_,?_,?_,?_⟩
 ·have:=h.perm
  rw [hd] at this
  rw [List.append_assoc]
  exact this
 ·refine List.pairwise_append.mpr ⟨h.srt,List.pairwise_singleton _ _,fun y hy z hz=>?_⟩
  rw [List.mem_singleton.mp hz]
  exact h.la y hy x (by rw [hd]; exact List.mem_cons_self)
 ·intro y hy z hz
  rcases List.mem_append.mp hy with hy | hy
  ·exact h.la y hy z (by rw [hd]; exact List.mem_cons_of_mem _ hz)
  ·rw [List.mem_singleton.mp hy]
   exact (List.pairwise_cons.mp hs).1 z hz
 ·intro y hy z hz
  rcases List.mem_append.mp hy with hy | hy
  ·exact h.lb y hy z hz
  ·rw [List.mem_singleton.mp hy]
   exact hle z hz
theorem ML.pushB (h : ML κ al bl out ia ib) (sb : bl.Pairwise (leKy κ)) {x : Keyed} (hx : bl[ib]? = some x) (hle : ∀ y ∈ al.drop ia,leKy κ x y) : ML κ al bl (out ++ [x]) ia (ib + 1):=by
 have hd:=J4Z hx
 have hs:=J1C sb ib
 rw [hd] at hs
 have hl:=(List.getElem?_eq_some_iff.mp hx).1
 refine ⟨h.pa,by omega,?_,?_,?_,?_⟩
 ·have:=h.perm
  rw [hd] at this
  rw [List.append_assoc]
  refine List.Perm.trans (List.Perm.append_left _ ?_) this
  exact (List.perm_middle (a:=x) (l₁:=List.drop ia al) (l₂:=List.drop (ib + 1) bl)).symm
 ·refine List.pairwise_append.mpr ⟨h.srt,List.pairwise_singleton _ _,fun y hy z hz=>?_⟩
  rw [List.mem_singleton.mp hz]
  exact h.lb y hy x (by rw [hd]; exact List.mem_cons_self)
 ·intro y hy z hz
  rcases List.mem_append.mp hy with hy | hy
  ·exact h.la y hy z hz
  ·rw [List.mem_singleton.mp hy]
   exact hle z hz
 ·intro y hy z hz
  rcases List.mem_append.mp hy with hy | hy
  ·exact h.lb y hy z (by rw [hd]; exact List.mem_cons_of_mem _ hz)
  ·rw [List.mem_singleton.mp hy]
   exact (List.pairwise_cons.mp hs).1 z hz
theorem J4k {l : List Keyed} {i k : Nat} {x : Keyed} (h : l[i + k]? = some x) : (l.drop i).take (k + 1) = (l.drop i).take k ++ [x]:=by
 rw [List.take_add_one,List.getElem?_drop,h]
 rfl
theorem ML.extA (h : ML κ al bl out ia ib) (sa : al.Pairwise (leKy κ)) : ∀ (k : Nat),ia + k ≤ al.length → (∀ i x,i < k → al[ia + i]? = some x → ∀ y ∈ bl.drop ib,leKy κ x y) → ML κ al bl (out ++ (al.drop ia).take k) (ia + k) ib
 | 0,_,_=>by rw [List.take_zero,List.append_nil]; exact h
 | k + 1,hk,hx=>by
  have ih:=ML.extA h sa k (by omega) fun i x hi=>hx i x (by omega)
  have e : al[ia + k]? = some al[ia + k]:=List.getElem?_eq_getElem (by omega)
  rw [J4k e,← List.append_assoc]
  exact ih.pushA sa e (hx k _ (by omega) e)
theorem ML.extB (h : ML κ al bl out ia ib) (sb : bl.Pairwise (leKy κ)) : ∀ (k : Nat),ib + k ≤ bl.length → (∀ i x,i < k → bl[ib + i]? = some x → ∀ y ∈ al.drop ia,leKy κ x y) → ML κ al bl (out ++ (bl.drop ib).take k) ia (ib + k)
 | 0,_,_=>by rw [List.take_zero,List.append_nil]; exact h
 | k + 1,hk,hx=>by
  have ih:=ML.extB h sb k (by omega) fun i x hi=>hx i x (by omega)
  have e : bl[ib + k]? = some bl[ib + k]:=List.getElem?_eq_getElem (by omega)
  rw [J4k e,← List.append_assoc]
  exact ih.pushB sb e (hx k _ (by omega) e)
noncomputable def Gd (κ : PyProof.Rows.KeyKind) (al bl r : List Keyed) : Prop:=r.Perm (al ++ bl) ∧ r.Pairwise (leKy κ)
theorem ML.done (h : ML κ al bl out ia ib) (sa : al.Pairwise (leKy κ)) (sb : bl.Pairwise (leKy κ)) (e : ia = al.length ∨ ib = bl.length) : Gd κ al bl (out ++ al.drop ia ++ bl.drop ib):=by
 rw [List.append_assoc]
 refine ⟨h.perm,List.pairwise_append.mpr ⟨h.srt,List.pairwise_append.mpr ⟨J1C sa _,J1C sb _,fun x hx y hy=>?_⟩,fun x hx y hy=>?_⟩⟩
 ·rcases e with e | e
  ·rw [e,List.drop_length] at hx; exact absurd hx List.not_mem_nil
  ·rw [e,List.drop_length] at hy; exact absurd hy List.not_mem_nil
 ·rcases List.mem_append.mp hy with hy | hy
  ·exact h.la x hx y hy
  ·exact h.lb x hx y hy
theorem ML.lastA (h : ML κ al bl out ia ib) (sa : al.Pairwise (leKy κ)) (sb : bl.Pairwise (leKy κ)) {z : Keyed} (e : al.drop ia = [z]) (hz : ∀ y ∈ bl,leKy κ y z) : Gd κ al bl (out ++ bl.drop ib ++ al.drop ia):=by
 rw [List.append_assoc]
 refine ⟨(List.Perm.append_left _ List.perm_append_comm).trans h.perm,List.pairwise_append.mpr ⟨h.srt,List.pairwise_append.mpr ⟨J1C sb _,J1C sa _,fun x hx y hy=>?_⟩,fun x hx y hy=>?_⟩⟩
 ·rw [e] at hy
  rw [List.mem_singleton.mp hy]
  exact hz x (List.mem_of_mem_drop hx)
 ·rcases List.mem_append.mp hy with hy | hy
  ·exact h.lb x hx y hy
  ·exact h.la x hx y hy
end
section
variable {prog : Program} {w : World} {A : Around} {E : Value → Shared → Prop} {s : Shared} {κ : PyProof.Rows.KeyKind}
theorem Jt {arr : Array Keyed} {i : Nat} {x : Keyed} {st : SortSt} {Q : Keyed → SortSt → Prop} (h : arr[i]? = some x) (q : Q x st) : wpS (model prog w) A E s (elem' arr i) Q st:=by
 rw [elem'_eq,h]
 exact wpS_pure q
theorem J2N {x y : Keyed} {st : SortSt} {Q : Option Bool → SortSt → Prop} (hO : κ.OneLt) (hk : kindOf st = oneType') (hx : Kd κ x) (hy : Kd κ y) (q : Q (some (ltB κ x y)) st) : wpS (model prog w) A E s (lt' x y) Q st:=by
 rw [lt'_eq]
 refine wpS_bind (wpS_get ?_)
 rw [hk,keyLt'_oneType]
 obtain ⟨a,ha⟩:=hx
 obtain ⟨b,hb⟩:=hy
 have e : ltB κ x y = κ.blt a b:=by unfold ltB kOf; rw [ha,hb]; rfl
 rw [e] at q
 refine wpS_bind (wpS_lift (wpAny_attempt (hO prog w A _ s x.1 y.1 a b ha hb ⟨rfl,?_⟩)))
 exact wpS_pure q
theorem J95 {left : Bool} {key x : Keyed} {arr : Array Keyed} {base i : Nat} {st : SortSt} {Q : Option Bool → SortSt → Prop} (hO : κ.OneLt) (hk : kindOf st = oneType') (hx : arr[base + i]? = some x) (kx : Kd κ x) (kk : Kd κ key)
  (q : Q (some (if left then ltB κ x key else !ltB κ key x)) st) : wpS (model prog w) A E s (bey left key arr base i) Q st:=by
 unfold bey
 refine wpS_bind (Jt hx ?_)
 cases left
 ·exact wpS_bind (J2N hO hk kk kx (wpS_pure q))
 ·exact J2N hO hk kx kk q
theorem J1e {left : Bool} {key : Keyed} {arr : Array Keyed} {base n hint : Nat} {st : SortSt} {Q : Option Nat → SortSt → Prop} (hO : κ.OneLt) (hk : kindOf st = oneType') (kk : Kd κ key)
  (hn : base + n ≤ arr.size) (ka : ∀ x ∈ arr.toList,Kd κ x) (hs : ∀ i j x y,i ≤ j → j < n → arr[base + i]? = some x → arr[base + j]? = some y → leKy κ x y) (hh : hint < n)
  (h : ∀ k,k ≤ n → (∀ i x,i < k → arr[base + i]? = some x → if left then ltB κ x key = true else leKy κ x key) → (∀ i x,k ≤ i → i < n → arr[base + i]? = some x → if left then leKy κ key x else ltB κ key x = true) → Q (some k) st) :
  wpS (model prog w) A E s (J17 left key arr base n hint) Q st:=by
 have at_ : ∀ i,i < n → ∃ x,arr[base + i]? = some x:=fun i hi=>⟨_,Array.getElem?_eq_getElem (by omega)⟩
 have kd : ∀ i x,arr[base + i]? = some x → Kd κ x:=fun i x e=>ka x (by obtain ⟨h1,h2⟩:=Array.getElem?_eq_some_iff.mp e; rw [← h2]; simp)
 refine J5y (B:=fun i=>match arr[base + i]? with | some x=>if left then ltB κ x key else !ltB κ key x | none=>false) (fun i hi R r=>?_) (fun i j hij hj hB=>?_) hh fun k hkn h1 h2=>h k hkn (fun i x hi e=>?_) (fun i x hi hi2 e=>?_)
 ·obtain ⟨x,e⟩:=at_ i hi
  refine J95 hO hk e (kd i x e) kk ?_
  simp only [e] at r
  exact r
 ·obtain ⟨x,e⟩:=at_ i (by omega)
  obtain ⟨y,e2⟩:=at_ j hj
  have l:=hs i j x y hij hj e e2
  simp only [e] at hB ⊢
  simp only [e2] at hB
  cases left
  ·simp only [Bool.false_eq_true,if_false,Bool.not_eq_true'] at hB ⊢
   cases z : ltB κ key x
   ·rfl
   ·rw [ltB.le z l] at hB; cases hB
  ·simp only [if_true] at hB ⊢
   exact l.lt hB
 ·have:=h1 i hi
  simp only [e] at this
  cases left
  ·simpa [leKy,ltB,KeyOrd.kle] using this
  ·simpa using this
 ·have:=h2 i hi hi2
  simp only [e] at this
  cases left
  ·simpa using this
  ·simpa [leKy,ltB,KeyOrd.kle] using this
end
section
variable {prog : Program} {w : World} {A : Around} {E : Value → Shared → Prop} {s : Shared} {κ : PyProof.Rows.KeyKind}
theorem Jg {a : Array Keyed} {i : Nat} {x : Keyed} (h : a[i]? = some x) : a.toList[i]? = some x:=by simpa using h
theorem J0l {a : Array Keyed} {i : Nat} {x : Keyed} (h : a[i]? = some x) : x ∈ a.toList:=List.mem_of_getElem? (Jg h)
theorem Jq {a : Array Keyed} {i : Nat} (h : i < a.size) : ∃ x,a[i]? = some x:=⟨_,Array.getElem?_eq_getElem h⟩
theorem J1l (a : Array Keyed) (i j : Nat) : (a.extract i j).toList = (a.toList.drop i).take (j - i):=by rw [Array.toList_extract]
theorem J3o (a : Array Keyed) (i : Nat) : (a.extract i a.size).toList = a.toList.drop i:=by
 rw [J1l,List.take_of_length_le]
 rw [List.length_drop,Array.length_toList]
 exact Nat.le_refl _
theorem J23 {l : List Keyed} (s : l.Pairwise (leKy κ)) {i j : Nat} {x y : Keyed} (hij : i ≤ j) (hx : l[i]? = some x) (hy : l[j]? = some y) : leKy κ x y:=by
 obtain ⟨h1,rfl⟩:=List.getElem?_eq_some_iff.mp hx
 obtain ⟨h2,rfl⟩:=List.getElem?_eq_some_iff.mp hy
 by_cases e : i = j
 ·subst e; exact leKy.refl _
 ·exact List.pairwise_iff_getElem.mp s i j h1 h2 (by omega)
theorem J1P {l : List Keyed} (s : l.Pairwise (leKy κ)) {i : Nat} {x : Keyed} (hx : l[i]? = some x) : ∀ y ∈ l.drop i,leKy κ x y:=by
 intro y hy
 obtain ⟨j,hj⟩:=List.getElem?_of_mem hy
 rw [List.getElem?_drop] at hj
 exact J23 s (by omega) hx hj
noncomputable abbrev LoSt:=Option (Array Keyed) × Array Keyed × Nat × Nat × Nat × Nat × Nat
noncomputable def loT2 (a b out : Array Keyed) (ia ib mg ac bc : Nat) : SM (ForInStep LoSt):=do
 let x ← elem' a ia
 if (ia + 1 + 1 == a.size) = true then pure (ForInStep.done (some (out.push x ++ b.extract ib b.size ++ a.extract (ia + 1) a.size),out.push x,ia + 1,ib,mg,ac,bc))
 else if (decide (ac < 7) && decide (bc < 7)) = true then pure (ForInStep.done (none,out.push x,ia + 1,ib,mg,ac,bc))
 else pure (ForInStep.yield (none,out.push x,ia + 1,ib,mg,ac,bc))
noncomputable def loT1 (a b out : Array Keyed) (ia ib mg ac bc : Nat) : SM (ForInStep LoSt):=do
 let x ← elem' b ib
 if (ib + 1 == b.size) = true then pure (ForInStep.done (some (out.push x ++ a.extract ia a.size ++ b.extract (ib + 1) b.size),out.push x,ia,ib + 1,mg,ac,bc))
 else do
  let y ← elem' a ia
  let k? ← J17 true y b (ib + 1) (b.size - (ib + 1)) 0
  match k? with
  | some k =>
   if k > 0 then
    if (ib + 1 + k == b.size) = true then pure (ForInStep.done (some (out.push x ++ b.extract (ib + 1) (ib + 1 + k) ++ a.extract ia a.size ++ b.extract (ib + 1 + k) b.size),out.push x ++ b.extract (ib + 1) (ib + 1 + k),ia,ib + 1 + k,mg,ac,k))
    else loT2 a b (out.push x ++ b.extract (ib + 1) (ib + 1 + k)) ia (ib + 1 + k) mg ac k
   else loT2 a b (out.push x) ia (ib + 1) mg ac k
  | _=>pure (ForInStep.done (some (out.push x ++ a.extract ia a.size ++ b.extract (ib + 1) b.size),out.push x,ia,ib + 1,mg,ac,bc))
structure LoH (κ : PyProof.Rows.KeyKind) (a b : Array Keyed) : Prop where
 ka : ∀ x ∈ a.toList,Kd κ x
 kb : ∀ x ∈ b.toList,Kd κ x
 sa : a.toList.Pairwise (leKy κ)
 sb : b.toList.Pairwise (leKy κ)
 hl : ∀ z,a[a.size - 1]? = some z → ∀ y ∈ b.toList,ltB κ y z = true
theorem LoH.fin {a b out : Array Keyed} {ia ib : Nat} (h : LoH κ a b) (M : ML κ a.toList b.toList out.toList ia ib) (e : ia = a.size ∨ ib = b.size) : Gd κ a.toList b.toList (out ++ a.extract ia a.size ++ b.extract ib b.size).toList:=by
 rw [Array.toList_append,Array.toList_append,J3o,J3o]
 exact M.done h.sa h.sb (by rw [Array.length_toList,Array.length_toList]; exact e)
theorem LoH.lst {a b out : Array Keyed} {ia ib : Nat} (h : LoH κ a b) (M : ML κ a.toList b.toList out.toList ia ib) (e : ia + 1 = a.size) : Gd κ a.toList b.toList (out ++ b.extract ib b.size ++ a.extract ia a.size).toList:=by
 rw [Array.toList_append,Array.toList_append,J3o,J3o]
 obtain ⟨z,ez⟩:=Jq (a:=a) (i:=a.size - 1) (by omega)
 have ez' : a.toList[ia]? = some z:=by rw [show ia = a.size - 1 by omega]; exact Jg ez
 refine M.lastA h.sa h.sb (z:=z) ?_ fun y hy=>leKy.of_lt (h.hl z ez y hy)
 rw [J4Z ez',List.drop_of_length_le (by rw [Array.length_toList]; omega)]
theorem J5M {a b out : Array Keyed} {ia ib mg ac bc : Nat} {st : SortSt} {R : ForInStep LoSt → SortSt → Prop} (H : LoH κ a b) (M : ML κ a.toList b.toList out.toList ia ib) (i1 : ia + 1 < a.size) (i2 : ib < b.size) {x : Keyed} (ex : a[ia]? = some x) (hx : ∀ y ∈ b.toList.drop ib,leKy κ x y)
  (r1 : ∀ r o,Gd κ a.toList b.toList r.toList → R (.done (some r,o)) st) (r2 : ∀ out' mg ac bc,ML κ a.toList b.toList out'.toList (ia + 1) ib → ia + 1 + 1 < a.size → R (.done (none,out',ia + 1,ib,mg,ac,bc)) st ∧ R (.yield (none,out',ia + 1,ib,mg,ac,bc)) st) :
  wpS (model prog w) A E s (loT2 a b out ia ib mg ac bc) R st:=by
 unfold loT2
 refine wpS_bind (Jt ex ?_)
 have M' : ML κ a.toList b.toList (out.push x).toList (ia + 1) ib:=by
  rw [Array.toList_push]
  exact M.pushA H.sa (Jg ex) hx
 by_cases c1 : ia + 1 + 1 = a.size
 ·rw [if_pos (by simpa using c1)]
  exact wpS_pure (r1 _ _ (H.lst M' c1))
 ·rw [if_neg (by simpa using c1)]
  have z:=r2 (out.push x) mg ac bc M' (by omega)
  split
  ·exact wpS_pure z.1
  ·exact wpS_pure z.2
theorem J5L {a b out : Array Keyed} {ia ib mg ac bc : Nat} {st : SortSt} {R : ForInStep LoSt → SortSt → Prop} (hO : κ.OneLt) (hk : kindOf st = oneType') (H : LoH κ a b) (M : ML κ a.toList b.toList out.toList ia ib) (i1 : ia + 1 < a.size) (i2 : ib < b.size) {x y : Keyed} (ex : b[ib]? = some x) (ey : a[ia]? = some y) (hxy : ltB κ x y = true)
  (r1 : ∀ r o,Gd κ a.toList b.toList r.toList → R (.done (some r,o)) st) (r2 : ∀ out' jb mg ac bc,ML κ a.toList b.toList out'.toList (ia + 1) jb → ia + 1 + 1 < a.size → ib < jb → jb < b.size → R (.done (none,out',ia + 1,jb,mg,ac,bc)) st ∧ R (.yield (none,out',ia + 1,jb,mg,ac,bc)) st) :
  wpS (model prog w) A E s (loT1 a b out ia ib mg ac bc) R st:=by
 unfold loT1
 refine wpS_bind (Jt ex ?_)
 have M' : ML κ a.toList b.toList (out.push x).toList ia (ib + 1):=by
  rw [Array.toList_push]
  exact M.pushB H.sb (Jg ex) fun z hz=>(leKy.of_lt hxy).trans (J1P H.sa (Jg ey) z hz)
 by_cases c1 : ib + 1 = b.size
 ·rw [if_pos (by simpa using c1)]
  exact wpS_pure (r1 _ _ (H.fin M' (.inr c1)))
 rw [if_neg (by simpa using c1)]
 refine wpS_bind (Jt ey ?_)
 refine wpS_bind (J1e hO hk (H.ka _ (J0l ey)) (by omega) H.kb (fun i j u v hij _ hu hv=>J23 H.sb (by omega) (Jg hu) (Jg hv)) (by omega) fun k hk1 g1 g2=>?_)
 dsimp only
 have lb : b.toList.length = b.size:=Array.length_toList
 have ME : ML κ a.toList b.toList (out.push x ++ b.extract (ib + 1) (ib + 1 + k)).toList ia (ib + 1 + k):=by
  rw [Array.toList_append,J1l,show ib + 1 + k - (ib + 1) = k by omega]
  refine M'.extB H.sb k (by omega) fun i u hi hu z hz=>?_
  have:=g1 i u hi (by simpa using hu)
  simp only [if_true] at this
  exact (leKy.of_lt this).trans (J1P H.sa (Jg ey) z hz)
 have hy : ib + 1 + k < b.size → ∀ z ∈ b.toList.drop (ib + 1 + k),leKy κ y z:=fun hlt z hz=>by
  obtain ⟨v,ev⟩:=Jq (a:=b) (i:=ib + 1 + k) hlt
  have:=g2 k v (Nat.le_refl _) (by omega) ev
  simp only [if_true] at this
  exact this.trans (J1P H.sb (Jg ev) z hz)
 by_cases c2 : k > 0
 ·rw [if_pos c2]
  by_cases c3 : ib + 1 + k = b.size
  ·rw [if_pos (by simpa using c3)]
   exact wpS_pure (r1 _ _ (H.fin ME (.inr c3)))
  ·rw [if_neg (by simpa using c3)]
   exact J5M H ME i1 (by omega) ey (hy (by omega)) r1 fun out' mg ac bc m1 m2=>r2 out' _ mg ac bc m1 m2 (by omega) (by omega)
 ·rw [if_neg c2]
  have k0 : k = 0:=by omega
  subst k0
  exact J5M H M' i1 (by omega) ey (hy (by omega)) r1 fun out' mg ac bc m1 m2=>r2 out' _ mg ac bc m1 m2 (by omega) (by omega)
theorem J5T {a b : Array Keyed} {st : SortSt} {Q : Array Keyed → SortSt → Prop} (hO : κ.OneLt) (hk : kindOf st = oneType') (ka : ∀ x ∈ a.toList,Kd κ x) (kb : ∀ x ∈ b.toList,Kd κ x)
  (sa : a.toList.Pairwise (leKy κ)) (sb : b.toList.Pairwise (leKy κ)) (ha : 1 ≤ a.size) (hb : 1 ≤ b.size)
  (h0 : ∀ x y,b[0]? = some x → a[0]? = some y → leKy κ x y) (hl : ∀ z,a[a.size - 1]? = some z → ∀ y ∈ b.toList,ltB κ y z = true)
  (q : ∀ r st',J0n st st' → Gd κ a.toList b.toList r.toList → Q r st') : wpS (model prog w) A E s (J3G a b) Q st:=by
 rw [J5D]
 refine wpS_bind (wpS_lift (wpAny_rule ⟨rfl,?_⟩))
 obtain ⟨b0,eb0⟩:=Jq (a:=b) (i:=0) (by omega)
 obtain ⟨a0,ea0⟩:=Jq (a:=a) (i:=0) (by omega)
 obtain ⟨z,ez⟩:=Jq (a:=a) (i:=a.size - 1) (by omega)
 have hz:=hl z ez
 refine wpS_bind (Jt eb0 ?_)
 have la : a.toList.length = a.size:=Array.length_toList
 have lb : b.toList.length = b.size:=Array.length_toList
 have M0 : ML κ a.toList b.toList [b0] 0 1:=by
  have M : ML κ a.toList b.toList [] 0 0:=⟨Nat.zero_le _,Nat.zero_le _,List.Perm.refl _,.nil,fun x hx=>absurd hx List.not_mem_nil,fun x hx=>absurd hx List.not_mem_nil⟩
  exact M.pushB sb (Jg eb0) fun y hy=>(h0 b0 a0 eb0 ea0).trans (J1P sa (Jg ea0) y hy)
 have HH : LoH κ a b:=⟨ka,kb,sa,sb,hl⟩
 have fin : ∀ {out : Array Keyed} {ia ib : Nat},ML κ a.toList b.toList out.toList ia ib → (ia = a.size ∨ ib = b.size) → Gd κ a.toList b.toList (out ++ a.extract ia a.size ++ b.extract ib b.size).toList:=fun M e=>HH.fin M e
 have lst : ∀ {out : Array Keyed} {ia ib : Nat},ML κ a.toList b.toList out.toList ia ib → ia + 1 = a.size → Gd κ a.toList b.toList (out ++ b.extract ib b.size ++ a.extract ia a.size).toList:=fun M e=>HH.lst M e
 by_cases e1 : b.size = 1
 ·rw [if_pos (by simp [e1])]
  exact wpS_pure (q _ st (J0n.refl _) (fin M0 (.inr e1.symm)))
 rw [if_neg (by simpa using fun z=>e1 z.symm)]
 by_cases e2 : a.size = 1
 ·rw [if_pos (by simp [e2])]
  exact wpS_pure (q _ st (J0n.refl _) (lst M0 e2.symm))
 rw [if_neg (by simpa using fun z=>e2 z.symm)]
 refine wpS_bind (wpS_get ?_)
 refine wpS_bind (wpS_mono (wpS_forRange
  (I:=fun x c st'=>J0n st st' ∧ ∃ out ia ib mg,c = (none,out,ia,ib,mg) ∧ ML κ a.toList b.toList out.toList ia ib ∧ ia + 1 < a.size ∧ ib < b.size ∧ x ≤ ia + ib)
  (Q:=fun c st'=>J0n st st' ∧ ∃ r o,c = (some r,o) ∧ Gd κ a.toList b.toList r.toList) ?step ?fin ⟨J0n.refl _,_,0,1,_,rfl,M0,by omega,by omega,by omega⟩) ?post)
 case post =>
  rintro c st' ⟨sg,r,o,rfl,g⟩
  exact wpS_pure (q r st' sg g)
 case fin =>
  rintro c st' ⟨_,out,ia,ib,mg,rfl,_,h1,h2,h3⟩
  omega
 case step =>
  rintro x c st1 _ hx ⟨sg,out,ia,ib,mg,rfl,M,i1,i2,i3⟩
  dsimp only
  refine wpS_bind (wpS_mono (wpS_forRange
   (I:=fun y c st'=>st' = st1 ∧ ∃ out ja jb ac bc,c = (none,out,ja,jb,ac,bc) ∧ ML κ a.toList b.toList out.toList ja jb ∧ ja + 1 < a.size ∧ jb < b.size ∧ x + y ≤ ja + jb)
   (Q:=fun c st'=>st' = st1 ∧ ((∃ r o,c = (some r,o) ∧ Gd κ a.toList b.toList r.toList) ∨ ∃ out ja jb ac bc,c = (none,out,ja,jb,ac,bc) ∧ ML κ a.toList b.toList out.toList ja jb ∧ ja + 1 < a.size ∧ jb < b.size ∧ x + 1 ≤ ja + jb)) ?step1 ?fin1 ⟨rfl,_,ia,ib,0,0,rfl,M,i1,i2,i3⟩) ?post1)
  case fin1 =>
   rintro c st' ⟨_,out,ja,jb,ac,bc,rfl,_,h1,h2,h3⟩
   omega
  case step1 =>
   rintro y c st' _ hy ⟨rfl,out,ja,jb,ac,bc,rfl,M,j1,j2,j3⟩
   dsimp only
   obtain ⟨xb,eb⟩:=Jq (a:=b) (i:=jb) j2
   obtain ⟨xa,ea⟩:=Jq (a:=a) (i:=ja) (by omega)
   refine wpS_bind (Jt eb (wpS_bind (Jt ea (wpS_bind (J2N hO (sg.k.trans hk) (kb _ (J0l eb)) (ka _ (J0l ea)) ?_)))))
   dsimp only
   cases hw : ltB κ xb xa
   ·rw [if_neg Bool.false_ne_true]
    refine wpS_bind (Jt ea ?_)
    have M' : ML κ a.toList b.toList (out.push xa).toList (ja + 1) jb:=by
     rw [Array.toList_push]
     exact M.pushA sa (Jg ea) fun y hy=>(leKy.of_not hw).trans (J1P sb (Jg eb) y hy)
    by_cases c1 : ja + 1 + 1 = a.size
    ·rw [if_pos (by simpa using c1)]
     exact wpS_pure ⟨rfl,.inl ⟨_,_,rfl,lst M' c1⟩⟩
    ·rw [if_neg (by simpa using c1)]
     split
     ·exact wpS_pure ⟨rfl,.inr ⟨_,_,_,_,_,rfl,M',by omega,j2,by omega⟩⟩
     ·exact wpS_pure ⟨rfl,_,_,_,_,_,rfl,M',by omega,j2,by omega⟩
   ·rw [if_pos rfl]
    refine wpS_bind (Jt eb ?_)
    have M' : ML κ a.toList b.toList (out.push xb).toList ja (jb + 1):=by
     rw [Array.toList_push]
     exact M.pushB sb (Jg eb) fun y hy=>(leKy.of_lt hw).trans (J1P sa (Jg ea) y hy)
    by_cases c1 : jb + 1 = b.size
    ·rw [if_pos (by simpa using c1)]
     exact wpS_pure ⟨rfl,.inl ⟨_,_,rfl,fin M' (.inr c1)⟩⟩
    ·rw [if_neg (by simpa using c1)]
     split
     ·exact wpS_pure ⟨rfl,.inr ⟨_,_,_,_,_,rfl,M',j1,by omega,by omega⟩⟩
     ·exact wpS_pure ⟨rfl,_,_,_,_,_,rfl,M',j1,by omega,by omega⟩
  case post1 =>
   rintro c st' ⟨rfl,⟨r,o,rfl,g⟩ | ⟨out,ja,jb,ac,bc,rfl,M,j1,j2,j3⟩⟩
   ·exact wpS_pure ⟨sg,r,_,rfl,g⟩
   dsimp only
   refine wpS_bind (wpS_lift (wpAny_rule ⟨rfl,?_⟩))
   refine wpS_bind (wpS_mono (wpS_forRange
    (I:=fun y c st'=>J0n st st' ∧ ∃ out ja jb mg ac bc,c = (none,out,ja,jb,mg,ac,bc) ∧ ML κ a.toList b.toList out.toList ja jb ∧ ja + 1 < a.size ∧ jb < b.size ∧ x + 1 + y ≤ ja + jb)
    (Q:=fun c st'=>J0n st st' ∧ ((∃ r o,c = (some r,o) ∧ Gd κ a.toList b.toList r.toList) ∨ ∃ out ja jb mg ac bc,c = (none,out,ja,jb,mg,ac,bc) ∧ ML κ a.toList b.toList out.toList ja jb ∧ ja + 1 < a.size ∧ jb < b.size ∧ x + 1 ≤ ja + jb)) ?step2 ?fin2 ⟨sg,_,_,_,_,_,_,rfl,M,j1,j2,j3⟩) ?post2)
   case fin2 =>
    rintro c st' ⟨_,out,ja,jb,mg,ac,bc,rfl,_,h1,h2,h3⟩
    omega
   case post2 =>
    rintro c st' ⟨sg',⟨r,o,rfl,g⟩ | ⟨out,ja,jb,mg,ac,bc,rfl,M,j1,j2,j3⟩⟩
    ·exact wpS_pure ⟨sg',r,_,rfl,g⟩
    dsimp only
    rw [J0z]
    exact wpS_bind (wpS_modify (wpS_pure ⟨sg'.set _,_,_,_,_,rfl,M,j1,j2,j3⟩))
   case step2 =>
    clear M j1 j2 j3
    rintro y c st' _ hy ⟨sg',out,ja,jb,mg,ac,bc,rfl,M,j1,j2,j3⟩
    dsimp only
    obtain ⟨xb,eb⟩:=Jq (a:=b) (i:=jb) j2
    by_cases hm : mg > 1
    case' pos=>rw [if_pos hm]; generalize mg - 1 = mg2
    case' neg=>rw [if_neg hm]; clear hm; generalize mg = mg2
    all_goals
     rw [J0z]
     refine wpS_bind (wpS_modify ?_)
     have sg2:=sg'.set mg2
     generalize SortSt.mk' (kindOf st') (arrOf st') (pendingOf st') mg2 (failedOf st') = st2 at sg2 ⊢
     have hk2 : kindOf st2 = oneType':=sg2.k.trans hk
     refine wpS_bind (Jt eb ?_)
     refine wpS_bind (J1e hO hk2 (kb _ (J0l eb)) (by omega) ka (fun i j u v hij _ hu hv=>J23 sa (by omega) (Jg hu) (Jg hv)) (by omega) fun k hk1 g1 g2=>?_)
     dsimp only
     have kl : ja + k + 1 ≤ a.size:=by
      by_cases c : ja + k < a.size
      ·omega
      ·exfalso
       have:=g1 (a.size - 1 - ja) z (by omega) (by rw [show ja + (a.size - 1 - ja) = a.size - 1 by omega]; exact ez)
       simp only [Bool.false_eq_true,if_false] at this
       have h2:=hz xb (J0l eb)
       have h3:=this.lt h2
       have h4:=leKy.refl (κ:=κ) z
       unfold leKy KeyOrd.kle at h4
       unfold ltB at h3
       rw [h3] at h4
       cases h4
     have ME : ML κ a.toList b.toList (out ++ a.extract ja (ja + k)).toList (ja + k) jb:=by
      rw [Array.toList_append,J1l,show ja + k - ja = k by omega]
      refine M.extA sa k (by omega) fun i u hi hu y hy=>?_
      have:=g1 i u hi (by simpa using hu)
      simp only [Bool.false_eq_true,if_false] at this
      exact this.trans (J1P sb (Jg eb) y hy)
     have lt1 : ∀ v,a[ja + k]? = some v → ltB κ xb v = true:=fun v ev=>by
      have:=g2 k v (Nat.le_refl _) (by omega) ev
      simpa using this
     obtain ⟨v,ev⟩:=Jq (a:=a) (i:=ja + k) (by omega)
     have r1 : ∀ (r : Array Keyed) (o : Array Keyed × Nat × Nat × Nat × Nat × Nat),Gd κ a.toList b.toList r.toList → J0n st st2 ∧ ((∃ r' o',((some r,o) : LoSt) = (some r',o') ∧ Gd κ a.toList b.toList r'.toList) ∨ ∃ out ja jb mg ac bc,((some r,o) : LoSt) = (none,out,ja,jb,mg,ac,bc) ∧ ML κ a.toList b.toList out.toList ja jb ∧ ja + 1 < a.size ∧ jb < b.size ∧ x + 1 ≤ ja + jb):=fun r o g=>⟨sg2,.inl ⟨r,o,rfl,g⟩⟩
     by_cases c2 : k > 0
     ·rw [if_pos c2]
      by_cases c3 : ja + k + 1 = a.size
      ·rw [if_pos (by simpa using c3)]
       exact wpS_pure (r1 _ _ (HH.lst ME c3))
      ·rw [if_neg (by simpa using c3),if_neg (by simp; omega)]
       show wpS _ _ _ _ (loT1 a b (out ++ a.extract ja (ja + k)) (ja + k) jb mg2 k bc) _ _
       exact J5L hO hk2 HH ME (by omega) j2 eb ev (lt1 v ev) r1 fun out' jb' mg ac bc m1 m2 m3 m4=>⟨⟨sg2,.inr ⟨_,_,_,_,_,_,rfl,m1,m2,m4,by omega⟩⟩,⟨sg2,_,_,_,_,_,_,rfl,m1,m2,m4,by omega⟩⟩
     ·rw [if_neg c2]
      have k0 : k = 0:=by omega
      subst k0
      show wpS _ _ _ _ (loT1 a b out ja jb mg2 0 bc) _ _
      exact J5L hO hk2 HH M j1 j2 eb ev (lt1 v ev) r1 fun out' jb' mg ac bc m1 m2 m3 m4=>⟨⟨sg2,.inr ⟨_,_,_,_,_,_,rfl,m1,m2,m4,by omega⟩⟩,⟨sg2,_,_,_,_,_,_,rfl,m1,m2,m4,by omega⟩⟩
end
theorem J5U (a b : Array Keyed) : J3K a b = (do
 rule "list.sort.merge-hi"
 let tot:=a.size + b.size
 let fin (o : Array Keyed) (i j : Nat):=a.extract 0 i ++ b.extract 0 j ++ o.reverse
 let fin2 (o : Array Keyed) (i j : Nat):=b.extract 0 j ++ a.extract 0 i ++ o.reverse
 let mut i:=a.size - 1
 let mut j:=b.size
 let mut o : Array Keyed:=#[← elem' a i]
 if i == 0 then return fin o i j
 if j == 1 then return fin2 o i j
 let mut g:=gallopOf (← get)
 for _ in [0:tot] do
  let mut ac:=0
  let mut bc:=0
  for _ in [0:tot] do
   let some win ← lt' (← elem' b (j - 1)) (← elem' a (i - 1)) | return fin o i j
   if win then
    i:=i - 1; o:=o.push (← elem' a i); ac:=ac + 1; bc:=0
    if i == 0 then return fin o i j
    if ac ≥ g then break
   else
    j:=j - 1; o:=o.push (← elem' b j); bc:=bc + 1; ac:=0
    if j == 1 then return fin2 o i j
    if bc ≥ g then break
  rule "list.sort.gallop"
  g:=g + 1
  for _ in [0:tot] do
   if g > 1 then g:=g - 1
   J0H g
   let some t ← J17 false (← elem' b (j - 1)) a 0 i (i - 1) | return fin o i j
   let k:=i - t
   ac:=k
   if k > 0 then
    o:=o ++ (a.extract t i).reverse; i:=t
    if i == 0 then return fin o i j
   j:=j - 1; o:=o.push (← elem' b j)
   if j == 1 then return fin2 o i j
   let some t ← J17 true (← elem' a (i - 1)) b 0 j (j - 1) | return fin o i j
   let k:=j - t
   bc:=k
   if k > 0 then
    o:=o ++ (b.extract t j).reverse; j:=t
    if j == 1 then return fin2 o i j
    if j == 0 then return fin o i j
   i:=i - 1; o:=o.push (← elem' a i)
   if i == 0 then return fin o i j
   if ac < 7 && bc < 7 then break
  g:=g + 1
  J0H g
 unsupported "internal:list.sort.merge-bound"):=rfl
section
variable {κ : PyProof.Rows.KeyKind}
structure MH (κ : PyProof.Rows.KeyKind) (al bl out : List Keyed) (na nb : Nat) : Prop where
 pa : na ≤ al.length
 pb : nb ≤ bl.length
 perm : ((al.take na ++ bl.take nb) ++ out.reverse).Perm (al ++ bl)
 srt : out.reverse.Pairwise (leKy κ)
 la : ∀ x ∈ out,∀ y ∈ al.take na,leKy κ y x
 lb : ∀ x ∈ out,∀ y ∈ bl.take nb,leKy κ y x
theorem J6j {l : List Keyed} {i : Nat} {x : Keyed} (h : l[i]? = some x) : l.take (i + 1) = l.take i ++ [x]:=by
 rw [List.take_add_one,h]
 rfl
theorem J2G {l : List Keyed} (s : l.Pairwise (leKy κ)) (i : Nat) : (l.take i).Pairwise (leKy κ):=s.sublist (List.take_sublist _ _)
theorem J1M {l : List Keyed} (s : l.Pairwise (leKy κ)) {i : Nat} {x : Keyed} (hx : l[i]? = some x) : ∀ y ∈ l.take (i + 1),leKy κ y x:=by
 intro y hy
 obtain ⟨j,hj⟩:=List.getElem?_of_mem hy
 rw [List.getElem?_take] at hj
 split at hj
 ·exact J23 s (by omega) hj hx
 ·cases hj
variable {al bl out : List Keyed} {na nb : Nat}
theorem MH.pushA (h : MH κ al bl out (na + 1) nb) (sa : al.Pairwise (leKy κ)) {x : Keyed} (hx : al[na]? = some x) (hle : ∀ y ∈ bl.take nb,leKy κ y x) : MH κ al bl (out ++ [x]) na nb:=by
 have hd:=J6j hx
 have hl:=(List.getElem?_eq_some_iff.mp hx).1
 refine ⟨by omega,h.pb,?_,?_,?_,?_⟩
 ·have:=h.perm
  rw [hd] at this
  rw [List.reverse_append]
  refine List.Perm.trans ?_ this
  show (al.take na ++ bl.take nb ++ (x :: out.reverse)).Perm (al.take na ++ [x] ++ bl.take nb ++ out.reverse)
  rw [List.append_assoc,List.append_assoc,List.append_assoc]
  exact List.Perm.append_left _ List.perm_middle
 ·rw [List.reverse_append]
  refine List.pairwise_cons.mpr ⟨fun y hy=>?_,h.srt⟩
  exact h.la y (List.mem_reverse.mp hy) x (by rw [hd]; simp)
 ·intro y hy z hz
  rcases List.mem_append.mp hy with hy | hy
  ·exact h.la y hy z (by rw [hd]; exact List.mem_append_left _ hz)
  ·rw [List.mem_singleton.mp hy]
   exact J1M sa hx z (by rw [hd]; exact List.mem_append_left _ hz)
 ·intro y hy z hz
  rcases List.mem_append.mp hy with hy | hy
  ·exact h.lb y hy z hz
  ·rw [List.mem_singleton.mp hy]
   exact hle z hz
theorem MH.pushB (h : MH κ al bl out na (nb + 1)) (sb : bl.Pairwise (leKy κ)) {x : Keyed} (hx : bl[nb]? = some x) (hle : ∀ y ∈ al.take na,leKy κ y x) : MH κ al bl (out ++ [x]) na nb:=by
 have hd:=J6j hx
 have hl:=(List.getElem?_eq_some_iff.mp hx).1
 refine ⟨h.pa,by omega,?_,?_,?_,?_⟩
 ·have:=h.perm
  rw [hd] at this
  rw [List.reverse_append]
  show (al.take na ++ bl.take nb ++ ([x] ++ out.reverse)).Perm _
  rw [← List.append_assoc,List.append_assoc (al.take na)]
  exact this
 ·rw [List.reverse_append]
  refine List.pairwise_cons.mpr ⟨fun y hy=>?_,h.srt⟩
  exact h.lb y (List.mem_reverse.mp hy) x (by rw [hd]; simp)
 ·intro y hy z hz
  rcases List.mem_append.mp hy with hy | hy
  ·exact h.la y hy z hz
  ·rw [List.mem_singleton.mp hy]
   exact hle z hz
 ·intro y hy z hz
  rcases List.mem_append.mp hy with hy | hy
  ·exact h.lb y hy z (by rw [hd]; exact List.mem_append_left _ hz)
  ·rw [List.mem_singleton.mp hy]
   exact J1M sb hx z (by rw [hd]; exact List.mem_append_left _ hz)
theorem J5E {l : List Keyed} {m k : Nat} {x : Keyed} (h : l[m]? = some x) : (l.drop m).take (k + 1) = x :: (l.drop (m + 1)).take k:=by
 rw [J4Z h,List.take_succ_cons]
theorem MH.extA (h : MH κ al bl out na nb) (sa : al.Pairwise (leKy κ)) : ∀ (k : Nat),k ≤ na → (∀ i x,na - k ≤ i → i < na → al[i]? = some x → ∀ y ∈ bl.take nb,leKy κ y x) → MH κ al bl (out ++ ((al.drop (na - k)).take k).reverse) (na - k) nb
 | 0,_,_=>by rw [List.take_zero,List.reverse_nil,List.append_nil]; exact h
 | k + 1,hk,hx=>by
  have hpa:=h.pa
  have ih:=MH.extA h sa k (by omega) fun i x h1 h2=>hx i x (by omega) h2
  have e : al[na - (k + 1)]? = some al[na - (k + 1)]:=List.getElem?_eq_getElem (by omega)
  rw [J5E e,List.reverse_cons,← List.append_assoc,show na - (k + 1) + 1 = na - k by omega]
  rw [show na - k = na - (k + 1) + 1 by omega] at ih ⊢
  exact ih.pushA sa e (hx _ _ (Nat.le_refl _) (by omega) e)
theorem MH.extB (h : MH κ al bl out na nb) (sb : bl.Pairwise (leKy κ)) : ∀ (k : Nat),k ≤ nb → (∀ i x,nb - k ≤ i → i < nb → bl[i]? = some x → ∀ y ∈ al.take na,leKy κ y x) → MH κ al bl (out ++ ((bl.drop (nb - k)).take k).reverse) na (nb - k)
 | 0,_,_=>by rw [List.take_zero,List.reverse_nil,List.append_nil]; exact h
 | k + 1,hk,hx=>by
  have hpa:=h.pb
  have ih:=MH.extB h sb k (by omega) fun i x h1 h2=>hx i x (by omega) h2
  have e : bl[nb - (k + 1)]? = some bl[nb - (k + 1)]:=List.getElem?_eq_getElem (by omega)
  rw [J5E e,List.reverse_cons,← List.append_assoc,show nb - (k + 1) + 1 = nb - k by omega]
  rw [show nb - k = nb - (k + 1) + 1 by omega] at ih ⊢
  exact ih.pushB sb e (hx _ _ (Nat.le_refl _) (by omega) e)
theorem MH.done (h : MH κ al bl out na nb) (sa : al.Pairwise (leKy κ)) (sb : bl.Pairwise (leKy κ)) (e : na = 0 ∨ nb = 0) : Gd κ al bl (al.take na ++ bl.take nb ++ out.reverse):=by
 refine ⟨h.perm,List.pairwise_append.mpr ⟨List.pairwise_append.mpr ⟨J2G sa _,J2G sb _,fun x hx y hy=>?_⟩,h.srt,fun x hx y hy=>?_⟩⟩
 ·rcases e with e | e
  ·rw [e] at hx; exact absurd hx List.not_mem_nil
  ·rw [e] at hy; exact absurd hy List.not_mem_nil
 ·rcases List.mem_append.mp hx with hx | hx
  ·exact h.la y (List.mem_reverse.mp hy) x hx
  ·exact h.lb y (List.mem_reverse.mp hy) x hx
theorem MH.firstB (h : MH κ al bl out na nb) (sa : al.Pairwise (leKy κ)) (sb : bl.Pairwise (leKy κ)) {z : Keyed} (e : bl.take nb = [z]) (hz : ∀ y ∈ al,leKy κ z y) : Gd κ al bl (bl.take nb ++ al.take na ++ out.reverse):=by
 refine ⟨(List.Perm.append_right _ List.perm_append_comm).trans h.perm,List.pairwise_append.mpr ⟨List.pairwise_append.mpr ⟨J2G sb _,J2G sa _,fun x hx y hy=>?_⟩,h.srt,fun x hx y hy=>?_⟩⟩
 ·rw [e] at hx
  rw [List.mem_singleton.mp hx]
  exact hz y (List.mem_of_mem_take hy)
 ·rcases List.mem_append.mp hx with hx | hx
  ·exact h.lb y (List.mem_reverse.mp hy) x hx
  ·exact h.la y (List.mem_reverse.mp hy) x hx
end
section
variable {prog : Program} {w : World} {A : Around} {E : Value → Shared → Prop} {s : Shared} {κ : PyProof.Rows.KeyKind}
theorem J55 (a : Array Keyed) (n : Nat) : (a.extract 0 n).toList = a.toList.take n:=by rw [J1l,List.drop_zero,Nat.sub_zero]
structure HiH (κ : PyProof.Rows.KeyKind) (a b : Array Keyed) : Prop where
 ka : ∀ x ∈ a.toList,Kd κ x
 kb : ∀ x ∈ b.toList,Kd κ x
 sa : a.toList.Pairwise (leKy κ)
 sb : b.toList.Pairwise (leKy κ)
 hf : ∀ z,b[0]? = some z → ∀ y ∈ a.toList,ltB κ z y = true
theorem HiH.fin {a b out : Array Keyed} {na nb : Nat} (h : HiH κ a b) (M : MH κ a.toList b.toList out.toList na nb) (e : na = 0 ∨ nb = 0) : Gd κ a.toList b.toList (a.extract 0 na ++ b.extract 0 nb ++ out.reverse).toList:=by
 rw [Array.toList_append,Array.toList_append,J55,J55,Array.toList_reverse]
 exact M.done h.sa h.sb e
theorem HiH.fst {a b out : Array Keyed} {na nb : Nat} (h : HiH κ a b) (M : MH κ a.toList b.toList out.toList na nb) (hb : 1 ≤ b.size) (e : nb = 1) : Gd κ a.toList b.toList (b.extract 0 nb ++ a.extract 0 na ++ out.reverse).toList:=by
 rw [Array.toList_append,Array.toList_append,J55,J55,Array.toList_reverse]
 obtain ⟨z,ez⟩:=Jq (a:=b) (i:=0) (by omega)
 refine M.firstB h.sa h.sb (z:=z) ?_ fun y hy=>leKy.of_lt (h.hf z ez y hy)
 rw [e,J6j (Jg ez)]
 rfl
noncomputable abbrev HiSt:=Option (Array Keyed) × Nat × Nat × Array Keyed × Nat × Nat × Nat
noncomputable def hiT2 (a b out : Array Keyed) (na nb mg ac bc : Nat) : SM (ForInStep HiSt):=do
 let x ← elem' a (na - 1)
 if (na - 1 == 0) = true then pure (ForInStep.done (some (a.extract 0 (na - 1) ++ b.extract 0 nb ++ (out.push x).reverse),na - 1,nb,out.push x,mg,ac,bc))
 else if (decide (ac < 7) && decide (bc < 7)) = true then pure (ForInStep.done (none,na - 1,nb,out.push x,mg,ac,bc))
 else pure (ForInStep.yield (none,na - 1,nb,out.push x,mg,ac,bc))
noncomputable def hiT1 (a b out : Array Keyed) (na nb mg ac bc : Nat) : SM (ForInStep HiSt):=do
 let x ← elem' b (nb - 1)
 if (nb - 1 == 1) = true then pure (ForInStep.done (some (b.extract 0 (nb - 1) ++ a.extract 0 na ++ (out.push x).reverse),na,nb - 1,out.push x,mg,ac,bc))
 else do
  let y ← elem' a (na - 1)
  let k? ← J17 true y b 0 (nb - 1) (nb - 1 - 1)
  match k? with
  | some k =>
   if nb - 1 - k > 0 then
    if (k == 1) = true then pure (ForInStep.done (some (b.extract 0 k ++ a.extract 0 na ++ (out.push x ++ (b.extract k (nb - 1)).reverse).reverse),na,k,out.push x ++ (b.extract k (nb - 1)).reverse,mg,ac,nb - 1 - k))
    else if (k == 0) = true then pure (ForInStep.done (some (a.extract 0 na ++ b.extract 0 k ++ (out.push x ++ (b.extract k (nb - 1)).reverse).reverse),na,k,out.push x ++ (b.extract k (nb - 1)).reverse,mg,ac,nb - 1 - k))
    else hiT2 a b (out.push x ++ (b.extract k (nb - 1)).reverse) na k mg ac (nb - 1 - k)
   else hiT2 a b (out.push x) na (nb - 1) mg ac (nb - 1 - k)
  | _=>pure (ForInStep.done (some (a.extract 0 na ++ b.extract 0 (nb - 1) ++ (out.push x).reverse),na,nb - 1,out.push x,mg,ac,bc))
theorem J5Y {a b out : Array Keyed} {na nb mg ac bc : Nat} {st : SortSt} {R : ForInStep HiSt → SortSt → Prop} (H : HiH κ a b) (M : MH κ a.toList b.toList out.toList (na + 1) nb) (i1 : na + 1 ≤ a.size) {x : Keyed} (ex : a[na]? = some x) (hx : ∀ y ∈ b.toList.take nb,leKy κ y x)
  (r1 : ∀ r o,Gd κ a.toList b.toList r.toList → R (.done (some r,o)) st) (r2 : ∀ out' mg ac bc,MH κ a.toList b.toList out'.toList na nb → 1 ≤ na → R (.done (none,na,nb,out',mg,ac,bc)) st ∧ R (.yield (none,na,nb,out',mg,ac,bc)) st) :
  wpS (model prog w) A E s (hiT2 a b out (na + 1) nb mg ac bc) R st:=by
 unfold hiT2
 simp only [Nat.add_sub_cancel]
 refine wpS_bind (Jt ex ?_)
 have M' : MH κ a.toList b.toList (out.push x).toList na nb:=by
  rw [Array.toList_push]
  exact M.pushA H.sa (Jg ex) hx
 by_cases c1 : na = 0
 ·rw [if_pos (by simpa using c1)]
  exact wpS_pure (r1 _ _ (H.fin M' (.inl c1)))
 ·rw [if_neg (by simpa using c1)]
  have z:=r2 (out.push x) mg ac bc M' (by omega)
  split
  ·exact wpS_pure z.1
  ·exact wpS_pure z.2
theorem J61 {a b out : Array Keyed} {na nb mg ac bc : Nat} {st : SortSt} {R : ForInStep HiSt → SortSt → Prop} (hO : κ.OneLt) (hk : kindOf st = oneType') (H : HiH κ a b) (M : MH κ a.toList b.toList out.toList (na + 1) (nb + 1)) (i1 : na + 1 ≤ a.size) (i2 : 1 ≤ nb) (i3 : nb + 1 ≤ b.size) {x y : Keyed} (ex : b[nb]? = some x) (ey : a[na]? = some y) (hxy : leKy κ y x)
  (r1 : ∀ r o,Gd κ a.toList b.toList r.toList → R (.done (some r,o)) st) (r2 : ∀ out' jb mg ac bc,MH κ a.toList b.toList out'.toList na jb → 1 ≤ na → 2 ≤ jb → jb ≤ nb → R (.done (none,na,jb,out',mg,ac,bc)) st ∧ R (.yield (none,na,jb,out',mg,ac,bc)) st) :
  wpS (model prog w) A E s (hiT1 a b out (na + 1) (nb + 1) mg ac bc) R st:=by
 unfold hiT1
 simp only [Nat.add_sub_cancel]
 refine wpS_bind (Jt ex ?_)
 have M' : MH κ a.toList b.toList (out.push x).toList (na + 1) nb:=by
  rw [Array.toList_push]
  exact M.pushB H.sb (Jg ex) fun z hz=>(J1M H.sa (Jg ey) z hz).trans hxy
 by_cases c1 : nb = 1
 ·rw [if_pos (by simpa using c1)]
  exact wpS_pure (r1 _ _ (H.fst M' (by omega) c1))
 rw [if_neg (by simpa using c1)]
 refine wpS_bind (Jt ey ?_)
 have zero : ∀ i : Nat,0 + i = i:=Nat.zero_add
 refine wpS_bind (J1e hO hk (H.ka _ (J0l ey)) (by omega) H.kb (fun i j u v hij _ hu hv=>J23 H.sb hij (Jg (by rw [← zero i]; exact hu)) (Jg (by rw [← zero j]; exact hv))) (by omega) fun k hk1 g1 g2=>?_)
 dsimp only
 have lb : b.toList.length = b.size:=Array.length_toList
 have ME : MH κ a.toList b.toList (out.push x ++ (b.extract k nb).reverse).toList (na + 1) k:=by
  rw [Array.toList_append,Array.toList_reverse,J1l]
  have:=M'.extB H.sb (nb - k) (by omega) fun i u h1 h2 hu z hz=>?_
  ·rw [show nb - (nb - k) = k by omega] at this
   exact this
  ·have h3:=g2 i u (by omega) h2 (by rw [zero]; simpa using hu)
   simp only [if_true] at h3
   exact (J1M H.sa (Jg ey) z hz).trans h3
 have hy : ∀ z ∈ b.toList.take k,leKy κ z y:=fun z hz=>by
  obtain ⟨j,hj⟩:=List.getElem?_of_mem hz
  rw [List.getElem?_take] at hj
  split at hj
  ·rename_i hlt
   have h3:=g1 j z hlt (by rw [zero]; simpa using hj)
   simp only [if_true] at h3
   exact leKy.of_lt h3
  ·cases hj
 have kpos : 1 ≤ k:=by
  by_cases c : k = 0
  ·exfalso
   obtain ⟨z,ez⟩:=Jq (a:=b) (i:=0) (by omega)
   have h3:=g2 0 z (by omega) (by omega) (by rw [zero]; exact ez)
   simp only [if_true] at h3
   have h4:=H.hf z ez y (J0l ey)
   unfold leKy KeyOrd.kle at h3
   unfold ltB at h4
   rw [h3] at h4
   cases h4
  ·omega
 by_cases c2 : nb - k > 0
 ·rw [if_pos c2]
  by_cases c3 : k = 1
  ·rw [if_pos (by simpa using c3)]
   exact wpS_pure (r1 _ _ (H.fst ME (by omega) c3))
  ·rw [if_neg (by simpa using c3),if_neg (by simp; omega)]
   exact J5Y H ME i1 ey hy r1 fun out' mg ac bc m1 m2=>r2 out' _ mg ac bc m1 m2 (by omega) (by omega)
 ·rw [if_neg c2]
  have k0 : k = nb:=by omega
  rw [k0] at hy
  exact J5Y H M' i1 ey hy r1 fun out' mg ac bc m1 m2=>r2 out' _ mg ac bc m1 m2 (by omega) (by omega)
theorem J5V {a b : Array Keyed} {st : SortSt} {Q : Array Keyed → SortSt → Prop} (hO : κ.OneLt) (hk : kindOf st = oneType') (HH : HiH κ a b) (ha : 1 ≤ a.size) (hb : 1 ≤ b.size)
  (hl : ∀ z,a[a.size - 1]? = some z → ∀ y ∈ b.toList,leKy κ y z)
  (q : ∀ r st',J0n st st' → Gd κ a.toList b.toList r.toList → Q r st') : wpS (model prog w) A E s (J3K a b) Q st:=by
 rw [J5U]
 refine wpS_bind (wpS_lift (wpAny_rule ⟨rfl,?_⟩))
 obtain ⟨z,ez⟩:=Jq (a:=a) (i:=a.size - 1) (by omega)
 obtain ⟨b0,eb0⟩:=Jq (a:=b) (i:=0) (by omega)
 have la : a.toList.length = a.size:=Array.length_toList
 have lb : b.toList.length = b.size:=Array.length_toList
 refine wpS_bind (Jt ez ?_)
 have M0 : MH κ a.toList b.toList [z] (a.size - 1) b.size:=by
  have M : MH κ a.toList b.toList [] (a.size - 1 + 1) b.size:=⟨by omega,by omega,by rw [List.take_of_length_le (by omega),List.take_of_length_le (by omega),List.reverse_nil,List.append_nil],.nil,fun x hx=>absurd hx List.not_mem_nil,fun x hx=>absurd hx List.not_mem_nil⟩
  exact M.pushA HH.sa (Jg ez) fun y hy=>hl z ez y (List.mem_of_mem_take hy)
 by_cases e1 : a.size - 1 = 0
 ·rw [if_pos (by simp [e1])]
  exact wpS_pure (q _ st (J0n.refl _) (HH.fin M0 (.inl e1)))
 rw [if_neg (by simpa using e1)]
 by_cases e2 : b.size = 1
 ·rw [if_pos (by simp [e2])]
  exact wpS_pure (q _ st (J0n.refl _) (HH.fst M0 hb e2))
 rw [if_neg (by simpa using e2)]
 refine wpS_bind (wpS_get ?_)
 refine wpS_bind (wpS_mono (wpS_forRange
  (I:=fun x c st'=>J0n st st' ∧ ∃ out na nb mg,c = (none,na,nb,out,mg) ∧ MH κ a.toList b.toList out.toList na nb ∧ 1 ≤ na ∧ 2 ≤ nb ∧ na ≤ a.size ∧ nb ≤ b.size ∧ x + na + nb ≤ a.size + b.size)
  (Q:=fun c st'=>J0n st st' ∧ ∃ r o,c = (some r,o) ∧ Gd κ a.toList b.toList r.toList) ?step ?fin ⟨J0n.refl _,_,_,_,_,rfl,M0,by omega,by omega,by omega,by omega,by omega⟩) ?post)
 case post =>
  rintro c st' ⟨sg,r,o,rfl,g⟩
  exact wpS_pure (q r st' sg g)
 case fin =>
  rintro c st' ⟨_,out,na,nb,mg,rfl,_,h1,h2,h3⟩
  omega
 case step =>
  rintro x c st1 _ hx ⟨sg,out,na,nb,mg,rfl,M,i1,i2,i3,i4,i5⟩
  dsimp only
  refine wpS_bind (wpS_mono (wpS_forRange
   (I:=fun y c st'=>st' = st1 ∧ ∃ out na nb ac bc,c = (none,na,nb,out,ac,bc) ∧ MH κ a.toList b.toList out.toList na nb ∧ 1 ≤ na ∧ 2 ≤ nb ∧ na ≤ a.size ∧ nb ≤ b.size ∧ x + y + na + nb ≤ a.size + b.size)
   (Q:=fun c st'=>st' = st1 ∧ ((∃ r o,c = (some r,o) ∧ Gd κ a.toList b.toList r.toList) ∨ ∃ out na nb ac bc,c = (none,na,nb,out,ac,bc) ∧ MH κ a.toList b.toList out.toList na nb ∧ 1 ≤ na ∧ 2 ≤ nb ∧ na ≤ a.size ∧ nb ≤ b.size ∧ x + 1 + na + nb ≤ a.size + b.size)) ?step1 ?fin1 ⟨rfl,_,_,_,0,0,rfl,M,i1,i2,i3,i4,by omega⟩) ?post1)
  case fin1 =>
   rintro c st' ⟨_,out,na,nb,ac,bc,rfl,_,h1,h2,h3⟩
   omega
  case step1 =>
   clear M i1 i2 i3 i4 i5
   rintro y c st' _ hy ⟨rfl,out,na,nb,ac,bc,rfl,M,i1,i2,i3,i4,i5⟩
   dsimp only
   obtain ⟨nb,rfl⟩ : ∃ n,nb = n + 1:=⟨nb - 1,by omega⟩
   obtain ⟨na,rfl⟩ : ∃ n,na = n + 1:=⟨na - 1,by omega⟩
   simp only [Nat.add_sub_cancel]
   obtain ⟨xb,eb⟩:=Jq (a:=b) (i:=nb) (by omega)
   obtain ⟨xa,ea⟩:=Jq (a:=a) (i:=na) (by omega)
   refine wpS_bind (Jt eb (wpS_bind (Jt ea (wpS_bind (J2N hO (sg.k.trans hk) (HH.kb _ (J0l eb)) (HH.ka _ (J0l ea)) ?_)))))
   dsimp only
   cases hw : ltB κ xb xa
   ·rw [if_neg Bool.false_ne_true]
    refine wpS_bind (Jt eb ?_)
    have M' : MH κ a.toList b.toList (out.push xb).toList (na + 1) nb:=by
     rw [Array.toList_push]
     exact M.pushB HH.sb (Jg eb) fun y hy=>(J1M HH.sa (Jg ea) y hy).trans (leKy.of_not hw)
    by_cases c1 : nb = 1
    ·rw [if_pos (by simpa using c1)]
     exact wpS_pure ⟨rfl,.inl ⟨_,_,rfl,HH.fst M' hb c1⟩⟩
    ·rw [if_neg (by simpa using c1)]
     split
     ·exact wpS_pure ⟨rfl,.inr ⟨_,_,_,_,_,rfl,M',by omega,by omega,by omega,by omega,by omega⟩⟩
     ·exact wpS_pure ⟨rfl,_,_,_,_,_,rfl,M',by omega,by omega,by omega,by omega,by omega⟩
   ·rw [if_pos rfl]
    refine wpS_bind (Jt ea ?_)
    have M' : MH κ a.toList b.toList (out.push xa).toList na (nb + 1):=by
     rw [Array.toList_push]
     exact M.pushA HH.sa (Jg ea) fun y hy=>(J1M HH.sb (Jg eb) y hy).trans (leKy.of_lt hw)
    by_cases c1 : na = 0
    ·rw [if_pos (by simpa using c1)]
     exact wpS_pure ⟨rfl,.inl ⟨_,_,rfl,HH.fin M' (.inl c1)⟩⟩
    ·rw [if_neg (by simpa using c1)]
     split
     ·exact wpS_pure ⟨rfl,.inr ⟨_,_,_,_,_,rfl,M',by omega,by omega,by omega,by omega,by omega⟩⟩
     ·exact wpS_pure ⟨rfl,_,_,_,_,_,rfl,M',by omega,by omega,by omega,by omega,by omega⟩
  case post1 =>
   clear M i1 i2 i3 i4 i5
   rintro c st' ⟨rfl,⟨r,o,rfl,g⟩ | ⟨out,na,nb,ac,bc,rfl,M,i1,i2,i3,i4,i5⟩⟩
   ·exact wpS_pure ⟨sg,r,_,rfl,g⟩
   dsimp only
   refine wpS_bind (wpS_lift (wpAny_rule ⟨rfl,?_⟩))
   refine wpS_bind (wpS_mono (wpS_forRange
    (I:=fun y c st'=>J0n st st' ∧ ∃ out na nb mg ac bc,c = (none,na,nb,out,mg,ac,bc) ∧ MH κ a.toList b.toList out.toList na nb ∧ 1 ≤ na ∧ 2 ≤ nb ∧ na ≤ a.size ∧ nb ≤ b.size ∧ x + 1 + y + na + nb ≤ a.size + b.size)
    (Q:=fun c st'=>J0n st st' ∧ ((∃ r o,c = (some r,o) ∧ Gd κ a.toList b.toList r.toList) ∨ ∃ out na nb mg ac bc,c = (none,na,nb,out,mg,ac,bc) ∧ MH κ a.toList b.toList out.toList na nb ∧ 1 ≤ na ∧ 2 ≤ nb ∧ na ≤ a.size ∧ nb ≤ b.size ∧ x + 1 + na + nb ≤ a.size + b.size)) ?step2 ?fin2 ⟨sg,_,_,_,_,_,_,rfl,M,i1,i2,i3,i4,by omega⟩) ?post2)
   case fin2 =>
    rintro c st' ⟨_,out,na,nb,mg,ac,bc,rfl,_,h1,h2,h3⟩
    omega
   case post2 =>
    clear M i1 i2 i3 i4 i5
    rintro c st' ⟨sg',⟨r,o,rfl,g⟩ | ⟨out,na,nb,mg,ac,bc,rfl,M,i1,i2,i3,i4,i5⟩⟩
    ·exact wpS_pure ⟨sg',r,_,rfl,g⟩
    dsimp only
    rw [J0z]
    exact wpS_bind (wpS_modify (wpS_pure ⟨sg'.set _,_,_,_,_,rfl,M,i1,i2,i3,i4,i5⟩))
   case step2 =>
    clear M i1 i2 i3 i4 i5
    rintro y c st' _ hy ⟨sg',out,na,nb,mg,ac,bc,rfl,M,i1,i2,i3,i4,i5⟩
    dsimp only
    by_cases hm : mg > 1
    case' pos=>rw [if_pos hm]; generalize mg - 1 = mg2
    case' neg=>rw [if_neg hm]; clear hm; generalize mg = mg2
    all_goals
     rw [J0z]
     refine wpS_bind (wpS_modify ?_)
     have sg2:=sg'.set mg2
     generalize SortSt.mk' (kindOf st') (arrOf st') (pendingOf st') mg2 (failedOf st') = st2 at sg2 ⊢
     have hk2 : kindOf st2 = oneType':=sg2.k.trans hk
     obtain ⟨nb,rfl⟩ : ∃ n,nb = n + 1:=⟨nb - 1,by omega⟩
     obtain ⟨xb,eb⟩:=Jq (a:=b) (i:=nb) (by omega)
     have zero : ∀ i : Nat,0 + i = i:=Nat.zero_add
     refine wpS_bind (Jt (show b[nb + 1 - 1]? = some xb from eb) ?_)
     refine wpS_bind (J1e hO hk2 (HH.kb _ (J0l eb)) (by omega) HH.ka (fun i j u v hij _ hu hv=>J23 HH.sa hij (Jg (by rw [← zero i]; exact hu)) (Jg (by rw [← zero j]; exact hv))) (by omega) fun k hk1 g1 g2=>?_)
     dsimp only
     have ME : MH κ a.toList b.toList (out ++ (a.extract k na).reverse).toList k (nb + 1):=by
      rw [Array.toList_append,Array.toList_reverse,J1l]
      have:=M.extA HH.sa (na - k) (by omega) fun i u h1 h2 hu y hy=>?_
      ·rw [show na - (na - k) = k by omega] at this
       exact this
      ·have h3:=g2 i u (by omega) h2 (by rw [zero]; simpa using hu)
       simp only [Bool.false_eq_true,if_false] at h3
       exact (J1M HH.sb (Jg eb) y hy).trans (leKy.of_lt h3)
     have le1 : ∀ i v,i < k → a[i]? = some v → leKy κ v xb:=fun i v hi ev=>by
      have h3:=g1 i v hi (by rw [zero]; exact ev)
      simpa using h3
     have r1 : ∀ (r : Array Keyed) (o : Nat × Nat × Array Keyed × Nat × Nat × Nat),Gd κ a.toList b.toList r.toList → J0n st st2 ∧ ((∃ r' o',((some r,o) : HiSt) = (some r',o') ∧ Gd κ a.toList b.toList r'.toList) ∨ ∃ out na nb mg ac bc,((some r,o) : HiSt) = (none,na,nb,out,mg,ac,bc) ∧ MH κ a.toList b.toList out.toList na nb ∧ 1 ≤ na ∧ 2 ≤ nb ∧ na ≤ a.size ∧ nb ≤ b.size ∧ x + 1 + na + nb ≤ a.size + b.size):=fun r o g=>⟨sg2,.inl ⟨r,o,rfl,g⟩⟩
     by_cases c2 : na - k > 0
     ·rw [if_pos c2]
      by_cases c3 : k = 0
      ·rw [if_pos (by simpa using c3)]
       exact wpS_pure (r1 _ _ (HH.fin ME (.inl c3)))
      ·rw [if_neg (by simpa using c3)]
       show wpS _ _ _ _ (hiT1 a b (out ++ (a.extract k na).reverse) k (nb + 1) mg2 (na - k) bc) _ _
       obtain ⟨k,rfl⟩ : ∃ n,k = n + 1:=⟨k - 1,by omega⟩
       obtain ⟨v,ev⟩:=Jq (a:=a) (i:=k) (by omega)
       exact J61 hO hk2 HH ME (by omega) (by omega) (by omega) eb ev (le1 k v (by omega) ev) r1 fun out' jb' mg ac bc m1 m2 m3 m4=>⟨⟨sg2,.inr ⟨_,_,_,_,_,_,rfl,m1,m2,m3,by omega,by omega,by omega⟩⟩,⟨sg2,_,_,_,_,_,_,rfl,m1,m2,m3,by omega,by omega,by omega⟩⟩
     ·rw [if_neg c2]
      have k0 : k = na:=by omega
      subst k0
      show wpS _ _ _ _ (hiT1 a b out k (nb + 1) mg2 (k - k) bc) _ _
      obtain ⟨k,rfl⟩ : ∃ n,k = n + 1:=⟨k - 1,by omega⟩
      obtain ⟨v,ev⟩:=Jq (a:=a) (i:=k) (by omega)
      exact J61 hO hk2 HH M (by omega) (by omega) (by omega) eb ev (le1 k v (by omega) ev) r1 fun out' jb' mg ac bc m1 m2 m3 m4=>⟨⟨sg2,.inr ⟨_,_,_,_,_,_,rfl,m1,m2,m3,by omega,by omega,by omega⟩⟩,⟨sg2,_,_,_,_,_,_,rfl,m1,m2,m3,by omega,by omega,by omega⟩⟩
end
noncomputable def wrA (arr : Array Keyed) (sa : Nat) (m : List Keyed) : Array Keyed:=m.zipIdx.foldl (fun a x=>match x with | (p,j)=>a.setIfInBounds (sa + j) p) arr
theorem J5I (i : Nat) : mergeAt' i = (do
 let t ← get
 let (some (u,m,pw),some (v,n,_)):=((pendingOf t)[i]?,(pendingOf t)[i + 1]?) | unsupported "internal:list.sort.pending"
 set (setPending t (((pendingOf t).setIfInBounds i (u,m + n,pw)).eraseIdxIfInBounds (i + 1)))
 let some k ← J17 false (← elem' (arrOf t) v) (arrOf t) u m 0 | return false
 let (u,m):=(u + k,m - k)
 if m == 0 then return true
 let some n ← J17 true (← elem' (arrOf t) (u + m - 1)) (arrOf t) v n (n - 1) | return false
 if n == 0 then return true
 let x:=(arrOf t).extract u v
 let y:=(arrOf t).extract v (v + n)
 let r ← if m ≤ n then J3G x y else J3K x y
 modify fun t=>setArr t (wrA (arrOf t) u r.toList)
 return (failedOf (← get)).isNone):=rfl
theorem J3F {a : Array Keyed} {i : Nat} {x : Keyed} (h : a.toList[i]? = some x) : a[i]? = some x:=by rwa [Array.getElem?_toList] at h
section
variable {κ : PyProof.Rows.KeyKind}
noncomputable def seg (L : List Keyed) (l n : Nat) : List Keyed:=(L.drop l).take n
theorem J1z {L : List Keyed} {l n : Nat} {x : Keyed} (h : x ∈ seg L l n) : ∃ i,i < n ∧ L[l + i]? = some x:=by
 obtain ⟨j,hj⟩:=List.getElem?_of_mem h
 unfold seg at hj
 rw [List.getElem?_take] at hj
 split at hj
 ·rename_i hlt
  rw [List.getElem?_drop] at hj
  exact ⟨j,hlt,hj⟩
 ·cases hj
theorem J1y {L : List Keyed} {l n : Nat} (h : l + n ≤ L.length) : (seg L l n).length = n:=by
 unfold seg
 rw [List.length_take,List.length_drop]
 omega
theorem J2d (L : List Keyed) (l m n : Nat) : seg L l (m + n) = seg L l m ++ seg L (l + m) n:=by
 unfold seg
 rw [List.take_add,List.drop_drop]
theorem J93 {L : List Keyed} (l n : Nat) : L = L.take l ++ seg L l n ++ L.drop (l + n):=by
 unfold seg
 rw [List.append_assoc,← List.drop_drop,List.take_append_drop,List.take_append_drop]
theorem Ja6 {P M R : List Keyed} {l n : Nat} (h1 : P.length = l) (h2 : M.length = n) : seg (P ++ M ++ R) l n = M:=by
 unfold seg
 subst h1 h2
 rw [List.append_assoc,List.drop_left,List.take_left]
theorem J51 {L : List Keyed} {l n : Nat} (h : ∀ i j x y,i ≤ j → j < n → L[l + i]? = some x → L[l + j]? = some y → leKy κ x y) : (seg L l n).Pairwise (leKy κ):=by
 rw [List.pairwise_iff_getElem]
 intro i j hi hj hij
 have gi : (seg L l n)[i]? = some (seg L l n)[i]:=List.getElem?_eq_getElem hi
 have gj : (seg L l n)[j]? = some (seg L l n)[j]:=List.getElem?_eq_getElem hj
 have e : ∀ k,(seg L l n)[k]? = if k < n then L[l + k]? else none:=fun k=>by
  unfold seg
  rw [List.getElem?_take]
  split
  ·rw [List.getElem?_drop]
  ·rfl
 rw [e] at gi gj
 split at gi
 ·split at gj
  ·exact h i j _ _ (by omega) (by assumption) gi gj
  ·cases gj
 ·cases gi
theorem J2c {L : List Keyed} {l n : Nat} (s : (seg L l n).Pairwise (leKy κ)) : ∀ i j x y,i ≤ j → j < n → L[l + i]? = some x → L[l + j]? = some y → leKy κ x y:=by
 intro i j x y hij hj hx hy
 have e : ∀ k z,k < n → L[l + k]? = some z → (seg L l n)[k]? = some z:=fun k z hk hz=>by
  unfold seg
  rw [List.getElem?_take,if_pos hk,List.getElem?_drop]
  exact hz
 exact J23 s hij (e i x (by omega) hx) (e j y hj hy)
theorem J9j : ∀ (m : List Keyed) (arr : Array Keyed) (sa k : Nat),sa + k + m.length ≤ arr.size → ((m.zipIdx k).foldl (fun a x=>match x with | (p,j)=>a.setIfInBounds (sa + j) p) arr).toList = arr.toList.take (sa + k) ++ m ++ arr.toList.drop (sa + k + m.length)
 | [],arr,sa,k,_=>by
  show arr.toList = _
  rw [List.append_nil,List.length_nil,Nat.add_zero,List.take_append_drop]
 | p :: m,arr,sa,k,h=>by
  have hl : sa + k + (m.length + 1) ≤ arr.size:=h
  show ((m.zipIdx (k + 1)).foldl _ (arr.setIfInBounds (sa + k) p)).toList = _
  rw [J9j m _ sa (k + 1) (by rw [Array.size_setIfInBounds]; omega)]
  have e : (arr.setIfInBounds (sa + k) p).toList = arr.toList.set (sa + k) p:=by simp
  have ll : sa + k < arr.toList.length:=by rw [Array.length_toList]; omega
  rw [e,show sa + (k + 1) = sa + k + 1 by omega,List.drop_set_of_lt (by omega),List.length_cons,show sa + k + 1 + m.length = sa + k + (m.length + 1) by omega]
  have e2 : (arr.toList.set (sa + k) p).take (sa + k + 1) = arr.toList.take (sa + k) ++ [p]:=by
   rw [List.take_add_one,List.take_set_of_le (Nat.le_refl _),List.getElem?_set_self ll]
   rfl
  rw [e2]
  simp
theorem J8Y {arr : Array Keyed} {sa : Nat} {m : List Keyed} (h : sa + m.length ≤ arr.size) : (wrA arr sa m).toList = arr.toList.take sa ++ m ++ arr.toList.drop (sa + m.length):=by
 have:=J9j m arr sa 0 (by omega)
 rw [Nat.add_zero] at this
 exact this
structure MA (κ : PyProof.Rows.KeyKind) (L L' : List Keyed) (u n : Nat) : Prop where
 perm : L'.Perm L
 srt : (seg L' u n).Pairwise (leKy κ)
 pre : L'.take u = L.take u
 post : L'.drop (u + n) = L.drop (u + n)
theorem MA.same {L : List Keyed} {u n : Nat} (h : (seg L u n).Pairwise (leKy κ)) : MA κ L L u n:=⟨List.Perm.refl _,h,rfl,rfl⟩
theorem MA.made {L r : List Keyed} {u k m n n' : Nat} (hk : k ≤ m) (hn : n' ≤ n) (hl : u + m + n ≤ L.length) (s1 : (seg L u m).Pairwise (leKy κ)) (s2 : (seg L (u + m) n).Pairwise (leKy κ)) (g : Gd κ (seg L (u + k) (m - k)) (seg L (u + m) n') r)
  (h1 : ∀ x ∈ seg L u k,∀ y ∈ seg L (u + m) n,leKy κ x y) (h2 : ∀ x ∈ seg L (u + k) (m - k),∀ y ∈ seg L (u + m + n') (n - n'),leKy κ x y) :
  MA κ L (L.take (u + k) ++ r ++ L.drop (u + k + r.length)) u (m + n):=by
 have e1 : seg L u m = seg L u k ++ seg L (u + k) (m - k):=by rw [← J2d,show k + (m - k) = m by omega]
 have e2 : seg L (u + m) n = seg L (u + m) n' ++ seg L (u + m + n') (n - n'):=by rw [← J2d,show n' + (n - n') = n by omega]
 have lr : r.length = m - k + n':=by
  rw [g.1.length_eq,List.length_append,J1y (by omega),J1y (by omega)]
 have ed : L.drop (u + k + r.length) = seg L (u + m + n') (n - n') ++ L.drop (u + (m + n)):=by
  rw [lr,show u + k + (m - k + n') = u + m + n' by omega]
  unfold seg
  rw [show u + (m + n) = u + m + n' + (n - n') by omega,← List.drop_drop (i:=n - n'),List.take_append_drop]
 have et : L.take (u + k) = L.take u ++ seg L u k:=by unfold seg; rw [← List.take_add]
 have lu : (L.take u).length = u:=by rw [List.length_take]; omega
 have all : L = L.take u ++ (seg L u k ++ (seg L (u + k) (m - k) ++ seg L (u + m) n') ++ seg L (u + m + n') (n - n')) ++ L.drop (u + (m + n)):=by
  conv=>lhs; rw [J93 (L:=L) u (m + n),J2d,e1,e2]
  simp only [List.append_assoc]
 have shape : L.take (u + k) ++ r ++ L.drop (u + k + r.length) = L.take u ++ (seg L u k ++ r ++ seg L (u + m + n') (n - n')) ++ L.drop (u + (m + n)):=by
  rw [et,ed]
  simp only [List.append_assoc]
 have lm : (seg L u k ++ r ++ seg L (u + m + n') (n - n')).length = m + n:=by
  rw [List.length_append,List.length_append,lr,J1y (by omega),J1y (by omega)]
  omega
 rw [shape]
 refine ⟨?_,?_,?_,?_⟩
 ·conv=>rhs; rw [all]
  refine List.Perm.append_right _ (List.Perm.append_left _ (List.Perm.append_right _ (List.Perm.append_left _ g.1)))
 ·rw [Ja6 lu lm]
  rw [e1] at s1
  rw [e2] at s2
  have p1:=List.pairwise_append.mp s1
  have p2:=List.pairwise_append.mp s2
  refine List.pairwise_append.mpr ⟨List.pairwise_append.mpr ⟨p1.1,g.2,fun x hx y hy=>?_⟩,p2.2.1,fun x hx y hy=>?_⟩
  ·rcases List.mem_append.mp (g.1.subset hy) with hy | hy
   ·exact p1.2.2 x hx y hy
   ·exact h1 x hx y (by rw [e2]; exact List.mem_append_left _ hy)
  ·rcases List.mem_append.mp hx with hx | hx
   ·exact h1 x hx y (by rw [e2]; exact List.mem_append_right _ hy)
   ·rcases List.mem_append.mp (g.1.subset hx) with hx | hx
    ·exact h2 x hx y hy
    ·exact p2.2.2 x hx y hy
 ·rw [List.append_assoc,List.take_left' lu]
 ·rw [List.drop_left' (by rw [List.length_append,lu,lm])]
end
section
variable {prog : Program} {w : World} {A : Around} {E : Value → Shared → Prop} {s : Shared} {κ : PyProof.Rows.KeyKind}
theorem J5R {i u m n pw pv : Nat} {st : SortSt} {Q : Bool → SortSt → Prop} (hO : κ.OneLt) (hk : kindOf st = oneType') (hf : failedOf st = none) (ka : ∀ x ∈ (arrOf st).toList,Kd κ x)
  (e1 : (pendingOf st)[i]? = some (u,m,pw)) (e2 : (pendingOf st)[i + 1]? = some (u + m,n,pv)) (hm : 1 ≤ m) (hn : 1 ≤ n) (hl : u + m + n ≤ (arrOf st).size)
  (s1 : (seg (arrOf st).toList u m).Pairwise (leKy κ)) (s2 : (seg (arrOf st).toList (u + m) n).Pairwise (leKy κ))
  (q : ∀ st',kindOf st' = oneType' → failedOf st' = none → pendingOf st' = ((pendingOf st).setIfInBounds i (u,m + n,pw)).eraseIdxIfInBounds (i + 1) → MA κ (arrOf st).toList (arrOf st').toList u (m + n) → Q true st') :
  wpS (model prog w) A E s (mergeAt' i) Q st:=by
 rw [J5I]
 refine wpS_bind (wpS_get ?_)
 rw [e1,e2]
 dsimp only
 generalize hP : ((pendingOf st).setIfInBounds i (u,m + n,pw)).eraseIdxIfInBounds (i + 1) = P' at q ⊢
 have ll : (arrOf st).toList.length = (arrOf st).size:=Array.length_toList
 refine wpS_bind ?_
 show wpS _ _ _ _ (modify fun _=>setPending st P') _ st
 refine wpS_modify ?_
 obtain ⟨xb,eb⟩:=Jq (a:=arrOf st) (i:=u + m) (by omega)
 have kx : ∀ {j x},(arrOf st)[j]? = some x → Kd κ x:=fun h=>ka _ (J0l h)
 have li : ∀ {j x},(arrOf st)[j]? = some x → (arrOf st).toList[j]? = some x:=fun h=>Jg h
 have ri : ∀ {j x},(arrOf st).toList[j]? = some x → (arrOf st)[j]? = some x:=fun h=>J3F h
 refine wpS_bind (Jt eb ?_)
 refine wpS_bind (J1e hO hk (kx eb) (by omega) ka (fun i j x y hij hj hx hy=>J2c s1 i j x y hij hj (li hx) (li hy)) (by omega) fun k hk1 g1 g2=>?_)
 dsimp only
 have pb : ∀ x ∈ seg (arrOf st).toList u k,leKy κ x xb:=fun x hx=>by
  obtain ⟨i,hi,e⟩:=J1z hx
  have:=g1 i x hi (ri e)
  simpa using this
 have ba : ∀ x ∈ seg (arrOf st).toList (u + k) (m - k),ltB κ xb x = true:=fun x hx=>by
  obtain ⟨i,hi,e⟩:=J1z hx
  have:=g2 (k + i) x (by omega) (by omega) (ri (by rw [← Nat.add_assoc]; exact e))
  simpa using this
 have b0 : ∀ y ∈ seg (arrOf st).toList (u + m) n,leKy κ xb y:=fun y hy=>by
  obtain ⟨i,hi,e⟩:=J1z hy
  exact J2c s2 0 i xb y (by omega) hi (li eb) e
 by_cases c1 : m - k = 0
 ·rw [if_pos (by simpa using c1)]
  refine wpS_pure (q _ hk hf rfl (MA.same ?_))
  rw [J2d]
  have ek : k = m:=by omega
  rw [ek] at pb
  exact List.pairwise_append.mpr ⟨s1,s2,fun x hx y hy=>(pb x hx).trans (b0 y hy)⟩
 rw [if_neg (by simpa using c1)]
 obtain ⟨xa,ea⟩:=Jq (a:=arrOf st) (i:=u + k + (m - k) - 1) (by omega)
 have ea' : (arrOf st).toList[u + (m - 1)]? = some xa:=by rw [show u + (m - 1) = u + k + (m - k) - 1 by omega]; exact li ea
 refine wpS_bind (Jt ea ?_)
 refine wpS_bind (J1e hO hk (kx ea) (by omega) ka (fun i j x y hij hj hx hy=>J2c s2 i j x y hij hj (li hx) (li hy)) (by omega) fun n' hn1 g3 g4=>?_)
 dsimp only
 have aa : ∀ x ∈ seg (arrOf st).toList u m,leKy κ x xa:=fun x hx=>by
  obtain ⟨i,hi,e⟩:=J1z hx
  exact J2c s1 i (m - 1) x xa (by omega) (by omega) e ea'
 have bl : ∀ y ∈ seg (arrOf st).toList (u + m) n',ltB κ y xa = true:=fun y hy=>by
  obtain ⟨i,hi,e⟩:=J1z hy
  have:=g3 i y hi (ri e)
  simpa using this
 have br : ∀ y ∈ seg (arrOf st).toList (u + m + n') (n - n'),leKy κ xa y:=fun y hy=>by
  obtain ⟨i,hi,e⟩:=J1z hy
  have:=g4 (n' + i) y (by omega) (by omega) (ri (by rw [← Nat.add_assoc]; exact e))
  simpa using this
 by_cases c2 : n' = 0
 ·rw [if_pos (by simpa using c2)]
  refine wpS_pure (q _ hk hf rfl (MA.same ?_))
  rw [J2d]
  rw [c2,Nat.add_zero,Nat.sub_zero] at br
  exact List.pairwise_append.mpr ⟨s1,s2,fun x hx y hy=>(aa x hx).trans (br y hy)⟩
 rw [if_neg (by simpa using c2)]
 have sub1 : ∀ x ∈ seg (arrOf st).toList (u + k) (m - k),x ∈ seg (arrOf st).toList u m:=fun x hx=>by
  have : seg (arrOf st).toList u m = seg (arrOf st).toList u k ++ seg (arrOf st).toList (u + k) (m - k):=by rw [← J2d,show k + (m - k) = m by omega]
  rw [this]
  exact List.mem_append_right _ hx
 have tx : ((arrOf st).extract (u + k) (u + m)).toList = seg (arrOf st).toList (u + k) (m - k):=by rw [J1l,show u + m - (u + k) = m - k by omega]; rfl
 have ty : ((arrOf st).extract (u + m) (u + m + n')).toList = seg (arrOf st).toList (u + m) n':=by rw [J1l,show u + m + n' - (u + m) = n' by omega]; rfl
 have sx : (seg (arrOf st).toList (u + k) (m - k)).Pairwise (leKy κ):=J51 fun i j x y hij hj hx hy=>J2c s1 (k + i) (k + j) x y (by omega) (by omega) (by rw [← Nat.add_assoc]; exact hx) (by rw [← Nat.add_assoc]; exact hy)
 have sy : (seg (arrOf st).toList (u + m) n').Pairwise (leKy κ):=J51 fun i j x y hij hj hx hy=>J2c s2 i j x y hij (by omega) hx hy
 have zx : ((arrOf st).extract (u + k) (u + m)).size = m - k:=by rw [← Array.length_toList,tx,J1y (by omega)]
 have zy : ((arrOf st).extract (u + m) (u + m + n')).size = n':=by rw [← Array.length_toList,ty,J1y (by omega)]
 have kX : ∀ x ∈ ((arrOf st).extract (u + k) (u + m)).toList,Kd κ x:=fun x hx=>by
  rw [tx] at hx
  obtain ⟨i,_,e⟩:=J1z hx
  exact kx (ri e)
 have kY : ∀ x ∈ ((arrOf st).extract (u + m) (u + m + n')).toList,Kd κ x:=fun x hx=>by
  rw [ty] at hx
  obtain ⟨i,_,e⟩:=J1z hx
  exact kx (ri e)
 have fY : ∀ z,((arrOf st).extract (u + m) (u + m + n'))[0]? = some z → z = xb:=fun z hz=>by
  have:=Jg hz
  rw [ty] at this
  unfold seg at this
  rw [List.getElem?_take,if_pos (by omega),List.getElem?_drop,Nat.add_zero,li eb] at this
  exact (Option.some.inj this).symm
 have lX : ∀ z,((arrOf st).extract (u + k) (u + m))[((arrOf st).extract (u + k) (u + m)).size - 1]? = some z → z = xa:=fun z hz=>by
  have:=Jg hz
  rw [tx,zx] at this
  unfold seg at this
  rw [List.getElem?_take,if_pos (by omega),List.getElem?_drop,show u + k + (m - k - 1) = u + (m - 1) by omega,ea'] at this
  exact (Option.some.inj this).symm
 have done : ∀ (r : Array Keyed) (st2 : SortSt),J0n (setPending st P') st2 → Gd κ ((arrOf st).extract (u + k) (u + m)).toList ((arrOf st).extract (u + m) (u + m + n')).toList r.toList → wpS (model prog w) A E s (do
   modify fun t=>setArr t (wrA (arrOf t) (u + k) r.toList)
   let t ← get
   pure (failedOf t).isNone) Q st2:=fun r st2 sg g=>by
  rw [tx,ty] at g
  have lr : r.toList.length = m - k + n':=by rw [g.1.length_eq,List.length_append,J1y (by omega),J1y (by omega)]
  refine wpS_bind (wpS_modify (wpS_bind (wpS_get (wpS_pure ?_))))
  have hf2 : failedOf st2 = none:=sg.f.trans hf
  show Q (failedOf st2).isNone _
  rw [hf2]
  refine q _ (sg.k.trans hk) hf2 sg.p ?_
  have ea2 : arrOf st2 = arrOf st:=sg.a
  show MA κ _ (wrA (arrOf st2) (u + k) r.toList).toList u (m + n)
  rw [ea2,J8Y (by rw [lr]; omega)]
  exact MA.made hk1 hn1 (by omega) s1 s2 g (fun x hx y hy=>(pb x hx).trans (b0 y hy)) (fun x hx y hy=>(aa x (sub1 x hx)).trans (br y hy))
 by_cases c3 : m - k ≤ n'
 ·rw [if_pos c3]
  refine wpS_bind (J5T hO hk kX kY (by rw [tx]; exact sx) (by rw [ty]; exact sy) (by omega) (by omega) (fun x y hx hy=>?_) (fun z hz y hy=>?_) fun r st2 sg g=>done r st2 sg g)
  ·rw [fY x hx]
   have:=J0l hy
   rw [tx] at this
   exact leKy.of_lt (ba y this)
  ·rw [lX z hz]
   rw [ty] at hy
   exact bl y hy
 ·rw [if_neg c3]
  refine wpS_bind (J5V hO hk ⟨kX,kY,by rw [tx]; exact sx,by rw [ty]; exact sy,fun z hz y hy=>?_⟩ (by omega) (by omega) (fun z hz y hy=>?_) fun r st2 sg g=>done r st2 sg g)
  ·rw [fY z hz]
   rw [tx] at hy
   exact ba y hy
  ·rw [lX z hz]
   rw [ty] at hy
   exact leKy.of_lt (bl y hy)
end
section
variable {κ : PyProof.Rows.KeyKind}
structure StR (st st' : SortSt) (l r : Nat) : Prop where
 k : kindOf st' = kindOf st
 f : failedOf st' = failedOf st
 p : pendingOf st' = pendingOf st
 perm : (arrOf st').toList.Perm (arrOf st).toList
 out : ∀ j : Nat,j < l ∨ r ≤ j → (arrOf st')[j]? = (arrOf st)[j]?
theorem StR.refl (st : SortSt) (l r : Nat) : StR st st l r:=⟨rfl,rfl,rfl,List.Perm.refl _,fun _ _=>rfl⟩
theorem StR.trans {a b c : SortSt} {l r : Nat} (h : StR a b l r) (h2 : StR b c l r) : StR a c l r:=⟨h2.k.trans h.k,h2.f.trans h.f,h2.p.trans h.p,h2.perm.trans h.perm,fun j hj=>(h2.out j hj).trans (h.out j hj)⟩
theorem StR.size {a b : SortSt} {l r : Nat} (h : StR a b l r) : (arrOf b).size = (arrOf a).size:=by
 have:=h.perm.length_eq
 rwa [Array.length_toList,Array.length_toList] at this
noncomputable def Up (κ : PyProof.Rows.KeyKind) (xs : Array Keyed) (b m : Nat) : Prop:=∀ i j,i ≤ j → j < m → κ.kle (KK κ xs (b + i)) (KK κ xs (b + j))
noncomputable def Dn (κ : PyProof.Rows.KeyKind) (xs : Array Keyed) (b m : Nat) : Prop:=∀ i j,i ≤ j → j < m → κ.kle (KK κ xs (b + j)) (KK κ xs (b + i))
theorem J4u {xs : Array Keyed} {i : Nat} {x : Keyed} (h : xs[i]? = some x) : KK κ xs i = kOf κ x:=by
 unfold KK kOf
 rw [h]
theorem Up.seg {xs : Array Keyed} {b m : Nat} (h : Up κ xs b m) : (seg xs.toList b m).Pairwise (leKy κ):=J51 fun i j x y hij hj hx hy=>by
 have:=h i j hij hj
 rw [J4u (J3F hx),J4u (J3F hy)] at this
 exact this
theorem Up.one {xs : Array Keyed} (b : Nat) : Up κ xs b 1:=fun i j hij hj=>by
 have e : i = j:=by omega
 subst e
 exact KeyOrd.kle_refl _
theorem Up.more {xs : Array Keyed} {b m : Nat} (h : Up κ xs b m) (h1 : 1 ≤ m) (l : κ.kle (KK κ xs (b + m - 1)) (KK κ xs (b + m))) : Up κ xs b (m + 1):=fun i j hij hj=>by
 by_cases c : j < m
 ·exact h i j hij c
 ·have e : j = m:=by omega
  subst e
  by_cases c2 : i = j
  ·rw [c2]; exact KeyOrd.kle_refl _
  ·have:=h i (j - 1) (by omega) (by omega)
   rw [show b + (j - 1) = b + j - 1 by omega] at this
   exact KeyOrd.kle_trans this l
theorem Dn.more {xs : Array Keyed} {b m : Nat} (h : Dn κ xs b m) (h1 : 1 ≤ m) (l : κ.kle (KK κ xs (b + m)) (KK κ xs (b + m - 1))) : Dn κ xs b (m + 1):=fun i j hij hj=>by
 by_cases c : j < m
 ·exact h i j hij c
 ·have e : j = m:=by omega
  subst e
  by_cases c2 : i = j
  ·rw [c2]; exact KeyOrd.kle_refl _
  ·have:=h i (j - 1) (by omega) (by omega)
   rw [show b + (j - 1) = b + j - 1 by omega] at this
   exact KeyOrd.kle_trans l this
theorem J6g {xs : Array Keyed} {i j : Nat} (hj : j ≤ xs.size) (k : Nat) : KK κ (mirror xs i j ((j - i) / 2)) k = if i ≤ k ∧ k < j then KK κ xs (i + j - 1 - k) else KK κ xs k:=by
 have e:=getElem?_mirror_all (i:=i) hj k
 by_cases c : i ≤ k ∧ k < j
 ·rw [if_pos c] at e ⊢
  exact KK_congr e
 ·rw [if_neg c] at e ⊢
  exact KK_congr e
theorem J2K {xs : Array Keyed} {i j : Nat} (hj : j ≤ xs.size) (h : ∀ k,i ≤ k → k < j → KK κ xs k = KK κ xs (j - 1)) (k : Nat) : KK κ (mirror xs i j ((j - i) / 2)) k = KK κ xs k:=by
 rw [J6g hj]
 by_cases c : i ≤ k ∧ k < j
 ·rw [if_pos c,h _ (by omega) (by omega),h k c.1 c.2]
 ·rw [if_neg c]
theorem StR.mir {st : SortSt} {l r i j : Nat} (h1 : l ≤ i) (h2 : j ≤ r) (hj : j ≤ (arrOf st).size) : StR st (setArr st (mirror (arrOf st) i j ((j - i) / 2))) l r :=
 ⟨rfl,rfl,rfl,Array.perm_iff_toList_perm.mp (mirror_perm _ _ _ _),fun k hk=>by
  show (mirror (arrOf st) i j ((j - i) / 2))[k]? = _
  rw [getElem?_mirror_all hj,if_neg (by omega)]⟩
end
section
variable {prog : Program} {w : World} {A : Around} {E : Value → Shared → Prop} {s : Shared} {κ : PyProof.Rows.KeyKind}
theorem J2a {i j : Nat} {st : SortSt} {Q : Option Bool → SortSt → Prop} (hO : κ.OneLt) (hk : kindOf st = oneType') (ka : ∀ x ∈ (arrOf st).toList,Kd κ x) (hi : i < (arrOf st).size) (hj : j < (arrOf st).size) (q : Q (some (κ.blt (KK κ (arrOf st) i) (KK κ (arrOf st) j))) st) : wpS (model prog w) A E s (ltAt' i j) Q st:=by
 obtain ⟨x,ex⟩:=Jq hi
 obtain ⟨y,ey⟩:=Jq hj
 rw [J4u ex,J4u ey] at q
 rw [ltAt'_eq]
 exact wpS_bind (wpS_get (wpS_bind (Jt ex (wpS_bind (Jt ey (J2N hO hk (ka _ (J0l ex)) (ka _ (J0l ey)) q))))))
theorem J3n {i j : Nat} {st : SortSt} {Q : Unit → SortSt → Prop} (q : Q () (setArr st (mirror (arrOf st) i j ((j - i) / 2)))) : wpS (model prog w) A E s (reverseSlice' i j) Q st:=by
 rw [reverseSlice'_eq]
 exact wpS_modify q
noncomputable def goUp (b n0 n1 : Nat) : SM (Option Nat):=do
 let mut m:=n0
 for _ in [m:n1] do
  let some lt1 ← ltAt' (b + m) (b + m - 1) | return none
  if lt1 then break
  m:=m + 1
 return some m
noncomputable def goDn (b n0 n1 : Nat) : SM (Option Nat):=do
 rule "list.sort.descending-run"
 let mut m:=n0 + 1
 let mut q:=0
 for _ in [m:n1] do
  let some lt1 ← ltAt' (b + m) (b + m - 1) | return none
  if lt1 then
   if q > 0 then reverseSlice' (b + m - (q + 1)) (b + m)
   q:=0
  else
   let some gt1 ← ltAt' (b + m - 1) (b + m) | return none
   if gt1 then break
   q:=q + 1
  m:=m + 1
 if q > 0 then reverseSlice' (b + m - (q + 1)) (b + m)
 reverseSlice' b (b + m)
 for _ in [m:n1] do
  let some lt1 ← ltAt' (b + m) (b + m - 1) | return none
  if lt1 then break
  m:=m + 1
 return some m
theorem J8v {b n0 n1 : Nat} {st : SortSt} {Q : Option Nat → SortSt → Prop} (hO : κ.OneLt) (hk : kindOf st = oneType') (ka : ∀ x ∈ (arrOf st).toList,Kd κ x) (hb : b + n1 ≤ (arrOf st).size) (h0 : 1 ≤ n0) (h1 : n0 ≤ n1) (u : Up κ (arrOf st) b n0)
  (q : ∀ m,n0 ≤ m → m ≤ n1 → Up κ (arrOf st) b m → Q (some m) st) : wpS (model prog w) A E s (goUp b n0 n1) Q st:=by
 unfold goUp
 refine wpS_bind (wpS_mono (wpS_forRange (I:=fun x c st'=>st' = st ∧ c = (none,x) ∧ Up κ (arrOf st) b x) (Q:=fun c st'=>st' = st ∧ ∃ m,c = (none,m) ∧ n0 ≤ m ∧ m ≤ n1 ∧ Up κ (arrOf st) b m) ?_ ?_ ⟨rfl,rfl,u⟩) ?_)
 ·rintro x c st' hx1 hx2 ⟨rfl,rfl,ux⟩
  dsimp only
  refine wpS_bind (J2a hO hk ka (by omega) (by omega) ?_)
  dsimp only
  cases hl : κ.blt (KK κ (arrOf st') (b + x)) (KK κ (arrOf st') (b + x - 1))
  ·rw [if_neg Bool.false_ne_true]
   exact wpS_pure ⟨rfl,rfl,ux.more (by omega) hl⟩
  ·rw [if_pos rfl]
   exact wpS_pure ⟨rfl,x,rfl,hx1,by omega,ux⟩
 ·rintro c st' ⟨rfl,rfl,ux⟩
  rw [show max n0 n1 = n1 by omega] at ux ⊢
  exact ⟨rfl,n1,rfl,h1,Nat.le_refl _,ux⟩
 ·rintro c st' ⟨rfl,m,rfl,m1,m2,um⟩
  exact wpS_pure (q m m1 m2 um)
theorem J5O {b n0 n1 : Nat} {st : SortSt} {Q : Option Nat → SortSt → Prop} (hO : κ.OneLt) (hk : kindOf st = oneType') (ka : ∀ x ∈ (arrOf st).toList,Kd κ x) (hb : b + n1 ≤ (arrOf st).size) (h1 : n0 + 1 ≤ n1) (u : Dn κ (arrOf st) b (n0 + 1))
  (q : ∀ m st',StR st st' b (b + n1) → 1 ≤ m → m ≤ n1 → Up κ (arrOf st') b m → Q (some m) st') : wpS (model prog w) A E s (goDn b n0 n1) Q st:=by
 have kp : ∀ {st'},StR st st' b (b + n1) → kindOf st' = oneType' ∧ (∀ x ∈ (arrOf st').toList,Kd κ x) ∧ (arrOf st').size = (arrOf st).size:=fun h=>⟨h.k.trans hk,fun x hx=>ka x (h.perm.subset hx),h.size⟩
 unfold goDn
 refine wpS_bind (wpS_lift (wpAny_rule ⟨rfl,?_⟩))
 refine wpS_bind (wpS_mono (wpS_forRange
  (I:=fun x c st'=>StR st st' b (b + n1) ∧ ∃ e,c = (none,x,e) ∧ Dn κ (arrOf st') b x ∧ e + 1 ≤ x ∧ ∀ i,b + x - (e + 1) ≤ i → i < b + x → KK κ (arrOf st') i = KK κ (arrOf st') (b + x - 1))
  (Q:=fun c st'=>StR st st' b (b + n1) ∧ ∃ m e,c = (none,m,e) ∧ n0 + 1 ≤ m ∧ m ≤ n1 ∧ Dn κ (arrOf st') b m ∧ e + 1 ≤ m ∧ ∀ i,b + m - (e + 1) ≤ i → i < b + m → KK κ (arrOf st') i = KK κ (arrOf st') (b + m - 1)) ?_ ?_ ⟨StR.refl _ _ _,0,rfl,u,by omega,fun i a1 a2=>by rw [show i = b + (n0 + 1) - 1 by omega]⟩) ?_)
 ·rintro x c st' hx1 hx2 ⟨hS,e,rfl,d,e1,eq⟩
  obtain ⟨k1,k2,k3⟩:=kp hS
  dsimp only
  refine wpS_bind (J2a hO k1 k2 (by omega) (by omega) ?_)
  dsimp only
  cases hl : κ.blt (KK κ (arrOf st') (b + x)) (KK κ (arrOf st') (b + x - 1))
  ·rw [if_neg Bool.false_ne_true]
   refine wpS_bind (J2a hO k1 k2 (by omega) (by omega) ?_)
   dsimp only
   cases hg : κ.blt (KK κ (arrOf st') (b + x - 1)) (KK κ (arrOf st') (b + x))
   ·rw [if_neg Bool.false_ne_true]
    have ex : KK κ (arrOf st') (b + x) = KK κ (arrOf st') (b + x - 1):=KeyOrd.kle_antisymm hg hl
    refine wpS_pure ⟨hS,e + 1,rfl,d.more (by omega) hg,by omega,fun i a1 a2=>?_⟩
    rw [show b + (x + 1) - 1 = b + x by omega]
    by_cases c : i = b + x
    ·rw [c]
    ·rw [ex]; exact eq i (by omega) (by omega)
   ·rw [if_pos rfl]
    exact wpS_pure ⟨hS,x,e,rfl,hx1,by omega,d,e1,eq⟩
  ·rw [if_pos rfl]
   have nx : ∀ xs : Array Keyed,(∀ k,KK κ xs k = KK κ (arrOf st') k) → Dn κ xs b (x + 1):=fun xs hx i j hij hj=>by
    rw [hx,hx]
    exact d.more (by omega) (KeyOrd.kle_of_klt hl) i j hij hj
   by_cases ce : e > 0
   ·rw [if_pos ce]
    refine wpS_bind (J3n (wpS_pure ⟨hS.trans (StR.mir (by omega) (by omega) (by omega)),0,rfl,nx _ (J2K (by omega) eq),by omega,fun i a1 a2=>by rw [show i = b + (x + 1) - 1 by omega]⟩))
   ·rw [if_neg ce]
    exact wpS_pure ⟨hS,0,rfl,nx _ (fun _=>rfl),by omega,fun i a1 a2=>by rw [show i = b + (x + 1) - 1 by omega]⟩
 ·rintro c st' ⟨hS,e,rfl,d,e1,eq⟩
  rw [show max (n0 + 1) n1 = n1 by omega] at d e1 eq ⊢
  exact ⟨hS,n1,e,rfl,h1,Nat.le_refl _,d,e1,eq⟩
 ·rintro c st' ⟨hS,m,e,rfl,m1,m2,d,e1,eq⟩
  have rest : ∀ st2,StR st st2 b (b + n1) → Dn κ (arrOf st2) b m → wpS (model prog w) A E s (do
    reverseSlice' b (b + m)
    goUp b m n1) Q st2:=fun st2 h2 d2=>by
   obtain ⟨k1,k2,k3⟩:=kp h2
   refine wpS_bind (J3n ?_)
   have h3 : StR st (setArr st2 (mirror (arrOf st2) b (b + m) ((b + m - b) / 2))) b (b + n1):=h2.trans (StR.mir (Nat.le_refl _) (by omega) (by omega))
   obtain ⟨q1,q2,q3⟩:=kp h3
   refine J8v hO q1 q2 (by omega) (by omega) m2 (fun i j hij hj=>?_) fun m' a1 a2 a3=>q m' _ h3 (by omega) a2 a3
   show κ.kle (KK κ (mirror (arrOf st2) b (b + m) ((b + m - b) / 2)) (b + i)) (KK κ (mirror (arrOf st2) b (b + m) ((b + m - b) / 2)) (b + j))
   rw [J6g (by omega),J6g (by omega),if_pos (by omega),if_pos (by omega)]
   have:=d2 (m - 1 - j) (m - 1 - i) (by omega) (by omega)
   rw [show b + (m - 1 - j) = b + (b + m) - 1 - (b + j) by omega,show b + (m - 1 - i) = b + (b + m) - 1 - (b + i) by omega] at this
   exact this
  obtain ⟨k1,k2,k3⟩:=kp hS
  dsimp only
  by_cases ce : e > 0
  ·rw [if_pos ce]
   refine wpS_bind (J3n ?_)
   have h3 : StR st (setArr st' (mirror (arrOf st') (b + m - (e + 1)) (b + m) ((b + m - (b + m - (e + 1))) / 2))) b (b + n1):=hS.trans (StR.mir (by omega) (by omega) (by omega))
   exact rest _ h3 fun i j hij hj=>by
    show κ.kle (KK κ (mirror (arrOf st') _ _ _) (b + j)) (KK κ (mirror (arrOf st') _ _ _) (b + i))
    rw [J2K (by omega) eq,J2K (by omega) eq]
    exact d i j hij hj
  ·rw [if_neg ce]
   exact rest st' hS d
theorem J5B {b n1 : Nat} {st : SortSt} {Q : Option Nat → SortSt → Prop} (hO : κ.OneLt) (hk : kindOf st = oneType') (ka : ∀ x ∈ (arrOf st).toList,Kd κ x) (hb : b + n1 ≤ (arrOf st).size) (h1 : 1 ≤ n1)
  (q : ∀ m st',StR st st' b (b + n1) → 1 ≤ m → m ≤ n1 → Up κ (arrOf st') b m → Q (some m) st') : wpS (model prog w) A E s (countRun' b n1) Q st:=by
 rw [countRun'_eq]
 refine wpS_bind (wpS_mono (wpS_forRange (I:=fun x c st'=>st' = st ∧ c = (none,x) ∧ Up κ (arrOf st) b x) (Q:=fun c st'=>st' = st ∧ ∃ m,c = (none,m) ∧ 1 ≤ m ∧ m ≤ n1 ∧ Up κ (arrOf st) b m ∧ (m = n1 ∨ κ.klt (KK κ (arrOf st) (b + m)) (KK κ (arrOf st) (b + m - 1)))) ?_ ?_ ⟨rfl,rfl,Up.one b⟩) ?_)
 ·rintro x c st' hx1 hx2 ⟨rfl,rfl,ux⟩
  dsimp only
  refine wpS_bind (J2a hO hk ka (by omega) (by omega) ?_)
  dsimp only
  cases hl : κ.blt (KK κ (arrOf st') (b + x)) (KK κ (arrOf st') (b + x - 1))
  ·rw [if_neg Bool.false_ne_true]
   exact wpS_pure ⟨rfl,rfl,ux.more (by omega) hl⟩
  ·rw [if_pos rfl]
   exact wpS_pure ⟨rfl,x,rfl,hx1,by omega,ux,.inr hl⟩
 ·rintro c st' ⟨rfl,rfl,ux⟩
  rw [show max 1 n1 = n1 by omega] at ux ⊢
  exact ⟨rfl,n1,rfl,h1,Nat.le_refl _,ux,.inl rfl⟩
 ·rintro c st' ⟨rfl,m,rfl,m1,m2,um,or⟩
  dsimp only
  by_cases c1 : m = n1
  ·rw [if_pos (by simpa using c1)]
   exact wpS_pure (q m st' (StR.refl _ _ _) m1 m2 um)
  ·rw [if_neg (by simpa using c1)]
   have hl : κ.klt (KK κ (arrOf st') (b + m)) (KK κ (arrOf st') (b + m - 1)):=or.resolve_left c1
   by_cases c2 : m > 1
   ·rw [if_pos c2]
    refine wpS_bind (J2a hO hk ka (by omega) (by omega) ?_)
    dsimp only
    cases hr : κ.blt (KK κ (arrOf st') b) (KK κ (arrOf st') (b + m - 1))
    ·rw [if_neg Bool.false_ne_true]
     refine wpS_bind (J3n ?_)
     have fl : ∀ k,b ≤ k → k < b + m → KK κ (arrOf st') k = KK κ (arrOf st') (b + m - 1):=fun k a1 a2=>by
      have x1:=um 0 (k - b) (by omega) (by omega)
      have x2:=um (k - b) (m - 1) (by omega) (by omega)
      rw [show b + (k - b) = k by omega] at x1 x2
      rw [show b + (m - 1) = b + m - 1 by omega] at x2
      exact KeyOrd.kle_antisymm x2 (KeyOrd.kle_trans (show κ.kle (KK κ (arrOf st') (b + m - 1)) (KK κ (arrOf st') b) from hr) x1)
     have h3 : StR st' (setArr st' (mirror (arrOf st') b (b + m) ((b + m - b) / 2))) b (b + n1):=StR.mir (Nat.le_refl _) (by omega) (by omega)
     show wpS _ _ _ _ (goDn b m n1) Q _
     refine J5O hO (h3.k.trans hk) (fun x hx=>ka x (h3.perm.subset hx)) (by rw [h3.size]; exact hb) (by omega) (fun i j hij hj=>?_) fun m' st2 a1 a2 a3 a4=>q m' st2 (h3.trans a1) a2 a3 a4
     show κ.kle (KK κ (mirror (arrOf st') _ _ _) (b + j)) (KK κ (mirror (arrOf st') _ _ _) (b + i))
     rw [J2K (by omega) fl,J2K (by omega) fl]
     by_cases cj : j < m
     ·rw [fl (b + i) (by omega) (by omega),fl (b + j) (by omega) (by omega)]
      exact KeyOrd.kle_refl _
     ·have ej : j = m:=by omega
      subst ej
      by_cases ci : i = j
      ·rw [ci]; exact KeyOrd.kle_refl _
      ·rw [fl (b + i) (by omega) (by omega)]
       exact KeyOrd.kle_of_klt hl
    ·rw [if_pos rfl]
     exact wpS_pure (q m st' (StR.refl _ _ _) m1 m2 um)
   ·rw [if_neg c2]
    have em : m = 1:=by omega
    subst em
    show wpS _ _ _ _ (goDn b 1 n1) Q _
    refine J5O hO hk ka hb (by omega) (fun i j hij hj=>?_) q
    by_cases ci : i = j
    ·rw [ci]; exact KeyOrd.kle_refl _
    ·rw [show i = 0 by omega,show j = 1 by omega]
     exact KeyOrd.kle_of_klt hl
end
section
variable {prog : Program} {w : World} {A : Around} {E : Value → Shared → Prop} {s : Shared} {κ : PyProof.Rows.KeyKind}
theorem StR.bub {st : SortSt} {l r i d : Nat} (h1 : l ≤ i - d) (h2 : i < r) (hi : i < (arrOf st).size) (hd : d ≤ i) : StR st (setArr st (bubble (arrOf st) i d)) l r :=
 ⟨rfl,rfl,rfl,Array.perm_iff_toList_perm.mp (bubble_perm _ _ _),fun k hk=>by
  show (bubble (arrOf st) i d)[k]? = _
  rw [getElem?_bubble hi d hd,if_neg (by omega),if_neg (by omega)]⟩
theorem J6U {b n ok : Nat} {st : SortSt} {Q : Bool → SortSt → Prop} (hO : κ.OneLt) (hk : kindOf st = oneType') (ka : ∀ x ∈ (arrOf st).toList,Kd κ x) (hb : b + n ≤ (arrOf st).size) (h0 : 1 ≤ ok) (h1 : ok ≤ n) (u : Up κ (arrOf st) b ok)
  (q : ∀ st',StR st st' b (b + n) → Up κ (arrOf st') b n → Q true st') : wpS (model prog w) A E s (binarySort' b n ok) Q st:=by
 rw [binarySort'_eq,show max ok 1 = ok by omega]
 refine wpS_bind (wpS_mono (wpS_forRange (I:=fun k c st'=>c = (none,()) ∧ StR st st' b (b + n) ∧ Up κ (arrOf st') b k) (Q:=fun c st'=>c = (none,()) ∧ StR st st' b (b + n) ∧ Up κ (arrOf st') b n) ?_ ?_ ⟨rfl,StR.refl _ _ _,u⟩) ?_)
 ·rintro k c st' hk1 hk2 ⟨rfl,hS,uk⟩
  have k1 : kindOf st' = oneType':=hS.k.trans hk
  have k2 : ∀ x ∈ (arrOf st').toList,Kd κ x:=fun x hx=>ka x (hS.perm.subset hx)
  have k3:=hS.size
  refine wpS_bind (wpS_mono (wpS_forRange
   (I:=fun x c st2=>st2 = st' ∧ ∃ l r,c = (none,l,r) ∧ l ≤ r ∧ r ≤ k ∧ r - l ≤ k - x ∧ (∀ i,i < l → κ.kle (KK κ (arrOf st') (b + i)) (KK κ (arrOf st') (b + k))) ∧ ∀ i,r ≤ i → i < k → κ.klt (KK κ (arrOf st') (b + k)) (KK κ (arrOf st') (b + i)))
   (Q:=fun c st2=>st2 = st' ∧ ∃ l r,c = (none,l,r) ∧ l ≤ k ∧ (∀ i,i < l → κ.kle (KK κ (arrOf st') (b + i)) (KK κ (arrOf st') (b + k))) ∧ ∀ i,l ≤ i → i < k → κ.klt (KK κ (arrOf st') (b + k)) (KK κ (arrOf st') (b + i))) ?_ ?_ ⟨rfl,0,k,rfl,by omega,by omega,by omega,fun i hi=>by omega,fun i a1 a2=>by omega⟩) ?_)
  ·rintro x c st2 _ hx ⟨rfl,l,r,rfl,a1,a2,a3,a4,a5⟩
   dsimp only
   by_cases cg : l ≥ r
   ·rw [if_pos cg]
    have e : l = r:=by omega
    subst e
    exact wpS_pure ⟨rfl,l,l,rfl,a2,a4,a5⟩
   ·rw [if_neg cg]
    refine wpS_bind (J2a hO k1 k2 (by omega) (by omega) ?_)
    dsimp only
    cases hl : κ.blt (KK κ (arrOf st2) (b + k)) (KK κ (arrOf st2) (b + (l + r) / 2))
    ·rw [if_neg Bool.false_ne_true]
     exact wpS_pure ⟨rfl,_,r,rfl,by omega,by omega,by omega,fun i hi=>KeyOrd.kle_trans (uk i ((l + r) / 2) (by omega) (by omega)) hl,a5⟩
    ·rw [if_pos rfl]
     exact wpS_pure ⟨rfl,l,_,rfl,by omega,by omega,by omega,a4,fun i b1 b2=>KeyOrd.klt_of_klt_of_kle hl (uk _ i b1 b2)⟩
  ·rintro c st2 ⟨rfl,l,r,rfl,a1,a2,a3,a4,a5⟩
   have e : l = r:=by omega
   subst e
   exact ⟨rfl,l,l,rfl,a2,a4,a5⟩
  ·rintro c st2 ⟨rfl,l,r,rfl,a2,a4,a5⟩
   show wpS _ _ _ _ (moveDown' (b + k) (b + l) >>= fun _=>pure (ForInStep.yield (none,()))) _ _
   rw [moveDown'_eq]
   have hsz : b + k < (arrOf st2).size:=by omega
   have ed : b + k - (b + l) = k - l:=by omega
   rw [ed]
   refine wpS_bind (wpS_modify (wpS_pure ⟨rfl,hS.trans (StR.bub (by omega) (by omega) hsz (by omega)),fun i j hij hj=>?_⟩))
   have kb : ∀ z,KK κ (bubble (arrOf st2) (b + k) (k - l)) (b + z) = if z = l then KK κ (arrOf st2) (b + k) else if l < z ∧ z ≤ k then KK κ (arrOf st2) (b + (z - 1)) else KK κ (arrOf st2) (b + z):=fun z=>by
    rw [KK_bubble hsz (by omega)]
    by_cases c1 : z = l
    ·rw [if_pos c1,if_pos (by omega)]
    ·rw [if_neg c1,if_neg (by omega)]
     by_cases c2 : l < z ∧ z ≤ k
     ·rw [if_pos c2,if_pos (by omega),show b + z - 1 = b + (z - 1) by omega]
     ·rw [if_neg c2,if_neg (by omega)]
   show κ.kle (KK κ (bubble (arrOf st2) (b + k) (k - l)) (b + i)) (KK κ (bubble (arrOf st2) (b + k) (k - l)) (b + j))
   rw [kb,kb]
   repeat' split
   all_goals first
    | (exfalso; omega)
    | exact KeyOrd.kle_refl _
    | exact a4 _ (by omega)
    | exact KeyOrd.kle_of_klt (a5 _ (by omega) (by omega))
    | exact uk _ _ (by omega) (by omega)
 ·rintro c st' ⟨rfl,hS,uk⟩
  rw [show max ok n = n by omega] at uk
  exact ⟨rfl,hS,uk⟩
 ·rintro c st' ⟨rfl,hS,uk⟩
  exact wpS_pure (q st' hS uk)
noncomputable def J07 (κ : PyProof.Rows.KeyKind) (L : List Keyed) : List (Nat × Nat × Nat) → Nat → Nat → Prop
 | [],a,b=>a = b
 | (u,n,_) :: r,a,b=>u = a ∧ 1 ≤ n ∧ (seg L u n).Pairwise (leKy κ) ∧ J07 κ L r (u + n) b
theorem J07.le {L : List Keyed} : ∀ {ps : List (Nat × Nat × Nat)} {a b : Nat},J07 κ L ps a b → a + ps.length ≤ b
 | [],a,b,h=>Nat.le_of_eq h
 | (u,n,p) :: r,a,b,h=>by
  have:=J07.le h.2.2.2
  have:=h.1
  have:=h.2.1
  rw [List.length_cons]
  omega
theorem J07.app {L : List Keyed} : ∀ {xs ys : List (Nat × Nat × Nat)} {a b : Nat},J07 κ L (xs ++ ys) a b → ∃ c,J07 κ L xs a c ∧ J07 κ L ys c b
 | [],ys,a,b,h=>⟨a,rfl,h⟩
 | (u,n,p) :: xs,ys,a,b,h=>by
  obtain ⟨c,h1,h2⟩:=J07.app h.2.2.2
  exact ⟨c,⟨h.1,h.2.1,h.2.2.1,h1⟩,h2⟩
theorem J07.cat {L : List Keyed} : ∀ {xs ys : List (Nat × Nat × Nat)} {a c b : Nat},J07 κ L xs a c → J07 κ L ys c b → J07 κ L (xs ++ ys) a b
 | [],ys,a,c,b,h,h2=>by
  have e : a = c:=h
  subst e
  exact h2
 | (u,n,p) :: xs,ys,a,c,b,h,h2=>⟨h.1,h.2.1,h.2.2.1,J07.cat h.2.2.2 h2⟩
theorem J6I {L L' : List Keyed} {e u n : Nat} (h : L'.take e = L.take e) (hn : u + n ≤ e) : seg L' u n = seg L u n:=by
 have key : ∀ M : List Keyed,seg M u n = ((M.take e).drop u).take n:=fun M=>by
  unfold seg
  rw [List.drop_take,List.take_take,Nat.min_eq_left (by omega)]
 rw [key,key,h]
theorem J5G {L L' : List Keyed} {e u n : Nat} (h : L'.drop e = L.drop e) (hn : e ≤ u) : seg L' u n = seg L u n:=by
 have key : ∀ M : List Keyed,M.drop u = (M.drop e).drop (u - e):=fun M=>by rw [List.drop_drop,show e + (u - e) = u by omega]
 unfold seg
 rw [key L',key L,h]
theorem J07.of {L L' : List Keyed} : ∀ {ps : List (Nat × Nat × Nat)} {a b : Nat},J07 κ L ps a b → (∀ u n,a ≤ u → u + n ≤ b → seg L' u n = seg L u n) → J07 κ L' ps a b
 | [],_,_,h,_=>h
 | (u,n,p) :: r,a,b,h,hs=>by
  have h1:=h.1
  have h2:=J07.le h.2.2.2
  exact ⟨h.1,h.2.1,by rw [hs u n (by omega) (by omega)]; exact h.2.2.1,J07.of h.2.2.2 fun u' n' a1 a2=>hs u' n' (by omega) a2⟩
structure J1j (κ : PyProof.Rows.KeyKind) (a₀ : List Keyed) (st : SortSt) (e : Nat) : Prop where
 k : kindOf st = oneType'
 f : failedOf st = none
 perm : (arrOf st).toList.Perm a₀
 po : J07 κ (arrOf st).toList (pendingOf st).toList 0 e
 le : e ≤ (arrOf st).size
theorem J4o {α : Type} : ∀ (pre : List α) (x y z : α) (post : List α),((pre ++ x :: y :: post).set pre.length z).eraseIdx (pre.length + 1) = pre ++ z :: post
 | [],x,y,z,post=>rfl
 | p :: pre,x,y,z,post=>by
  show p :: (((pre ++ x :: y :: post).set pre.length z).eraseIdx (pre.length + 1)) = _
  rw [J4o pre x y z post]
  rfl
theorem J9G {α : Type} {l : List α} {i : Nat} (h : i + 1 < l.length) : ∃ pre x y post,l = pre ++ x :: y :: post ∧ pre.length = i:=by
 refine ⟨l.take i,l[i],l[i + 1],l.drop (i + 2),?_,by rw [List.length_take]; omega⟩
 rw [← List.drop_eq_getElem_cons (by omega),← List.drop_eq_getElem_cons (by omega),List.take_append_drop]
theorem J3L {a₀ : List Keyed} {e i : Nat} {st : SortSt} {Q : Bool → SortSt → Prop} (hO : κ.OneLt) (ka : ∀ x ∈ a₀,Kd κ x) (h : J1j κ a₀ st e) (hi : i + 1 < (pendingOf st).size)
  (q : ∀ st',J1j κ a₀ st' e → (pendingOf st').size + 1 = (pendingOf st).size → (arrOf st').toList.drop e = (arrOf st).toList.drop e → Q true st') : wpS (model prog w) A E s (mergeAt' i) Q st:=by
 obtain ⟨pre,⟨u,m,pw⟩,⟨v,n,pv⟩,post,el,ei⟩:=J9G (l:=(pendingOf st).toList) (i:=i) (by rw [Array.length_toList]; exact hi)
 have po:=h.po
 rw [el] at po
 obtain ⟨c,p1,p2⟩:=po.app
 obtain ⟨e1,m1,s1,e2,n1,s2,p3⟩:=p2
 subst e1
 have e2' : v = u + m:=e2
 subst e2'
 have le3:=p3.le
 have gl : ∀ j x,(pendingOf st).toList[j]? = some x → (pendingOf st)[j]? = some x:=fun j x hx=>by rwa [Array.getElem?_toList] at hx
 have le:=h.le
 refine J5R hO h.k h.f (fun x hx=>ka x (h.perm.subset hx)) (u:=u) (m:=m) (n:=n) (pw:=pw) (pv:=pv) (gl _ _ ?_) (gl _ _ ?_) m1 n1 (by omega) s1 s2 fun st' k1 k2 k3 ma=>?_
 ·rw [el,← ei,List.getElem?_append_right (Nat.le_refl _),Nat.sub_self]
  rfl
 ·rw [el,← ei,List.getElem?_append_right (by omega),show pre.length + 1 - pre.length = 1 by omega]
  rfl
 ·have tl : (pendingOf st').toList = pre ++ (u,m + n,pw) :: post:=by
   rw [k3]
   have : (((pendingOf st).setIfInBounds i (u,m + n,pw)).eraseIdxIfInBounds (i + 1)).toList = ((pendingOf st).toList.set i (u,m + n,pw)).eraseIdx (i + 1):=by simp
   rw [this,el,← ei,J4o]
  have sz : (pendingOf st').size + 1 = (pendingOf st).size:=by
   rw [← Array.length_toList,← Array.length_toList,tl,el]
   simp
   omega
  have len : (arrOf st').size = (arrOf st).size:=by
   have:=ma.perm.length_eq
   rwa [Array.length_toList,Array.length_toList] at this
  have dr : ∀ z,u + (m + n) ≤ z → (arrOf st').toList.drop z = (arrOf st).toList.drop z:=fun z hz=>by
   have:=congrArg (List.drop (z - (u + (m + n)))) ma.post
   rwa [List.drop_drop,List.drop_drop,show u + (m + n) + (z - (u + (m + n))) = z by omega] at this
  refine q st' ⟨k1,k2,ma.perm.trans h.perm,?_,by omega⟩ sz (dr e (by omega))
  rw [tl]
  refine (p1.of fun u' n' a1 a2=>J6I ma.pre a2).cat ⟨rfl,by omega,ma.srt,?_⟩
  rw [show u + (m + n) = u + m + n by omega]
  exact p3.of fun u' n' a1 a2=>J5G (dr (u + m + n) (by omega)) a1
end
section
variable {prog : Program} {w : World} {A : Around} {E : Value → Shared → Prop} {s : Shared} {κ : PyProof.Rows.KeyKind}
theorem J07.mod {L : List Keyed} {g : Nat} : ∀ {ps : List (Nat × Nat × Nat)} {i a b : Nat},J07 κ L ps a b → J07 κ L (ps.modify i fun x=>(x.fst,x.2.fst,g)) a b
 | [],i,a,b,h=>by cases i <;> exact h
 | (u,n,p) :: r,0,a,b,h=>h
 | (u,n,p) :: r,i + 1,a,b,h=>⟨h.1,h.2.1,h.2.2.1,J07.mod h.2.2.2⟩
theorem J1j.push {a₀ : List Keyed} {st : SortSt} {lo n : Nat} (S : J1j κ a₀ st lo) (h1 : 1 ≤ n) (h2 : lo + n ≤ (arrOf st).size) (h3 : (seg (arrOf st).toList lo n).Pairwise (leKy κ)) : J1j κ a₀ (setPending st ((pendingOf st).push (lo,n,0))) (lo + n) :=
 ⟨S.k,S.f,S.perm,by
  show J07 κ (arrOf st).toList ((pendingOf st).push (lo,n,0)).toList 0 (lo + n)
  rw [Array.toList_push]
  exact S.po.cat ⟨rfl,h1,h3,rfl⟩,h2⟩
theorem StR.runs {a₀ : List Keyed} {st st' : SortSt} {lo r : Nat} (S : J1j κ a₀ st lo) (h : StR st st' lo r) : J1j κ a₀ st' lo:=by
 refine ⟨h.k.trans S.k,h.f.trans S.f,h.perm.trans S.perm,?_,by rw [h.size]; exact S.le⟩
 rw [h.p]
 have e : (arrOf st').toList.take lo = (arrOf st).toList.take lo:=by
  refine List.ext_getElem? fun j=>?_
  rw [List.getElem?_take,List.getElem?_take]
  split
  ·rw [Array.getElem?_toList,Array.getElem?_toList]
   exact h.out j (.inl (by assumption))
  ·rfl
 exact S.po.of fun u n _ hn=>J6I e hn
theorem J5X {st : SortSt} {Q : Unit → SortSt → Prop} (hO : κ.OneLt) (ka : ∀ x ∈ (arrOf st).toList,Kd κ x) (hk : kindOf st = oneType') (hf : failedOf st = none) (hp : pendingOf st = #[]) (h2 : 2 ≤ (arrOf st).size)
  (q : ∀ st',(arrOf st').toList.Perm (arrOf st).toList → failedOf st' = none → (arrOf st').toList.Pairwise (leKy κ) → Q () st') : wpS (model prog w) A E s sortRuns' Q st:=by
 rw [sortRuns'_eq]
 refine wpS_bind (wpS_get ?_)
 dsimp only
 have S0 : J1j κ (arrOf st).toList st 0:=⟨hk,hf,List.Perm.refl _,by rw [hp]; rfl,Nat.zero_le _⟩
 obtain ⟨size,es⟩ : ∃ z,z = (arrOf st).size:=⟨_,rfl⟩
 rw [← es] at h2 ⊢
 have sz : ∀ {st' e},J1j κ (arrOf st).toList st' e → (arrOf st').size = size:=fun h=>by
  have:=h.perm.length_eq
  rwa [Array.length_toList,Array.length_toList,← es] at this
 refine wpS_bind (wpS_mono (wpS_forRange (I:=fun x c st'=>∃ lo,c = (none,lo) ∧ J1j κ (arrOf st).toList st' lo ∧ x ≤ lo) (Q:=fun c st'=>∃ lo,c = (none,lo) ∧ J1j κ (arrOf st).toList st' size) ?step ?fin ⟨0,rfl,S0,Nat.le_refl _⟩) ?post)
 case fin =>
  rintro c st' ⟨lo,rfl,S,hl⟩
  have:=S.le
  rw [sz S] at this
  have e : lo = size:=by omega
  subst e
  exact ⟨_,rfl,S⟩
 case step =>
  rintro x c st' _ hx ⟨lo,rfl,S,hl⟩
  dsimp only
  have sl:=S.le
  have zz:=sz S
  have ka' : ∀ x ∈ (arrOf st').toList,Kd κ x:=fun x hx=>ka x (S.perm.subset hx)
  by_cases cl : lo ≥ size
  ·rw [if_pos cl]
   have e : lo = size:=by omega
   subst e
   exact wpS_pure ⟨_,rfl,S⟩
  rw [if_neg cl]
  refine wpS_bind (J5B hO S.k ka' (by omega) (by omega) fun m st2 R2 m1 m2 u2=>?_)
  dsimp only
  have S2:=R2.runs S
  have z2:=R2.size
  by_cases cm : m < minRun' size size 0
  case' pos =>
   rw [if_pos cm]
   refine wpS_bind (wpS_lift (wpAny_rule ⟨rfl,?_⟩))
   refine wpS_bind (J6U hO S2.k (fun x hx=>ka x (S2.perm.subset hx)) (by omega) m1 (by omega) u2 fun st3 R3 u3=>?_)
   rw [if_neg (by decide)]
   have S3:=R3.runs S2
   have h1 : 1 ≤ min (size - lo) (minRun' size size 0):=by omega
   have h2 : lo + min (size - lo) (minRun' size size 0) ≤ (arrOf st3).size:=by rw [R3.size]; omega
   have h3:=u3.seg
   clear R3 u3 cm
   generalize min (size - lo) (minRun' size size 0) = n at h1 h2 h3 ⊢
  case' neg =>
   rw [if_neg cm]
   have S3:=S2
   have h1:=m1
   have h2 : lo + m ≤ (arrOf st2).size:=by omega
   have h3:=u2.seg
   clear u2 R2 S2 cm
   generalize st2 = st3 at S3 h2 h3 ⊢
   generalize m = n at h1 h2 h3 ⊢
  all_goals
    refine wpS_bind (wpS_get ?_)
    cases hb : (pendingOf st3).back? with
    | none=>exact wpS_bind (wpS_modify (wpS_pure ⟨_,rfl,S3.push h1 h2 h3,by omega⟩))
    | some z =>
     obtain ⟨s1,n1,p1⟩:=z
     dsimp only
     have keep : ∀ {st'},J1j κ (arrOf st).toList st' lo → (arrOf st').toList.drop lo = (arrOf st3).toList.drop lo → lo + n ≤ (arrOf st').size ∧ (seg (arrOf st').toList lo n).Pairwise (leKy κ):=fun {st'} S' e=>by
      have l1:=S'.perm.length_eq
      have l2:=S3.perm.length_eq
      rw [Array.length_toList] at l1 l2
      exact ⟨by omega,by rw [J5G e (Nat.le_refl _)]; exact h3⟩
     refine wpS_bind (wpS_mono (wpS_forRange (I:=fun _ c st'=>c = (none,()) ∧ J1j κ (arrOf st).toList st' lo ∧ (arrOf st').toList.drop lo = (arrOf st3).toList.drop lo) (Q:=fun c st'=>c = (none,()) ∧ J1j κ (arrOf st).toList st' lo ∧ (arrOf st').toList.drop lo = (arrOf st3).toList.drop lo) ?_ (fun c st' h=>h) ⟨rfl,S3,rfl⟩) ?_)
     ·rintro x c st' _ _ ⟨rfl,S',e'⟩
      refine wpS_bind (wpS_get ?_)
      by_cases c1 : (pendingOf st').size > 1
      ·rw [if_pos c1]
       cases hg : (pendingOf st')[(pendingOf st').size - 2]? with
       | none=>exact wpS_pure ⟨rfl,S',e'⟩
       | some y =>
        obtain ⟨y1,y2,y3⟩:=y
        dsimp only
        split
        ·exact wpS_pure ⟨rfl,S',e'⟩
        ·refine wpS_bind (J3L hO ka S' (by omega) fun st2 S2 _ d2=>?_)
         rw [if_neg (by decide)]
         exact wpS_pure ⟨rfl,S2,d2.trans e'⟩
      ·rw [if_neg c1]
       exact wpS_pure ⟨rfl,S',e'⟩
     ·rintro c st' ⟨rfl,S',e'⟩
      obtain ⟨k1,k2⟩:=keep S' e'
      dsimp only
      refine wpS_bind (wpS_modify (wpS_bind (wpS_modify (wpS_pure ⟨_,rfl,?_,by omega⟩))))
      have S2 : J1j κ (arrOf st).toList (setPending st' ((pendingOf st').modify ((pendingOf st').size - 1) fun x=>(x.fst,x.2.fst,power' size (2 * s1 + n1) (2 * s1 + n1 + n1 + n) size))) lo:=⟨S'.k,S'.f,S'.perm,by
       show J07 κ (arrOf st').toList ((pendingOf st').modify _ _).toList 0 lo
       rw [Array.toList_modify]
       exact S'.po.mod,S'.le⟩
      exact S2.push h1 k1 k2
 case post =>
  rintro c st' ⟨lo,rfl,S⟩
  dsimp only
  have p1:=S.po.le
  rw [Array.length_toList] at p1
  refine wpS_bind (wpS_mono (wpS_forRange (I:=fun x c st'=>c = (none,()) ∧ J1j κ (arrOf st).toList st' size ∧ ((pendingOf st').size + x ≤ size ∨ (pendingOf st').size ≤ 1)) (Q:=fun c st'=>c = (none,()) ∧ J1j κ (arrOf st).toList st' size ∧ (pendingOf st').size ≤ 1) ?_ ?_ ⟨rfl,S,.inl (by omega)⟩) ?_)
  ·rintro x c st2 _ hx ⟨rfl,S2,hs⟩
   refine wpS_bind (wpS_get ?_)
   by_cases c1 : (pendingOf st2).size ≤ 1
   ·rw [if_pos c1]
    exact wpS_pure ⟨rfl,S2,c1⟩
   ·rw [if_neg c1]
    refine wpS_bind (J3L hO ka S2 ?_ fun st3 S3 z3 _=>?_)
    ·have hle : ∀ (c : Prop) [Decidable c],(if c then (pendingOf st2).size - 2 - 1 else (pendingOf st2).size - 2) ≤ (pendingOf st2).size - 2:=fun c _=>by split <;> omega
     exact Nat.lt_of_le_of_lt (Nat.succ_le_succ (hle _)) (by omega)
    ·rw [if_neg (by decide)]
     exact wpS_pure ⟨rfl,S3,by omega⟩
  ·rintro c st2 ⟨rfl,S2,hs⟩
   exact ⟨rfl,S2,by omega⟩
  ·rintro c st2 ⟨rfl,S2,hs⟩
   refine wpS_pure (q st2 S2.perm S2.f ?_)
   have po:=S2.po
   have zz:=sz S2
   cases hl : (pendingOf st2).toList with
   | nil =>
    rw [hl] at po
    have : 0 = size:=po
    omega
   | cons y r =>
    have : r = []:=by
     have e:=congrArg List.length hl
     rw [Array.length_toList,List.length_cons] at e
     exact List.length_eq_zero_iff.mp (by omega)
    subst this
    obtain ⟨u,n,p⟩:=y
    rw [hl] at po
    obtain ⟨e1,_,e2,e3⟩:=po
    subst e1
    have e3' : 0 + n = size:=e3
    have en : n = (arrOf st2).toList.length:=by rw [Array.length_toList]; omega
    unfold seg at e2
    rw [en,List.drop_zero,List.take_length] at e2
    exact e2
end
section
variable {prog : Program} {w : World} {A : Around} {E : Value → Shared → Prop} {s : Shared} {κ : PyProof.Rows.KeyKind}
theorem J4f (hO : κ.OneLt) {l : Addr} {us : List Value} {z : Nat} {F : Fin → Shared → Prop} (hl : s.heap.get? l = some (seqObj "list" us.toArray z)) (ks : KeysOf κ (pairsOf us))
  (one : ∀ x y r,us = x :: y :: r → keyKind' (x :: y :: r).toArray = pure oneType') (few : us.length ≤ 100000)
  (q : ∀ xs : Array Keyed,xs.Perm (pairsOf us) → xs.toList.Pairwise (leKy κ) → F (.done (.ret .none)) { s with heap:=sortedHeap s.heap l us (xs.map (·.2)) }) :
  wpAny (model prog w) A (Builtin.«list.sort» ⟨[.ref l],[]⟩) F E s:=by
 have lt : l < s.heap.objs.size:=Heap.lt_size hl
 have big : (100000 : Nat) ≤ sizeLine:=by decide
 obtain ⟨y1,hl1⟩ : ∃ y1,(s.heap.update l (Obj.mapSeq fun _=>#[])).get? l = some (seqObj "list" #[] y1):=⟨_,get?_update_seq hl fun _=>#[]⟩
 have hl2 : (((s.heap.update l (Obj.mapSeq fun _=>#[])).push (seqObj "tuple" us.toArray 0)).push (seqObj "list" #[] 0)).get? l = some (seqObj "list" #[] y1):=by
  have n1 : l ≠ (s.heap.update l (Obj.mapSeq fun _=>#[])).objs.size:=by rw [Heap.size_update]; exact Nat.ne_of_lt lt
  have n2 : l ≠ ((s.heap.update l (Obj.mapSeq fun _=>#[])).push (seqObj "tuple" us.toArray 0)).objs.size:=by rw [size_push',Heap.size_update]; exact Nat.ne_of_lt (Nat.lt_succ_of_lt lt)
  rw [Heap.get?_push_ne _ _ _ n2,Heap.get?_push_ne _ _ _ n1,hl1]
 rw [list_sort_plain]
 refine wpAny_bind (listItems_at hl rfl (wpAny_bind (listUpdate_at hl rfl (wpAny_bind (seqEpoch_at hl1 rfl (wpAny_bind (wpAny_newTuple (wpAny_bind (wpAny_newList (wpAny_holding ?_))))))))))
 dsimp only
 show wpAny (model prog w) A _ F E { s with heap:=((s.heap.update l (Obj.mapSeq fun _=>#[])).push (seqObj "tuple" us.toArray 0)).push (seqObj "list" #[] 0) }
 by_cases c : us.toArray.size < 2
 ·have c' : us.length < 2:=by simpa using c
  rw [if_pos c,if_pos c]
  refine wpAny_bind (wpAny_pure ?_)
  rw [StateT.run_pure]
  refine wpAny_bind (wpAny_pure (wpAny_bind (seqEpoch_at hl2 rfl (wpAny_bind (listUpdate_at hl2 rfl ?_ (hsz2:=?_))))))
  ·simp only [bne_self_eq_false,Bool.false_eq_true,if_false]
   refine wpAny_pure (q (us.toArray.zip us.toArray) (Array.Perm.refl _) ?_)
   have : (us.toArray.zip us.toArray).toList.length < 2:=by rw [Array.length_toList,Array.size_zip]; omega
   match h : (us.toArray.zip us.toArray).toList,this with
   | [],_=>exact .nil
   | [x],_=>exact List.pairwise_singleton _ _
   | _ :: _ :: _,hh=>exact absurd hh (by simp only [List.length_cons]; omega)
  ·have e : (us.toArray.zip us.toArray).size = us.length:=by rw [Array.size_zip]; simp
   rw [Array.size_map]
   show (us.toArray.zip us.toArray).size ≤ _
   omega
 ·rw [if_neg c,if_neg c]
  obtain ⟨x,y,r,rfl⟩ : ∃ x y r,us = x :: y :: r:=by
   match us,c with
   | [],c=>exact absurd (by simp) c
   | [_],c=>exact absurd (by simp) c
   | x :: y :: r,_=>exact ⟨x,y,r,rfl⟩
  rw [one _ _ _ rfl]
  refine wpAny_bind (wpAny_pure ?_)
  have kd : ∀ p ∈ (arrOf (SortSt.mk' oneType' ((x :: y :: r).toArray.zip (x :: y :: r).toArray) #[] 7 none)).toList,Kd κ p:=fun p hp=>ks p hp
  have s2 : 2 ≤ (arrOf (SortSt.mk' oneType' ((x :: y :: r).toArray.zip (x :: y :: r).toArray) #[] 7 none)).size:=by
   show 2 ≤ ((x :: y :: r).toArray.zip (x :: y :: r).toArray).size
   rw [Array.size_zip]
   simp
  refine wpAny_bind (wpAny_mono (J5X (κ:=κ) (Q:=fun _ t=>(arrOf t).toList.Perm ((x :: y :: r).toArray.zip (x :: y :: r).toArray).toList ∧ failedOf t = none ∧ (arrOf t).toList.Pairwise (leKy κ)) hO kd rfl rfl rfl s2 fun t b1 b2 b3=>⟨b1,b2,b3⟩) ?_ fun _ _ h=>h)
  rintro ⟨⟨⟩,t⟩ s' ⟨rfl,b1,b2,b3⟩
  have pm : (arrOf t).Perm (pairsOf (x :: y :: r)):=Array.perm_iff_toList_perm.mpr b1
  have ps : (arrOf t).size = (x :: y :: r).length:=pm.size_eq.trans (pairsOf_size _)
  dsimp only
  refine wpAny_bind (seqEpoch_at hl2 rfl (wpAny_bind (listUpdate_at hl2 rfl ?_ (hsz2:=?_))))
  ·rw [b2]
   simp only [bne_self_eq_false,Bool.false_eq_true,if_false]
   exact wpAny_pure (q (arrOf t) pm b3)
  ·rw [Array.size_map]
   show (arrOf t).size ≤ _
   omega
end
theorem J8r {us : List Value} {ss : List Str} (hS : StrsAre us ss) {xs : Array Keyed} (hp : xs.Perm (pairsOf us)) (hs : xs.toList.Pairwise (leKy strKind)) :
  ∃ ss',StrsAre (xs.map (·.2)).toList ss' ∧ ss'.Perm ss ∧ sortedS ss' = true:=by
 refine sorted_out_str hS hp fun i j hij hj=>?_
 rw [← hp.size_eq] at hj
 obtain ⟨x,ex⟩:=Jq (a:=xs) (i:=i) (by omega)
 obtain ⟨y,ey⟩:=Jq (a:=xs) (i:=j) hj
 rw [J4u ex,J4u ey]
 exact J23 hs hij (Jg ex) (Jg ey)
section
variable {X : Cx}
theorem J3Q : ∀ {us : List Value} {ws : List (List Nat)},Vals (ws.map T) us → StrsAre us (ws.map fun l=>(⟨l.toArray⟩ : Str))
 | _,[],h=>by cases h; exact .nil
 | _,l :: ws,h=>by
  cases h with
  | cons a b =>
   obtain ⟨t,rfl⟩:=a
   exact .cons _ t (J3Q b)
theorem J4g (hc : X.calm = true) : J1R X (.builtin "sorted") (fun xs H Q=>∃ (a : Addr) (ws : List (List Nat)),xs = [.ref a] ∧ H a = some (.lst (ws.map T)) ∧ ws.length ≤ 100000 ∧ ∀ D ss',H D = none → ss'.Perm (ws.map fun l=>(⟨l.toArray⟩ : Str)) → sortedS ss' = true → Q (.ref D) (upd H D (.lst (ss'.map V.str)))):=by
 intro pins s σ H xs us Q I r h
 obtain ⟨a,ws,rfl,ha,hl,q⟩:=h
 obtain ⟨u,rfl,ru⟩:=J6u r
 cases ru
 obtain ⟨z,its,n,rv,hln,e0⟩:=I.lstM ha
 have hS:=J3Q rv
 have lv : its.length = ws.length:=by rw [← hln,List.length_map]
 have big : (100000 : Nat) ≤ sizeLine:=by decide
 refine Calls.call_function_entry kind_sorted plain_sorted entry_sorted (args_sorted1 _) ?_
 unfold Builtin.«sorted»
 refine wpAny_bind (m:=checkCount "sorted" 1 1 _) (wpAny_pure ?_)
 have hil : s.heap.IsList a its.toArray:=⟨_,e0,rfl,n,rfl⟩
 refine wpAny_bind (collect_list hil ?_ (by omega))
 refine wpAny_bind (wpAny_newList ?_)
 have hz1 : ((s.heap.push (seqObj "list" #[] 0)).update s.heap.objs.size (Obj.mapSeq (· ++ its.toArray))).objs.size = s.heap.objs.size + 1:=by rw [Heap.size_update,size_push']
 show wpAny _ _ _ _ _ { s with heap:=((s.heap.push (seqObj "list" #[] 0)).update s.heap.objs.size (Obj.mapSeq (· ++ its.toArray))).push (seqObj "list" its.toArray 0) }
 have hoL : (((s.heap.push (seqObj "list" #[] 0)).update s.heap.objs.size (Obj.mapSeq (· ++ its.toArray))).push (seqObj "list" its.toArray 0)).get? (s.heap.objs.size + 1) = some (seqObj "list" its.toArray 0):=by
  have:=Heap.get?_push_size ((s.heap.push (seqObj "list" #[] 0)).update s.heap.objs.size (Obj.mapSeq (· ++ its.toArray))) (o:=seqObj "list" its.toArray 0) rfl
  rw [hz1] at this
  exact this
 rw [hz1]
 refine wpAny_bind (wpAny_holding (wpAny_call_entry slot_list_sort ⟨_,hoL,rfl⟩ entry_list_sort (J4f strKind_oneLt hoL hS.keysOf (fun v₁ v₂ rest e=>keyKind_strs (by rw [← e]; exact hS)) (by omega) fun arr a1 a2=>⟨_,rfl,?_⟩) (args_list_sort _)))
 refine wpAny_pure ⟨_,rfl,?_⟩
 obtain ⟨ss',b1,b2,b3⟩:=J8r hS a1 a2
 obtain ⟨e,he⟩:=sortedHeap_at (out:=arr.map (·.2)) hoL
 have hsz : s.heap.objs.size ≤ s.heap.objs.size + 1:=Nat.le_succ _
 have hfr : H (s.heap.objs.size + 1) = none:=I.hok.fresh hsz
 refine ⟨.ref (s.heap.objs.size + 1),_,I.laid (o:=.lst (ss'.map V.str)) (t':=s.toks) (fun b o eb=>?_) hsz ⟨?_,(arr.map (·.2)).toList,e,J4n b1,?_⟩,rfl,q _ ss' hfr b2 b3⟩
 ·exact sortedAll_old eb
 ·rw [List.length_map,b2.length_eq,List.length_map]
  omega
 ·rw [Array.toArray_toList]
  exact he
end
end L2
set_option linter.all false
set_option maxRecDepth 100000
set_option maxHeartbeats 4000000
namespace L2
open PySem PySem.Spec PyProof.Rows
section
variable {X : Cx}
noncomputable def rGeS : R2:=fun x y H Q=>∃ a b : List Nat,x = T a ∧ y = T b ∧ Q (.bl (!decide (a < b))) H
theorem J9I : OpR X (compareOp .GtE) rGeS:=by
 intro pins s σ H x y v u Q I rx ry h
 obtain ⟨a,b,rfl,rfl,q⟩:=h
 obtain ⟨t,rfl⟩:=rx
 obtain ⟨t',rfl⟩:=ry
 exact P.ge_str (Jv I q rfl)
theorem J9Y : PIp X .Mult (fun x y H Q=>∃ i j,x = .int i ∧ y = .int j ∧ CMul i j ∧ Q (.int (i * j)) H):=by
 intro pins s σ H x y v u Q I r1 r2 h
 obtain ⟨i,j,rfl,rfl,c,q⟩:=h
 obtain ⟨t,rfl⟩:=r1
 obtain ⟨t',rfl⟩:=r2
 exact PyProof.Rows.imul_int ⟨.int _,H,I.tok _,⟨_,rfl⟩,q⟩ c.ok
end
end L2
set_option maxHeartbeats 4000000
namespace K61
open PySem L2
noncomputable def top (i : Nat) : Stmt:=PySem.Challenge.pw_rotafair_k61_columns.main.body.getD i (.Pass ⟨0,0,0,0⟩)
noncomputable abbrev J0k : Stmt:=J2J (top 9) 0
noncomputable abbrev J0y : Stmt:=J2J (top 10) 0
noncomputable abbrev J0x : Stmt:=J2J (top 10) 1
noncomputable abbrev J06 : Stmt:=J2J (top 10) 2
noncomputable abbrev JN : Stmt:=J2J (top 10) 3
noncomputable abbrev J0j : Stmt:=top 12
noncomputable abbrev JW : Stmt:=top 7
noncomputable abbrev J0h : Stmt:=top 16
noncomputable abbrev J0i : Stmt:=top 17
noncomputable abbrev J0T : Stmt:=top 15
noncomputable abbrev J0d : Stmt:=top 19
noncomputable abbrev J0N : Stmt:=top 20
noncomputable abbrev J0p : Stmt:=top 21
noncomputable abbrev J0o : Stmt:=top 22
noncomputable abbrev J0w : Stmt:=top 23
noncomputable abbrev J0v : Stmt:=top 24
noncomputable abbrev J0O : Stmt:=top 25
noncomputable abbrev J0R : Stmt:=top 26
noncomputable abbrev J0P : Stmt:=top 27
noncomputable abbrev J0Q : Stmt:=top 28
noncomputable abbrev J0U : Stmt:=top 29
noncomputable abbrev J0g : Stmt:=top 30
noncomputable abbrev J0S : Stmt:=top 31
noncomputable abbrev J1t : Stmt:=top 32
theorem J3u : Jp ["self","name","skills","most","carried","past"] ["self","name","skills","most","carried","past"] (J4 J0k):=⟨rfl,rfl,rfl,by decide +kernel,rfl,by decide +kernel,by decide +kernel⟩
theorem J47 : Jp ["self","days","kinds","needs","persons","leave","wishes","rules","pairs"] ["self","days","kinds","needs","persons","leave","wishes","rules","pairs"] (J4 J0y):=⟨rfl,rfl,rfl,by decide +kernel,rfl,by decide +kernel,by decide +kernel⟩
theorem J0G : Jp ["self","day","kind","need_day","need_kind","least","most"] ["self","day","kind"] (J4 J0x):=⟨rfl,rfl,rfl,by decide +kernel,rfl,by decide +kernel,by decide +kernel⟩
theorem J1G : Jp ["self","p","day","person","able"] ["self","p","day"] (J4 J06):=⟨rfl,rfl,rfl,by decide +kernel,rfl,by decide +kernel,by decide +kernel⟩
theorem J11 : Jp ["self","name","p","person"] ["self","name"] (J4 JN):=⟨rfl,rfl,rfl,by decide +kernel,rfl,by decide +kernel,by decide +kernel⟩
theorem J3r : Jp ["word","mark","other"] ["word","mark","other"] (J4 J0j):=⟨rfl,rfl,rfl,by decide +kernel,rfl,by decide +kernel,by decide +kernel⟩
theorem J0Y : Jp ["rows","marks","longer","row"] ["rows","marks"] (J4 JW):=⟨rfl,rfl,rfl,by decide +kernel,rfl,by decide +kernel,by decide +kernel⟩
theorem J1u : Jp ["house","day","column","kind","need"] ["house","day","column"] (J4 J0h):=⟨rfl,rfl,rfl,by decide +kernel,rfl,by decide +kernel,by decide +kernel⟩
theorem J13 : Jp ["house","column","word","name","other"] ["house","column"] (J4 J0i):=⟨rfl,rfl,rfl,by decide +kernel,rfl,by decide +kernel,by decide +kernel⟩
theorem J0s : Jp ["house","day","choices","many","marks","found"] ["house","day"] (J4 J0T):=⟨rfl,rfl,rfl,by decide +kernel,rfl,by decide +kernel,by decide +kernel⟩
theorem J3x : Jp ["_law_script","_law_k"] ["_law_script","_law_k"] (J4 J0d):=⟨rfl,rfl,rfl,by decide +kernel,rfl,by decide +kernel,by decide +kernel⟩
theorem J1o : Jp ["_law_cell","_law_k","_law_number","_law_turn"] ["_law_cell","_law_k"] (J4 J0N):=⟨rfl,rfl,rfl,by decide +kernel,rfl,by decide +kernel,by decide +kernel⟩
theorem J2B : Jp ["_law_cell","_law_letters"] ["_law_cell"] (J4 J0p):=⟨rfl,rfl,rfl,by decide +kernel,rfl,by decide +kernel,by decide +kernel⟩
theorem J0u : Jp ["_law_cell","_law_many","_law_some","_law_stem","_law_k","_law_at"] ["_law_cell","_law_many"] (J4 J0o):=⟨rfl,rfl,rfl,by decide +kernel,rfl,by decide +kernel,by decide +kernel⟩
theorem J1f : Jp ["_law_number","_law_kinds_here","_law_found","_law_k"] ["_law_number","_law_kinds_here"] (J4 J0w):=⟨rfl,rfl,rfl,by decide +kernel,rfl,by decide +kernel,by decide +kernel⟩
theorem J0D : Jp ["_law_script","_law_k","_law_skills_here","_law_found","_law_p","_law_marks"] ["_law_script","_law_k","_law_skills_here"] (J4 J0v):=⟨rfl,rfl,rfl,by decide +kernel,rfl,by decide +kernel,by decide +kernel⟩
theorem J09 : Jp ["_law_cell","_law_day","_law_kinds_here","_law_column_here","_law_found","_law_k","_law_number","_law_many","_law_lower","_law_upper"] ["_law_cell","_law_day","_law_kinds_here","_law_column_here"] (J4 J0O):=⟨rfl,rfl,rfl,by decide +kernel,rfl,by decide +kernel,by decide +kernel⟩
theorem J08 : Jp ["_law_cell","_law_names_here","_law_found","_law_many","_law_k","_law_number","_law_one","_law_other"] ["_law_cell","_law_names_here"] (J4 J0R):=⟨rfl,rfl,rfl,by decide +kernel,rfl,by decide +kernel,by decide +kernel⟩
theorem J1H : Jp ["_law_cells","_law_names_here","_law_days","_law_found","_law_cell"] ["_law_cells","_law_names_here","_law_days"] (J4 J0P):=⟨rfl,rfl,rfl,by decide +kernel,rfl,by decide +kernel,by decide +kernel⟩
theorem J0L : Jp ["_law_house_of","_law_p","_law_day","_law_kinds_here","_law_needs_here","_law_names_here","_law_skills_here","_law_leave_here","_law_wanted"] ["_law_house_of","_law_p","_law_day"] (J4 J0Q):=⟨rfl,rfl,rfl,by decide +kernel,rfl,by decide +kernel,by decide +kernel⟩
theorem Jm : Jp ["_law_house_of","_law_pairs_here","_law_day","_law_column_here","_law_kinds_here","_law_needs_here","_law_names_here","_law_skills_here","_law_leave_here","_law_p","_law_at","_law_kind","_law_lower","_law_upper","_law_word","_law_name","_law_other","_law_one","_law_two"] ["_law_house_of","_law_pairs_here","_law_day","_law_column_here"] (J4 J0U):=⟨rfl,rfl,rfl,by decide +kernel,rfl,by decide +kernel,by decide +kernel⟩
theorem J1V : Jp ["_law_house","_law_day","e"] ["_law_house","_law_day"] (J4 J0g):=⟨rfl,rfl,rfl,by decide +kernel,rfl,by decide +kernel,by decide +kernel⟩
theorem J1I : Jp ["_law_found","_law_house_of","_law_pairs_here","_law_day","_law_tried","_law_k","_law_column_here"] ["_law_found","_law_house_of","_law_pairs_here","_law_day","_law_tried"] (J4 J0S):=⟨rfl,rfl,rfl,by decide +kernel,rfl,by decide +kernel,by decide +kernel⟩
theorem JJ : Jp ["_law_script","_law_cell","_law_kinds_here","_law_days","_law_many","_law_names_here","_law_skills_here","_law_drawn","_law_needs_here","_law_day","_law_leave_here","_law_pairs_here","_law_persons","_law_house","_law_house_of","_law_other","_law_ways","_law_p","_law_found","_law_kept"] ["_law_script"] (J4 J1t):=⟨rfl,rfl,rfl,by decide +kernel,rfl,by decide +kernel,by decide +kernel⟩
structure Tx (K : PySem.W.Frag) (mg : Str → Option Value) (J6 J1 J8 Jf Jh J5 : Addr) : Prop where
 J4a : MF K J6 "__init__" "Person.__init__" J0k
 J4I : MF K J1 "__init__" "House.__init__" J0y
 J4L : MF K J1 "need" "House.need" J0x
 J58 : MF K J1 "may" "House.may" J06
 J2R : MF K J1 "place_of" "House.place_of" JN
 J49 : GF K mg "breaks_pair" J0j
 J4c : GF K mg "longer_rows" JW
 J42 : GF K mg "meets_needs" J0h
 J40 : GF K mg "keeps_pairs" J0i
 J6L : GF K mg "columns" J0T
 J46 : GF K mg "_law_cell_at" J0d
 J5d : GF K mg "_law_mixed" J0N
 J5i : GF K mg "_law_kinds" J0p
 J5c : GF K mg "_law_names" J0o
 J4M : GF K mg "_law_skills" J0w
 J4K : GF K mg "_law_column" J0v
 J57 : GF K mg "_law_needs" J0O
 J5b : GF K mg "_law_pairs" J0R
 J56 : GF K mg "_law_leave" J0P
 J6K : GF K mg "_law_may" J0Q
 J5l : GF K mg "_law_holds" J0U
 J44 : GF K mg "_law_refused" J0g
 J5e : GF K mg "_law_right" J0S
 Jav : GF K mg "law" J1t
 J0X : CF K mg "Person" J6
 JL : CF K mg "House" J1
 J5h : mg "RotaError" = some (.ref J8)
 Ja8 : mg "NoName" = some (.ref Jf)
 J8A : mg "NoDay" = some (.ref Jh)
 J4h : mg "TooWide" = some (.ref J5)
 J1v : XCls K J5
 J2o : XIs K J5
 JG : PySem.W.exmOne K (.ref J5) (.ref J8) = some true
 JB : PySem.W.kitOne K (.ref J5) (.type "ValueError") = some true
 JO : PySem.W.kitOne K (.ref J5) (.ref J5) = some true
 J01 : PySem.W.kitOne K (.ref J5) (.ref Jh) = some false
 JX : J0a K J6 "name"
 JR : J0a K J6 "skills"
 J0E : J0a K J6 "most"
 J02 : J0a K J6 "carried"
 J0C : J0a K J6 "past"
 J12 : J0a K J1 "days"
 JV : J0a K J1 "kinds"
 J0f : J0a K J1 "needs"
 Jz : J0a K J1 "persons"
 J0e : J0a K J1 "leave"
 J0r : J0a K J1 "wishes"
 J0F : J0a K J1 "rules"
 J0c : J0a K J1 "pairs"
 J10 : mg "ValueError" = none
 J1h : mg "enumerate" = none
 JK : mg "isinstance" = none
 J0Z : mg "len" = none
 J1m : mg "list" = none
 J5n : mg "max" = none
 J5o : mg "min" = none
 JE : mg "range" = none
 J1S : mg "sorted" = none
 J5k : mg "str" = none
 J0q : ∃ t,mg "MOST_COLUMNS" = some (.int 256 t)
theorem J6B {α : Type} (l : List α) (lo hi : Option Int) : (cutN l lo hi).length ≤ l.length:=by
 unfold cutN
 rw [List.length_take,List.length_drop]
 omega
theorem J29 {α : Type} (l : List α) (i : Int) (h0 : 0 ≤ i) (h : i < l.length) : ∃ c,atI l i = some c ∧ l[i.toNat]? = some c:=by
 have hi : i.toNat < l.length:=by omega
 have e : i = ((i.toNat : Nat) : Int):=by omega
 have q : atI l ((i.toNat : Nat) : Int) = some l[i.toNat]:=J0K (by simp [hi])
 rw [← e] at q
 exact ⟨l[i.toNat],q,List.getElem?_eq_getElem hi⟩
theorem J9u (ns : List Int) (i : Int) (h0 : 0 ≤ i) (h : i < ns.length) : ∃ z,atI (ns.map V.int) i = some (.int z) ∧ ns[i.toNat]? = some z:=by
 obtain ⟨c,h1,h2⟩:=J29 (ns.map V.int) i h0 (by rw [List.length_map]; exact h)
 rw [List.getElem?_map] at h2
 cases hz : ns[i.toNat]? with
 | none=>rw [hz] at h2; cases h2
 | some z =>
  rw [hz] at h2
  have e : c = .int z:=(Option.some.inj h2).symm
  subst e
  exact ⟨z,h1,rfl⟩
noncomputable def sp_law (K : PySem.W.Frag) : Sp:=fun vs H Q _=>∃ (a : Addr) (ns : List Int),vs = [.ref a] ∧ SqL K H a (ns.map V.int) ∧ ns.length ≤ 63 ∧ ∀ H',Q (.bl true) H'
theorem Ja0 {p : (Nat → Nat → St → Hp → Prop) → Prop} (h : ∃ W,p W) : ∃ W,p W:=h
theorem J94 {p : (Nat → St → Hp → Prop) → Prop} (h : ∃ W,p W) : ∃ W,p W:=h
theorem Jar {A B : Prop} (h : B) : if (!true) = true then A else B:=h
theorem Jaq {A B : Prop} (h : A) : if (!false) = true then A else B:=h
theorem J8T {i j : Int} (h1 : 0 < j) (h2 : j < 1073741824) : CDiv i j:=⟨h1,h2⟩
theorem Ja9 {i j : Int} (h1 : -(2 ^ 64) < i) (h2 : i < 2 ^ 64) : CMul i j:=.inl ⟨h1,h2⟩
theorem Jat {i j : Int} (h1 : -(2 ^ 64) < j) (h2 : j < 2 ^ 64) : CMul i j:=.inr ⟨h1,h2⟩
theorem J9v {n : Int} (h : 0 < n) : 0 < n:=h
@[irreducible] def Here (p : Prop) : Prop:=p
theorem Here.mk {p : Prop} (h : p) : Here p:=by unfold Here; exact h
theorem Here.out {p : Prop} (h : Here p) : p:=by unfold Here at h; exact h
theorem J7F {i : Nat} {v : V} {σ σ' : St} {H : Hp} {Q : St → Hp → Prop} (e : σ.set i (some v) = σ') (h : Q σ' H) : J4m i v σ H Q:=by subst e; exact h
theorem J7Z {n : Nat} (h : n ≤ 100000) : n ≤ sizeLine:=Nat.le_trans h (by decide)
theorem J80 {n : Nat} (h : n ≤ 100000) : n < sizeLine:=Nat.lt_of_le_of_lt h (by decide)
local macro_rules | `(tactic| walk_at "len")=>`(tactic| (simp only [List.length_append,List.length_cons,List.length_nil,List.length_singleton,List.length_take,List.length_drop,List.length_map,List.length_reverse,List.length_range] <;> omega))
local macro_rules | `(tactic| walk_at "st")=>`(tactic| (try simp only [L2.start,List.map_cons,List.map_nil,List.length_cons,List.length_nil,Nat.reduceAdd,Nat.reduceSub,List.replicate_succ,List.replicate_zero,List.cons_append,List.nil_append]))
local macro_rules | `(tactic| walk_at "lk")=>`(tactic| fail)
local macro_rules | `(tactic| walk_at "cl")=>`(tactic| first
 | (with_reducible assumption) | rfl
 | (with_reducible show @LE.le Nat _ _ _; first | omega | (walk_at "len") | exact J7Z (by omega) | exact J7Z (by walk_at "len"))
 | (with_reducible show @LT.lt Nat _ _ _; first | omega | (walk_at "len") | exact J80 (by omega) | exact J80 (by walk_at "len"))
 | (with_reducible show @LE.le Int _ _ _; omega) | (with_reducible show @LT.lt Int _ _ _; omega)
 | ((with_reducible refine J8T ?_ ?_) <;> omega) | ((with_reducible refine Ja9 ?_ ?_) <;> omega) | ((with_reducible refine Jat ?_ ?_) <;> omega) | ((with_reducible refine J9v ?_) <;> omega)
 | exact Jb | exact JS (by with_reducible assumption) _ _ _ Jb | exact SqL.of (by with_reducible assumption) | exact SqL.of Jb | exact SqT.of Jb | exact SqT.of (by with_reducible assumption) | exact Or.inl (by with_reducible assumption) | exact Or.inl (SqL.of (by with_reducible assumption)) | exact Or.inl (SqL.of Jb)
 | exact Or.inl ⟨rfl,_,SqL.of (by with_reducible assumption)⟩ | exact Or.inl ⟨rfl,_,SqL.of Jb⟩ | exact Or.inl ⟨rfl,_,by with_reducible assumption⟩ | exact ⟨_,by with_reducible assumption⟩ | exact ⟨_,SqL.of (by with_reducible assumption)⟩ | exact ⟨_,SqL.of Jb⟩
 | exact ⟨by omega,by omega⟩ | assumption | walk_at "lk")
local macro_rules | `(tactic| walk_at "rd1")=>`(tactic| first
 | (with_reducible refine J7F (by first | (simp only [List.set_cons_zero,List.set_cons_succ]; done) | (simp only [List.set_cons_zero,List.set_cons_succ]; rfl)) ?_)
 | (with_reducible refine iteT ?_) | (with_reducible refine iteF ?_) | (with_reducible refine Jar ?_) | (with_reducible refine Jaq ?_)
 | ((fail_if_success apply Ja0); (fail_if_success apply J94); apply Exists.intro)
 | (apply And.intro; (· walk_at "cl"))
 | (refine Or.inl ⟨_,rfl,?_⟩) | (refine Or.inr (Or.inl ⟨_,rfl,?_⟩)) | (refine Or.inr (Or.inr (Or.inl ⟨_,rfl,?_⟩))) | (refine Or.inr (Or.inr (Or.inr (Or.inl ⟨_,rfl,?_⟩)))) | (refine Or.inr (Or.inr (Or.inr (Or.inr ⟨_,_,rfl,by with_reducible assumption,?_⟩)))))
local macro_rules | `(tactic| walk_at "rd")=>`(tactic| repeat (walk_at "rd1"))
theorem J2m {f : Str} {v : V} {r : List (Str × V)} : List.lookup f ((f,v) :: r) = some v:=by rw [List.lookup_cons,beq_self_eq_true]
theorem JC {f g : Str} {v : V} {r : List (Str × V)} (h : f ≠ g) : List.lookup f ((g,v) :: r) = List.lookup f r:=by rw [List.lookup_cons,beq_eq_false_iff_ne.mpr h]
theorem putN {f : Str} {v : V} : ∀ {fs : List (Str × V)},(∀ g ∈ fs.map (·.1),g ≠ f) → putF f v fs = fs ++ [(f,v)]
 | [],_=>rfl
 | (g,x) :: r,h=>by
  have h1 : ¬ g = f:=h g (by simp)
  have ih:=putN (f:=f) (v:=v) (fs:=r) fun g hg=>h g (by rw [List.map_cons]; exact List.mem_cons_of_mem _ hg)
  show (if g = f then (g,v) :: r else (g,x) :: putF f v r) = _
  rw [if_neg h1,ih]
  rfl
noncomputable abbrev fP (a b c d e : V) : List (Str × V):=[("name",a),("skills",b),("most",c),("carried",d),("past",e)]
noncomputable abbrev fH (a b c d e f g h : V) : List (Str × V):=[("days",a),("kinds",b),("needs",c),("persons",d),("leave",e),("wishes",f),("rules",g),("pairs",h)]
theorem J6v (a b c d e : V) : List.lookup ("name" : Str) (fP a b c d e) = some a:=J2m
theorem J6R (a b c d e : V) : List.lookup ("skills" : Str) (fP a b c d e) = some b:=by rw [JC (by decide +kernel),J2m]
theorem J8P (a b c d e : V) : List.lookup ("most" : Str) (fP a b c d e) = some c:=by rw [JC (by decide +kernel),JC (by decide +kernel),J2m]
theorem J6f (a b c d e : V) : List.lookup ("carried" : Str) (fP a b c d e) = some d:=by rw [JC (by decide +kernel),JC (by decide +kernel),JC (by decide +kernel),J2m]
theorem J5H (a b c d e f g h : V) : List.lookup ("kinds" : Str) (fH a b c d e f g h) = some b:=by rw [JC (by decide +kernel),J2m]
theorem J7W (a b c d e f g h : V) : List.lookup ("needs" : Str) (fH a b c d e f g h) = some c:=by rw [JC (by decide +kernel),JC (by decide +kernel),J2m]
theorem J2w (a b c d e f g h : V) : List.lookup ("persons" : Str) (fH a b c d e f g h) = some d:=by rw [JC (by decide +kernel),JC (by decide +kernel),JC (by decide +kernel),J2m]
theorem J7o (a b c d e f g h : V) : List.lookup ("leave" : Str) (fH a b c d e f g h) = some e:=by rw [JC (by decide +kernel),JC (by decide +kernel),JC (by decide +kernel),JC (by decide +kernel),J2m]
theorem J77 (a b c d e f g h : V) : List.lookup ("wishes" : Str) (fH a b c d e f g h) = some f:=by rw [JC (by decide +kernel),JC (by decide +kernel),JC (by decide +kernel),JC (by decide +kernel),JC (by decide +kernel),J2m]
theorem J5z (a b c d e f g h : V) : List.lookup ("pairs" : Str) (fH a b c d e f g h) = some h:=by rw [JC (by decide +kernel),JC (by decide +kernel),JC (by decide +kernel),JC (by decide +kernel),JC (by decide +kernel),JC (by decide +kernel),JC (by decide +kernel),J2m]
noncomputable def J4A (C : Addr) (H : Hp) (p : Addr) (nm sk : List Nat) (m c : Int) (pa : List Nat) : Prop:=∃ dx,H p = some (.ins C dx (fP (T nm) (T sk) (.int m) (.int c) (T pa)))
theorem J4A.keeps {C : Addr} {H H' : Hp} {p : Addr} {nm sk pa : List Nat} {m c : Int} (h : J4A C H p nm sk m c pa) (k : J19 H H') : J4A C H' p nm sk m c pa:=let ⟨dx,e⟩:=h; ⟨dx,k _ _ e fun zs z=>by cases z⟩
noncomputable def J3Z (C : Addr) (H : Hp) (p : Addr) (d : Int) (k : List Nat) (a1 a2 a3 a4 a5 a6 : Addr) : Prop:=∃ dx,H p = some (.ins C dx (fH (.int d) (T k) (.ref a1) (.ref a2) (.ref a3) (.ref a4) (.ref a5) (.ref a6)))
theorem J3Z.keeps {C : Addr} {H H' : Hp} {p : Addr} {d : Int} {k : List Nat} {a1 a2 a3 a4 a5 a6 : Addr} (h : J3Z C H p d k a1 a2 a3 a4 a5 a6) (kk : J19 H H') : J3Z C H' p d k a1 a2 a3 a4 a5 a6:=let ⟨dx,e⟩:=h; ⟨dx,kk _ _ e fun zs z=>by cases z⟩
noncomputable def But (p : Addr) (H H' : Hp) : Prop:=∀ a o,a ≠ p → H a = some o → H' a = some o
theorem But.refl (p : Addr) (H : Hp) : But p H H:=fun _ _ _ h=>h
theorem But.at {p : Addr} {H H' : Hp} {o : HO} (b : But p H H') : But p H (upd H' p o):=fun a u n e=>by rw [Jc n]; exact b a u n e
theorem But.new {p l : Addr} {H H' : Hp} {o : HO} (b : But p H H') (hl : H' l = none) : But p H (upd H' l o):=fun a u n e=>by
 have:=b a u n e
 rw [Jc (Ja this hl)]; exact this
noncomputable def J5q (C : Addr) : Sp:=fun vs H Q _=>∃ p dx a b c d e,vs = [.ref p,a,b,c,d,e] ∧ H p = some (.ins C dx []) ∧ ∀ H',But p H H' → H' p = some (.ins C dx (fP a b c d e)) → Q .non H'
noncomputable def J5p (C : Addr) : Sp:=fun vs H Q _=>∃ p dx d k b1 b2 b3 b4 b5 b6 x1 x2 x3 x4 x5 x6,vs = [.ref p,d,k,.ref b1,.ref b2,.ref b3,.ref b4,.ref b5,.ref b6] ∧ H p = some (.ins C dx []) ∧
 H b1 = some (.lst x1) ∧ H b2 = some (.lst x2) ∧ H b3 = some (.lst x3) ∧ H b4 = some (.lst x4) ∧ H b5 = some (.lst x5) ∧ H b6 = some (.lst x6) ∧
 ∀ H' a1 a2 a3 a4 a5 a6,But p H H' → H' p = some (.ins C dx (fH d k (.ref a1) (.ref a2) (.ref a3) (.ref a4) (.ref a5) (.ref a6))) → H' a1 = some (.lst x1) → H' a2 = some (.lst x2) → H' a3 = some (.lst x3) → H' a4 = some (.lst x4) → H' a5 = some (.lst x5) → H' a6 = some (.lst x6) →
  H a1 = none → H a2 = none → H a3 = none → H a4 = none → H a5 = none → H a6 = none → Q .non H'
noncomputable def rPer (C : Addr) : List V → Hp → VK → Prop:=fun vs H Q=>∃ nm sk m c pa,vs = [T nm,T sk,.int m,.int c,T pa] ∧ ∀ p H',Same H H' → H p = none → J4A C H' p nm sk m c pa → Q (.ref p) H'
noncomputable def rHou (C : Addr) : List V → Hp → VK → Prop:=fun vs H Q=>∃ d k b1 b2 b3 b4 b5 b6 x1 x2 x3 x4 x5 x6,vs = [.int d,T k,.ref b1,.ref b2,.ref b3,.ref b4,.ref b5,.ref b6] ∧
 H b1 = some (.lst x1) ∧ H b2 = some (.lst x2) ∧ H b3 = some (.lst x3) ∧ H b4 = some (.lst x4) ∧ H b5 = some (.lst x5) ∧ H b6 = some (.lst x6) ∧
 ∀ p H' a1 a2 a3 a4 a5 a6,Same H H' → J3Z C H' p d k a1 a2 a3 a4 a5 a6 → H' a1 = some (.lst x1) → H' a2 = some (.lst x2) → H' a3 = some (.lst x3) → H' a4 = some (.lst x4) → H' a5 = some (.lst x5) → H' a6 = some (.lst x6) →
  H a1 = none → H a2 = none → H a3 = none → H a4 = none → H a5 = none → H a6 = none → Q (.ref p) H'
theorem J4q {H H' : Hp} {x dx : Addr} {u o : HO} (nx : H x = none) (nd : H dx = none) (b : But x (upd (upd H dx u) x o) H') : Same H H':=fun a v e=>by
 have h1 : a ≠ x:=Ja e nx
 refine b a v h1 ?_
 rw [Jc h1,Jc (Ja e nd)]
 exact e
theorem J1r {H : Hp} {x dx a : Addr} {u o : HO} (h : upd (upd H dx u) x o a = none) : H a = none:=by
 have h1 : a ≠ x:=fun z=>by subst z; rw [Jb] at h; cases h
 rw [Jc h1] at h
 have h2 : a ≠ dx:=fun z=>by subst z; rw [Jb] at h; cases h
 rw [Jc h2] at h
 exact h
theorem J24 {H : Hp} {x dx a : Addr} {u o v : HO} (nx : H x = none) (nd : H dx = none) (e : H a = some v) : upd (upd H dx u) x o a = some v:=by
 rw [Jc (Ja e nx),Jc (Ja e nd)]; exact e
theorem J9T {C : Addr} : ∀ vs H Q,rPer C vs H Q → ∀ x dx,H x = none → H dx = none → dx ≠ x → J5q C (.ref x :: (vs ++ [])) (upd (upd H dx (.own x)) x (.ins C dx [])) (fun v H2=>v = .non ∧ Q (.ref x) H2) E0:=by
 rintro _ H Q ⟨nm,sk,m,c,pa,rfl,q⟩ x dx nx nd _
 exact ⟨x,dx,_,_,_,_,_,rfl,Jb,fun H' b e=>⟨rfl,q x H' (J4q nx nd b) nx ⟨dx,e⟩⟩⟩
theorem J9s {C : Addr} : ∀ vs H Q,rHou C vs H Q → ∀ x dx,H x = none → H dx = none → dx ≠ x → J5p C (.ref x :: (vs ++ [])) (upd (upd H dx (.own x)) x (.ins C dx [])) (fun v H2=>v = .non ∧ Q (.ref x) H2) E0:=by
 rintro _ H Q ⟨d,k,b1,b2,b3,b4,b5,b6,x1,x2,x3,x4,x5,x6,rfl,h1,h2,h3,h4,h5,h6,q⟩ x dx nx nd _
 exact ⟨x,dx,_,_,b1,b2,b3,b4,b5,b6,x1,x2,x3,x4,x5,x6,rfl,Jb,J24 nx nd h1,J24 nx nd h2,J24 nx nd h3,J24 nx nd h4,J24 nx nd h5,J24 nx nd h6,
  fun H' a1 a2 a3 a4 a5 a6 b e e1 e2 e3 e4 e5 e6 n1 n2 n3 n4 n5 n6=>⟨rfl,q x H' a1 a2 a3 a4 a5 a6 (J4q nx nd b) ⟨dx,e⟩ e1 e2 e3 e4 e5 e6 (J1r n1) (J1r n2) (J1r n3) (J1r n4) (J1r n5) (J1r n6)⟩⟩
noncomputable def J4t (ns : List Int) (k : Int) : Int:=ns.getD k.toNat 0
noncomputable def J7e (K : PySem.W.Frag) : Sp:=fun vs H Q _=>∃ (a : Addr) (ns : List Int) (k : Int),vs = [.ref a,.int k] ∧ SqL K H a (ns.map V.int) ∧ 0 ≤ k ∧ Q (.int (J4t ns k)) H
noncomputable abbrev ABC : List Nat:=[65,66,67,68,69,70,71,72,73,74,75,76,77,78,79,80,81,82,83,84,85,86,87,88,89,90]
noncomputable def cap (i : Int) : Nat:=65 + i.toNat
theorem J9H (i : Int) (h0 : 0 ≤ i) (h1 : i < 26) : atI ABC i = some (cap i):=by
 obtain ⟨c,h2,h3⟩:=J29 ABC i h0 (by show i < 26; exact h1)
 have key : ∀ n : Nat,n < 26 → ABC[n]? = some (65 + n):=by decide
 rw [h2]
 rw [key i.toNat (by omega)] at h3
 exact h3.symm
theorem J8m {ns : List Int} {k : Int} (h0 : 0 ≤ k) (h : k < ns.length) : atI (ns.map V.int) k = some (.int (J4t ns k)):=by
 obtain ⟨z,h1,h2⟩:=J9u ns k h0 h
 unfold J4t
 rw [h1,List.getD_eq_getElem?_getD,h2]
 rfl
theorem J8l {ns : List Int} {k : Int} (h : (ns.length : Int) ≤ k) : J4t ns k = 0:=by
 unfold J4t
 rw [List.getD_eq_getElem?_getD,List.getElem?_eq_none (by omega)]
 rfl
structure Nd where
 day : Int
 kind : Nat
 least : Int
 most : Int
noncomputable def NdAt : Nd → V → Hp → Prop:=fun n y H=>∃ t,y = .ref t ∧ H t = some (.tup [.int n.day,T [n.kind],.int n.least,.int n.most])
theorem NdAt.keeps (n : Nd) (y : V) (Ha Hb : Hp) (k : J19 Ha Hb) (h : NdAt n y Ha) : NdAt n y Hb:=let ⟨t,e,h⟩:=h; ⟨t,e,k _ _ h fun zs z=>by cases z⟩
noncomputable def JT : List Nd → Int → Nat → Int × Int
 | [],_,_=>(0,0)
 | n :: r,d,k=>if n.day = d ∧ n.kind = k then (n.least,n.most) else JT r d k
noncomputable def LvT : List Nat × Int → V → Hp → Prop:=fun l y H=>∃ t,y = .ref t ∧ H t = some (.tup [T l.1,.int l.2])
theorem LvT.keeps (n : List Nat × Int) (y : V) (Ha Hb : Hp) (k : J19 Ha Hb) (h : LvT n y Ha) : LvT n y Hb:=let ⟨t,e,h⟩:=h; ⟨t,e,k _ _ h fun zs z=>by cases z⟩
noncomputable def lvI (l : List Nat × Int) : List V:=[T l.1,.int l.2]
theorem J7C {K : PySem.W.Frag} {H : Hp} : ∀ {ls : List (List Nat × Int)} {vs : List V},All2 LvT H ls vs → All2 (TpAt K) H (ls.map lvI) vs
 | [],[],_=>trivial
 | l :: ls,v :: vs,h=>⟨by obtain ⟨t,e,h⟩:=h.1; exact ⟨t,e,SqT.of h,rfl⟩,J7C h.2⟩
 | [],_ :: _,h=>h.elim
 | _ :: _,[],h=>h.elim
noncomputable def J5Q (ls : List (List Nat × Int)) (nm : List Nat) (d : Int) : Bool:=(ls.map lvI).any fun ys=>eqVs ys [T nm,.int d]
theorem J3J {nds : List Nd} {i : Nat} {d : Int} {k : Nat} (h : ∀ j < i,∀ n,nds[j]? = some n → ¬ (n.day = d ∧ n.kind = k)) : JT nds d k = JT (nds.drop i) d k:=by
 induction i generalizing nds with
 | zero=>rfl
 | succ i ih =>
  cases nds with
  | nil=>rfl
  | cons n r =>
   rw [List.drop_succ_cons,← ih (nds:=r) fun j hj m hm=>h (j + 1) (by omega) m (by simpa using hm)]
   rw [JT,if_neg (h 0 (by omega) n rfl)]
theorem J4x {nds : List Nd} {i : Nat} {d : Int} {k : Nat} {n : Nd} (h : ∀ j < i,∀ n,nds[j]? = some n → ¬ (n.day = d ∧ n.kind = k)) (hi : nds[i]? = some n) (e : n.day = d ∧ n.kind = k) : JT nds d k = (n.least,n.most):=by
 rw [J3J h,List.drop_eq_getElem_cons (List.getElem?_eq_some_iff.mp hi).1,JT]
 have : nds[i]'(List.getElem?_eq_some_iff.mp hi).1 = n:=(List.getElem?_eq_some_iff.mp hi).2
 rw [this,if_pos e]
theorem J2z {nds : List Nd} {d : Int} {k : Nat} (h : ∀ j < nds.length,∀ n,nds[j]? = some n → ¬ (n.day = d ∧ n.kind = k)) : JT nds d k = (0,0):=by
 rw [J3J h,List.drop_eq_nil_of_le (Nat.le_refl _)]
 rfl
structure Ps where
 nm : List Nat
 sk : List Nat
 most : Int
 car : Int
 past : List Nat
noncomputable def J3U (n m : Nd) : Prop:=¬ (n.day = m.day ∧ n.kind = m.kind)
theorem J1N {α β : Type} (f : α → β) : ∀ {l : List α},l.Nodup → (∀ x ∈ l,∀ y ∈ l,f x = f y → x = y) → (l.map f).Nodup
 | [],_,_=>List.nodup_nil
 | x :: l,hn,h=>by
  obtain ⟨h1,h2⟩:=List.nodup_cons.mp hn
  rw [List.map_cons,List.nodup_cons]
  refine ⟨fun hm=>?_,J1N f h2 fun y hy z hz=>h y (List.mem_cons_of_mem _ hy) z (List.mem_cons_of_mem _ hz)⟩
  obtain ⟨y,hy,e⟩:=List.mem_map.mp hm
  rw [h y (List.mem_cons_of_mem _ hy) x List.mem_cons_self e] at hy
  exact h1 hy
noncomputable def PsO (C : Addr) : Ps → V → Hp → Prop:=fun n y H=>∃ a,y = .ref a ∧ J4A C H a n.nm n.sk n.most n.car n.past
theorem PsO.keeps {C : Addr} (n : Ps) (y : V) (Ha Hb : Hp) (k : J19 Ha Hb) (h : PsO C n y Ha) : PsO C n y Hb:=let ⟨a,e,h⟩:=h; ⟨a,e,h.keeps k⟩
theorem J3W {n i a : Nat} (h : (List.range n)[i]? = some a) : a = i ∧ i < n:=by
 have hi:=(List.getElem?_eq_some_iff.mp h).1
 rw [List.length_range] at hi
 rw [List.getElem?_range hi] at h
 exact ⟨(Option.some.inj h).symm,hi⟩
section
variable {P : Program} {w : World} {K : PySem.W.Frag} {mg : Str → Option Value} {base : Heap} {J6 J1 J8 Jf Jh J5 : Addr}
theorem J4d (tx : Tx K mg J6 J1 J8 Jf Jh J5) : MtG P w K mg base J6 "__init__" 1 ["self","name","skills","most","carried","past"] (J5q J6):=by
 refine tx.J4a.g tx.J0X.cl J3u (fun _ _ _ _ _ _ us hl=>match us,hl with | [_,_,_,_,_,_],_=>rfl) (fun vs H Q E h=>?_) (fun f cdv A outer s H vs Q E hr h=>?_)
 ·obtain ⟨p,dx,a,b,c,d,e,rfl,_⟩:=h
  rfl
 ·obtain ⟨p,dx,a,b,c,d,e,rfl,hp,q⟩:=h
  refine ⟨_,(J2 (J1c (pv 0) (pv 1) rfl)
   (J2 (J1c (pv 0) (pv 2) rfl)
   (J2 (J1c (pv 0) (pv 3) rfl)
   (J2 (J1c (pv 0) (pv 4) rfl)
   (J9 (J1c (pv 0) (pv 5) rfl)))))),?_⟩
  walk_at "st"
  refine ⟨_,rfl,_,rfl,p,J6,dx,[],rfl,hp,tx.J0X.cl,tx.JX,(by show 0 < 1000; decide),?_⟩
  refine ⟨_,rfl,_,rfl,p,J6,dx,[("name",a)],rfl,Jb,tx.J0X.cl,tx.JR,(by show 1 < 1000; decide),?_⟩
  rw [putN (fs:=[("name",a)]) (show ∀ g ∈ [("name" : Str)],g ≠ "skills" from by decide +kernel)]
  refine ⟨_,rfl,_,rfl,p,J6,dx,[("name",a),("skills",b)],rfl,Jb,tx.J0X.cl,tx.J0E,(by show 2 < 1000; decide),?_⟩
  rw [putN (fs:=[("name",a),("skills",b)]) (show ∀ g ∈ [("name" : Str),"skills"],g ≠ "most" from by decide +kernel)]
  refine ⟨_,rfl,_,rfl,p,J6,dx,[("name",a),("skills",b),("most",c)],rfl,Jb,tx.J0X.cl,tx.J02,(by show 3 < 1000; decide),?_⟩
  rw [putN (fs:=[("name",a),("skills",b),("most",c)]) (show ∀ g ∈ [("name" : Str),"skills","most"],g ≠ "carried" from by decide +kernel)]
  refine ⟨_,rfl,_,rfl,p,J6,dx,[("name",a),("skills",b),("most",c),("carried",d)],rfl,Jb,tx.J0X.cl,tx.J0C,(by show 4 < 1000; decide),?_⟩
  rw [putN (fs:=[("name",a),("skills",b),("most",c),("carried",d)]) (show ∀ g ∈ [("name" : Str),"skills","most","carried"],g ≠ "past" from by decide +kernel)]
  exact q _ (But.refl p H).at.at.at.at.at Jb
theorem J4H (tx : Tx K mg J6 J1 J8 Jf Jh J5) : MtG P w K mg base J1 "__init__" 1 ["self","days","kinds","needs","persons","leave","wishes","rules","pairs"] (J5p J1):=by
 refine tx.J4I.g tx.JL.cl J47 (fun _ _ _ _ _ _ us hl=>match us,hl with | [_,_,_,_,_,_,_,_,_],_=>rfl) (fun vs H Q E h=>?_) (fun f cdv A outer s H vs Q E hr h=>?_)
 ·obtain ⟨p,dx,d,k,b1,b2,b3,b4,b5,b6,x1,x2,x3,x4,x5,x6,rfl,_⟩:=h
  rfl
 ·obtain ⟨p,dx,d,k,b1,b2,b3,b4,b5,b6,x1,x2,x3,x4,x5,x6,rfl,hp,h1,h2,h3,h4,h5,h6,q⟩:=h
  refine ⟨_,(J2 (J1c (pv 0) (pv 1) rfl)
   (J2 (J1c (pv 0) (pv 2) rfl)
   (J2 (J1c (pv 0) (J1a J0b rfl tx.J1m J0t (J0 (pv 3) J3)) rfl)
   (J2 (J1c (pv 0) (J1a J0b rfl tx.J1m J0t (J0 (pv 4) J3)) rfl)
   (J2 (J1c (pv 0) (J1a J0b rfl tx.J1m J0t (J0 (pv 5) J3)) rfl)
   (J2 (J1c (pv 0) (J1a J0b rfl tx.J1m J0t (J0 (pv 6) J3)) rfl)
   (J2 (J1c (pv 0) (J1a J0b rfl tx.J1m J0t (J0 (pv 7) J3)) rfl)
   (J9 (J1c (pv 0) (J1a J0b rfl tx.J1m J0t (J0 (pv 8) J3)) rfl))))))))),?_⟩
  walk_at "st"
  have nb : ∀ {b : Addr} {x : List V},H b = some (.lst x) → b ≠ p:=fun e=>Jap e hp (by intro z; cases z)
  refine ⟨_,rfl,_,rfl,p,J1,dx,[],rfl,hp,tx.JL.cl,tx.J12,(by show 0 < 1000; decide),?_⟩
  refine ⟨_,rfl,_,rfl,p,J1,dx,[("days",d)],rfl,Jb,tx.JL.cl,tx.JV,(by show 1 < 1000; decide),?_⟩
  rw [putN (fs:=[("days",d)]) (show ∀ g ∈ [("days" : Str)],g ≠ "kinds" from by decide +kernel)]
  have B0 : But p H (upd (upd H p (.ins J1 dx (putF "days" d []))) p (.ins J1 dx ([(("days" : Str),d)] ++ [(("kinds" : Str),k)]))):=(But.refl p H).at.at
  have e0 : upd (upd H p (.ins J1 dx (putF "days" d []))) p (.ins J1 dx ([(("days" : Str),d)] ++ [(("kinds" : Str),k)])) p = some (.ins J1 dx [("days",d),("kinds",k)]):=Jb
  generalize upd (upd H p (.ins J1 dx (putF "days" d []))) p (.ins J1 dx ([(("days" : Str),d)] ++ [(("kinds" : Str),k)])) = H0 at B0 e0 ⊢
  refine ⟨_,rfl,b1,x1,rfl,.inl (SqL.of (B0 _ _ (nb h1) h1)),fun a1 n1=>?_⟩
  refine ⟨_,rfl,p,J1,dx,[("days",d),("kinds",k)],rfl,(Jc (Ja e0 n1)).trans e0,tx.JL.cl,tx.J0f,(by show 2 < 1000; decide),?_⟩
  rw [putN (fs:=[("days",d),("kinds",k)]) (show ∀ g ∈ [("days" : Str),"kinds"],g ≠ "needs" from by decide +kernel)]
  have z1 : a1 ≠ p:=(Ja e0 n1).symm
  have B1 : But p H (upd (upd H0 a1 (.lst x1)) p (.ins J1 dx ([(("days" : Str),d),("kinds",k)] ++ [(("needs" : Str),.ref a1)]))):=(B0.new n1).at
  have e1 : upd (upd H0 a1 (.lst x1)) p (.ins J1 dx ([(("days" : Str),d),("kinds",k)] ++ [(("needs" : Str),.ref a1)])) p = some (.ins J1 dx [("days",d),("kinds",k),("needs",.ref a1)]):=Jb
  have y1 : upd (upd H0 a1 (.lst x1)) p (.ins J1 dx ([(("days" : Str),d),("kinds",k)] ++ [(("needs" : Str),.ref a1)])) a1 = some (.lst x1):=by rw [Jc z1]; exact Jb
  have m1 : H a1 = none:=by cases hh : H a1 with | none=>rfl | some o=>rw [B0 _ _ z1 hh] at n1; cases n1
  generalize upd (upd H0 a1 (.lst x1)) p (.ins J1 dx ([(("days" : Str),d),("kinds",k)] ++ [(("needs" : Str),.ref a1)])) = H1 at B1 e1 y1 ⊢
  refine ⟨_,rfl,b2,x2,rfl,.inl (SqL.of (B1 _ _ (nb h2) h2)),fun a2 n2=>?_⟩
  refine ⟨_,rfl,p,J1,dx,[("days",d),("kinds",k),("needs",.ref a1)],rfl,(Jc (Ja e1 n2)).trans e1,tx.JL.cl,tx.Jz,(by show 3 < 1000; decide),?_⟩
  rw [putN (fs:=[("days",d),("kinds",k),("needs",.ref a1)]) (show ∀ g ∈ [("days" : Str),"kinds","needs"],g ≠ "persons" from by decide +kernel)]
  have z2 : a2 ≠ p:=(Ja e1 n2).symm
  have B2 : But p H (upd (upd H1 a2 (.lst x2)) p (.ins J1 dx ([(("days" : Str),d),("kinds",k),("needs",.ref a1)] ++ [(("persons" : Str),.ref a2)]))):=(B1.new n2).at
  have e2 : upd (upd H1 a2 (.lst x2)) p (.ins J1 dx ([(("days" : Str),d),("kinds",k),("needs",.ref a1)] ++ [(("persons" : Str),.ref a2)])) p = some (.ins J1 dx [("days",d),("kinds",k),("needs",.ref a1),("persons",.ref a2)]):=Jb
  have y2 : upd (upd H1 a2 (.lst x2)) p (.ins J1 dx ([(("days" : Str),d),("kinds",k),("needs",.ref a1)] ++ [(("persons" : Str),.ref a2)])) a2 = some (.lst x2):=by rw [Jc z2]; exact Jb
  have y12 : upd (upd H1 a2 (.lst x2)) p (.ins J1 dx ([(("days" : Str),d),("kinds",k),("needs",.ref a1)] ++ [(("persons" : Str),.ref a2)])) a1 = some (.lst x1):=by rw [Jc z1,Jc (Ja y1 n2)]; exact y1
  have m2 : H a2 = none:=by cases hh : H a2 with | none=>rfl | some o=>rw [B1 _ _ z2 hh] at n2; cases n2
  generalize upd (upd H1 a2 (.lst x2)) p (.ins J1 dx ([(("days" : Str),d),("kinds",k),("needs",.ref a1)] ++ [(("persons" : Str),.ref a2)])) = H2 at B2 e2 y2 y12 ⊢
  refine ⟨_,rfl,b3,x3,rfl,.inl (SqL.of (B2 _ _ (nb h3) h3)),fun a3 n3=>?_⟩
  refine ⟨_,rfl,p,J1,dx,[("days",d),("kinds",k),("needs",.ref a1),("persons",.ref a2)],rfl,(Jc (Ja e2 n3)).trans e2,tx.JL.cl,tx.J0e,(by show 4 < 1000; decide),?_⟩
  rw [putN (fs:=[("days",d),("kinds",k),("needs",.ref a1),("persons",.ref a2)]) (show ∀ g ∈ [("days" : Str),"kinds","needs","persons"],g ≠ "leave" from by decide +kernel)]
  have z3 : a3 ≠ p:=(Ja e2 n3).symm
  have B3 : But p H (upd (upd H2 a3 (.lst x3)) p (.ins J1 dx ([(("days" : Str),d),("kinds",k),("needs",.ref a1),("persons",.ref a2)] ++ [(("leave" : Str),.ref a3)]))):=(B2.new n3).at
  have e3 : upd (upd H2 a3 (.lst x3)) p (.ins J1 dx ([(("days" : Str),d),("kinds",k),("needs",.ref a1),("persons",.ref a2)] ++ [(("leave" : Str),.ref a3)])) p = some (.ins J1 dx [("days",d),("kinds",k),("needs",.ref a1),("persons",.ref a2),("leave",.ref a3)]):=Jb
  have y3 : upd (upd H2 a3 (.lst x3)) p (.ins J1 dx ([(("days" : Str),d),("kinds",k),("needs",.ref a1),("persons",.ref a2)] ++ [(("leave" : Str),.ref a3)])) a3 = some (.lst x3):=by rw [Jc z3]; exact Jb
  have y13 : upd (upd H2 a3 (.lst x3)) p (.ins J1 dx ([(("days" : Str),d),("kinds",k),("needs",.ref a1),("persons",.ref a2)] ++ [(("leave" : Str),.ref a3)])) a1 = some (.lst x1):=by rw [Jc z1,Jc (Ja y12 n3)]; exact y12
  have y23 : upd (upd H2 a3 (.lst x3)) p (.ins J1 dx ([(("days" : Str),d),("kinds",k),("needs",.ref a1),("persons",.ref a2)] ++ [(("leave" : Str),.ref a3)])) a2 = some (.lst x2):=by rw [Jc z2,Jc (Ja y2 n3)]; exact y2
  have m3 : H a3 = none:=by cases hh : H a3 with | none=>rfl | some o=>rw [B2 _ _ z3 hh] at n3; cases n3
  generalize upd (upd H2 a3 (.lst x3)) p (.ins J1 dx ([(("days" : Str),d),("kinds",k),("needs",.ref a1),("persons",.ref a2)] ++ [(("leave" : Str),.ref a3)])) = H3 at B3 e3 y3 y13 y23 ⊢
  refine ⟨_,rfl,b4,x4,rfl,.inl (SqL.of (B3 _ _ (nb h4) h4)),fun a4 n4=>?_⟩
  refine ⟨_,rfl,p,J1,dx,[("days",d),("kinds",k),("needs",.ref a1),("persons",.ref a2),("leave",.ref a3)],rfl,(Jc (Ja e3 n4)).trans e3,tx.JL.cl,tx.J0r,(by show 5 < 1000; decide),?_⟩
  rw [putN (fs:=[("days",d),("kinds",k),("needs",.ref a1),("persons",.ref a2),("leave",.ref a3)]) (show ∀ g ∈ [("days" : Str),"kinds","needs","persons","leave"],g ≠ "wishes" from by decide +kernel)]
  have z4 : a4 ≠ p:=(Ja e3 n4).symm
  have B4 : But p H (upd (upd H3 a4 (.lst x4)) p (.ins J1 dx ([(("days" : Str),d),("kinds",k),("needs",.ref a1),("persons",.ref a2),("leave",.ref a3)] ++ [(("wishes" : Str),.ref a4)]))):=(B3.new n4).at
  have e4 : upd (upd H3 a4 (.lst x4)) p (.ins J1 dx ([(("days" : Str),d),("kinds",k),("needs",.ref a1),("persons",.ref a2),("leave",.ref a3)] ++ [(("wishes" : Str),.ref a4)])) p = some (.ins J1 dx [("days",d),("kinds",k),("needs",.ref a1),("persons",.ref a2),("leave",.ref a3),("wishes",.ref a4)]):=Jb
  have y4 : upd (upd H3 a4 (.lst x4)) p (.ins J1 dx ([(("days" : Str),d),("kinds",k),("needs",.ref a1),("persons",.ref a2),("leave",.ref a3)] ++ [(("wishes" : Str),.ref a4)])) a4 = some (.lst x4):=by rw [Jc z4]; exact Jb
  have y14 : upd (upd H3 a4 (.lst x4)) p (.ins J1 dx ([(("days" : Str),d),("kinds",k),("needs",.ref a1),("persons",.ref a2),("leave",.ref a3)] ++ [(("wishes" : Str),.ref a4)])) a1 = some (.lst x1):=by rw [Jc z1,Jc (Ja y13 n4)]; exact y13
  have y24 : upd (upd H3 a4 (.lst x4)) p (.ins J1 dx ([(("days" : Str),d),("kinds",k),("needs",.ref a1),("persons",.ref a2),("leave",.ref a3)] ++ [(("wishes" : Str),.ref a4)])) a2 = some (.lst x2):=by rw [Jc z2,Jc (Ja y23 n4)]; exact y23
  have y34 : upd (upd H3 a4 (.lst x4)) p (.ins J1 dx ([(("days" : Str),d),("kinds",k),("needs",.ref a1),("persons",.ref a2),("leave",.ref a3)] ++ [(("wishes" : Str),.ref a4)])) a3 = some (.lst x3):=by rw [Jc z3,Jc (Ja y3 n4)]; exact y3
  have m4 : H a4 = none:=by cases hh : H a4 with | none=>rfl | some o=>rw [B3 _ _ z4 hh] at n4; cases n4
  generalize upd (upd H3 a4 (.lst x4)) p (.ins J1 dx ([(("days" : Str),d),("kinds",k),("needs",.ref a1),("persons",.ref a2),("leave",.ref a3)] ++ [(("wishes" : Str),.ref a4)])) = H4 at B4 e4 y4 y14 y24 y34 ⊢
  refine ⟨_,rfl,b5,x5,rfl,.inl (SqL.of (B4 _ _ (nb h5) h5)),fun a5 n5=>?_⟩
  refine ⟨_,rfl,p,J1,dx,[("days",d),("kinds",k),("needs",.ref a1),("persons",.ref a2),("leave",.ref a3),("wishes",.ref a4)],rfl,(Jc (Ja e4 n5)).trans e4,tx.JL.cl,tx.J0F,(by show 6 < 1000; decide),?_⟩
  rw [putN (fs:=[("days",d),("kinds",k),("needs",.ref a1),("persons",.ref a2),("leave",.ref a3),("wishes",.ref a4)]) (show ∀ g ∈ [("days" : Str),"kinds","needs","persons","leave","wishes"],g ≠ "rules" from by decide +kernel)]
  have z5 : a5 ≠ p:=(Ja e4 n5).symm
  have B5 : But p H (upd (upd H4 a5 (.lst x5)) p (.ins J1 dx ([(("days" : Str),d),("kinds",k),("needs",.ref a1),("persons",.ref a2),("leave",.ref a3),("wishes",.ref a4)] ++ [(("rules" : Str),.ref a5)]))):=(B4.new n5).at
  have e5 : upd (upd H4 a5 (.lst x5)) p (.ins J1 dx ([(("days" : Str),d),("kinds",k),("needs",.ref a1),("persons",.ref a2),("leave",.ref a3),("wishes",.ref a4)] ++ [(("rules" : Str),.ref a5)])) p = some (.ins J1 dx [("days",d),("kinds",k),("needs",.ref a1),("persons",.ref a2),("leave",.ref a3),("wishes",.ref a4),("rules",.ref a5)]):=Jb
  have y5 : upd (upd H4 a5 (.lst x5)) p (.ins J1 dx ([(("days" : Str),d),("kinds",k),("needs",.ref a1),("persons",.ref a2),("leave",.ref a3),("wishes",.ref a4)] ++ [(("rules" : Str),.ref a5)])) a5 = some (.lst x5):=by rw [Jc z5]; exact Jb
  have y15 : upd (upd H4 a5 (.lst x5)) p (.ins J1 dx ([(("days" : Str),d),("kinds",k),("needs",.ref a1),("persons",.ref a2),("leave",.ref a3),("wishes",.ref a4)] ++ [(("rules" : Str),.ref a5)])) a1 = some (.lst x1):=by rw [Jc z1,Jc (Ja y14 n5)]; exact y14
  have y25 : upd (upd H4 a5 (.lst x5)) p (.ins J1 dx ([(("days" : Str),d),("kinds",k),("needs",.ref a1),("persons",.ref a2),("leave",.ref a3),("wishes",.ref a4)] ++ [(("rules" : Str),.ref a5)])) a2 = some (.lst x2):=by rw [Jc z2,Jc (Ja y24 n5)]; exact y24
  have y35 : upd (upd H4 a5 (.lst x5)) p (.ins J1 dx ([(("days" : Str),d),("kinds",k),("needs",.ref a1),("persons",.ref a2),("leave",.ref a3),("wishes",.ref a4)] ++ [(("rules" : Str),.ref a5)])) a3 = some (.lst x3):=by rw [Jc z3,Jc (Ja y34 n5)]; exact y34
  have y45 : upd (upd H4 a5 (.lst x5)) p (.ins J1 dx ([(("days" : Str),d),("kinds",k),("needs",.ref a1),("persons",.ref a2),("leave",.ref a3),("wishes",.ref a4)] ++ [(("rules" : Str),.ref a5)])) a4 = some (.lst x4):=by rw [Jc z4,Jc (Ja y4 n5)]; exact y4
  have m5 : H a5 = none:=by cases hh : H a5 with | none=>rfl | some o=>rw [B4 _ _ z5 hh] at n5; cases n5
  generalize upd (upd H4 a5 (.lst x5)) p (.ins J1 dx ([(("days" : Str),d),("kinds",k),("needs",.ref a1),("persons",.ref a2),("leave",.ref a3),("wishes",.ref a4)] ++ [(("rules" : Str),.ref a5)])) = H5 at B5 e5 y5 y15 y25 y35 y45 ⊢
  refine ⟨_,rfl,b6,x6,rfl,.inl (SqL.of (B5 _ _ (nb h6) h6)),fun a6 n6=>?_⟩
  refine ⟨_,rfl,p,J1,dx,[("days",d),("kinds",k),("needs",.ref a1),("persons",.ref a2),("leave",.ref a3),("wishes",.ref a4),("rules",.ref a5)],rfl,(Jc (Ja e5 n6)).trans e5,tx.JL.cl,tx.J0c,(by show 7 < 1000; decide),?_⟩
  rw [putN (fs:=[("days",d),("kinds",k),("needs",.ref a1),("persons",.ref a2),("leave",.ref a3),("wishes",.ref a4),("rules",.ref a5)]) (show ∀ g ∈ [("days" : Str),"kinds","needs","persons","leave","wishes","rules"],g ≠ "pairs" from by decide +kernel)]
  have z6 : a6 ≠ p:=(Ja e5 n6).symm
  have m6 : H a6 = none:=by cases hh : H a6 with | none=>rfl | some o=>rw [B5 _ _ z6 hh] at n6; cases n6
  refine q _ a1 a2 a3 a4 a5 a6 (B5.new n6).at Jb ?_ ?_ ?_ ?_ ?_ ?_ m1 m2 m3 m4 m5 m6
  ·rw [Jc z1,Jc (Ja y15 n6)]; exact y15
  ·rw [Jc z2,Jc (Ja y25 n6)]; exact y25
  ·rw [Jc z3,Jc (Ja y35 n6)]; exact y35
  ·rw [Jc z4,Jc (Ja y45 n6)]; exact y45
  ·rw [Jc z5,Jc (Ja y5 n6)]; exact y5
  ·rw [Jc z6]; exact Jb
end
theorem newl {H : Hp} {l : Addr} {xs : List V} (h : H l = none) : ∃ H',H' = upd H l (.lst xs) ∧ H' l = some (.lst xs) ∧ Same H H':=⟨_,rfl,Jb,JS h _⟩
theorem newt {H : Hp} {l : Addr} {xs : List V} (h : H l = none) : ∃ H',H' = upd H l (.tup xs) ∧ H' l = some (.tup xs) ∧ Same H H':=⟨_,rfl,Jb,JS h _⟩
theorem lH_m {m : Str} (a b c d e f g h : V) (h1 : m ≠ "days") (h2 : m ≠ "kinds") (h3 : m ≠ "needs") (h4 : m ≠ "persons") (h5 : m ≠ "leave") (h6 : m ≠ "wishes") (h7 : m ≠ "rules") (h8 : m ≠ "pairs") : List.lookup m (fH a b c d e f g h) = none:=by
 rw [JC h1,JC h2,JC h3,JC h4,JC h5,JC h6,JC h7,JC h8]
 rfl
theorem J6z (a b c d e f g h : V) : List.lookup ("need" : Str) (fH a b c d e f g h) = none:=lH_m _ _ _ _ _ _ _ _ (by decide +kernel) (by decide +kernel) (by decide +kernel) (by decide +kernel) (by decide +kernel) (by decide +kernel) (by decide +kernel) (by decide +kernel)
theorem J67 (a b c d e f g h : V) : List.lookup ("may" : Str) (fH a b c d e f g h) = none:=lH_m _ _ _ _ _ _ _ _ (by decide +kernel) (by decide +kernel) (by decide +kernel) (by decide +kernel) (by decide +kernel) (by decide +kernel) (by decide +kernel) (by decide +kernel)
noncomputable def Hk (C1 C2 : Addr) (H : Hp) (h : Addr) (dd : Int) (ks : List Nat) (nds : List Nd) (ps : List Ps) (ls : List (List Nat × Int)) : Prop :=
 ∃ a1 a2 a3 a4 a5 a6 xs ys zs ws,J3Z C2 H h dd ks a1 a2 a3 a4 a5 a6 ∧ H a1 = some (.lst xs) ∧ All2 NdAt H nds xs ∧ H a2 = some (.lst ys) ∧ All2 (PsO C1) H ps ys ∧ H a3 = some (.lst zs) ∧ All2 LvT H ls zs ∧ H a4 = some (.lst ws)
theorem Hk.same {C1 C2 : Addr} {H H' : Hp} {h : Addr} {dd : Int} {ks : List Nat} {nds : List Nd} {ps : List Ps} {ls : List (List Nat × Int)} (x : Hk C1 C2 H h dd ks nds ps ls) (s : Same H H') : Hk C1 C2 H' h dd ks nds ps ls:=by
 obtain ⟨a1,a2,a3,a4,a5,a6,xs,ys,zs,ws,h1,h2,h3,h4,h5,h6,h7,h8⟩:=x
 exact ⟨a1,a2,a3,a4,a5,a6,xs,ys,zs,ws,h1.keeps s.keeps,s _ _ h2,h3.imp fun a y=>NdAt.keeps a y _ _ s.keeps,s _ _ h4,h5.imp fun a y=>PsO.keeps a y _ _ s.keeps,s _ _ h6,h7.imp fun a y=>LvT.keeps a y _ _ s.keeps,s _ _ h8⟩
noncomputable def mayP (ks : List Nat) (nds : List Nd) (ls : List (List Nat × Int)) (p : Ps) (d : Int) : List Nat:=if J5Q ls p.nm d = true then [] else (ks.filter fun k=>decide (k ∈ p.sk)).filter fun k=>decide (1 ≤ (JT nds d k).2)
theorem J3l {nds : List Nd} (hU : nds.Pairwise J3U) {n : Nd} (h : n ∈ nds) : JT nds n.day n.kind = (n.least,n.most):=by
 obtain ⟨i,hi⟩:=List.getElem?_of_mem h
 refine J4x (i:=i) (fun j hj m hm=>?_) hi ⟨rfl,rfl⟩
 have h1:=(List.getElem?_eq_some_iff.mp hi).1
 have h2:=(List.getElem?_eq_some_iff.mp hm).1
 have:=List.pairwise_iff_getElem.mp hU j i h2 h1 hj
 rw [(List.getElem?_eq_some_iff.mp hi).2,(List.getElem?_eq_some_iff.mp hm).2] at this
 exact this
noncomputable def J7f (C1 C2 : Addr) : Sp:=fun vs H Q _=>∃ (h : Addr) (d : Int) (k : Nat) (dd : Int) (ks : List Nat) (nds : List Nd) (ps : List Ps) (ls : List (List Nat × Int)),vs = [.ref h,.int d,T [k]] ∧ Hk C1 C2 H h dd ks nds ps ls ∧ ∀ (t : Addr) (H' : Hp),Same H H' → H' t = some (.tup [.int (JT nds d k).1,.int (JT nds d k).2]) → Q (.ref t) H'
noncomputable def J8E (C1 C2 : Addr) : Sp:=fun vs H Q _=>∃ (h : Addr) (p d : Int) (dd : Int) (ks : List Nat) (nds : List Nd) (ps : List Ps) (ls : List (List Nat × Int)) (n : Ps),vs = [.ref h,.int p,.int d] ∧ Hk C1 C2 H h dd ks nds ps ls ∧ 0 ≤ p ∧ ps[p.toNat]? = some n ∧ ks.length ≤ 4 ∧ ∀ H',Same H H' → Q (T (mayP ks nds ls n d)) H'
theorem at0 (a b : V) : atI [a,b] 0 = some a:=by simp [atI,ixN]
theorem at1 (a b : V) : atI [a,b] 1 = some b:=by simp [atI,ixN]
noncomputable def onT (f : Nat → Bool) : V → Bool
 | .str ⟨⟨[c]⟩⟩=>f c
 | _=>false
theorem J66 (ks : List Nat) (f : Nat → Bool) : (((ks.map fun c=>T [c]).filter (onT f)).map (fun x=>x)) = (ks.filter f).map fun c=>T [c]:=by
 rw [List.map_id',List.filter_map]
 rfl
section
variable {P : Program} {w : World} {K : PySem.W.Frag} {mg : Str → Option Value} {base : Heap} {J6 J1 J8 Jf Jh J5 : Addr}
local macro_rules | `(tactic| walk_at "lk")=>`(tactic| first | exact J6v _ _ _ _ _ | exact J6R _ _ _ _ _ | exact J8P _ _ _ _ _ | exact J6f _ _ _ _ _ | exact J2w _ _ _ _ _ _ _ _ | exact J7W _ _ _ _ _ _ _ _ | exact J7o _ _ _ _ _ _ _ _ | exact J5H _ _ _ _ _ _ _ _ | exact J77 _ _ _ _ _ _ _ _ | exact J6z _ _ _ _ _ _ _ _ | exact J67 _ _ _ _ _ _ _ _ | exact Or.inr (SqT.of (by with_reducible assumption)))
theorem J7m (tx : Tx K mg J6 J1 J8 Jf Jh J5) : MtG P w K mg base J1 "need" 1 ["self","day","kind"] (J7f J6 J1):=by
 refine tx.J4L.g tx.JL.cl J0G (fun _ _ _ _ _ _ us hl=>match us,hl with | [_,_,_],_=>rfl) (fun vs H Q E h=>?_) (fun f cdv A outer s H vs Q E hr h=>?_)
 ·obtain ⟨h,d,k,dd,ks,nds,pns,ls,rfl,_⟩:=h
  rfl
 ·obtain ⟨h,d,k,dd,ks,nds,pns,ls,rfl,⟨a1,a2,a3,a4,a5,a6,xs,ys,zs,ws,⟨dx,h1⟩,h2,h3,_⟩,q⟩:=h
  refine ⟨_,(J2 (JQ PassesOwn.never rfl (J03 (K:=K) rfl (J18 (K:=K) rfl (pv 0) rfl)) (J2x rfl (Jo (Jd (i:=3) J0G.nd rfl (Or.inl rfl)) (Jo (Jd (i:=4) J0G.nd rfl (Or.inl rfl)) (Jo (Jd (i:=5) J0G.nd rfl (Or.inl rfl)) (Jo (Jd (i:=6) J0G.nd rfl (Or.inl rfl)) J1Q))))) (J9 (J04 (PW.pt (J1n (Ji J1x (pv 3) (pv 1) (Jr _)) (J1g (Ji J1x (pv 4) (pv 2) (Jr _))))) (J9 (Jl (J1W (J0 (pv 5) (J0 (pv 6) J3))))) Jw)))
   (J9 (Jl (J1W (J0 J7 (J0 J7 J3)))))),?_⟩
  walk_at "st"
  have cH:=tx.JL.cl
  have nH:=tx.J0f
  walk_at "rd"
  refine J16 (K:=K) (xs:=xs) (fun i σ H2=>Here (∃ v1 v2 v3 v4,σ = [some (.ref h),some (.int d),some (T [k]),v1,v2,v3,v4] ∧ (∀ j < i,∀ n,nds[j]? = some n → ¬ (n.day = d ∧ n.kind = k)) ∧ H2 = H)) (Here.mk ⟨none,none,none,none,rfl,fun j hj=>absurd hj (Nat.not_lt_zero _),rfl⟩) (fun i σ H2 _ hv=>by obtain ⟨_,_,_,_,_,_,e⟩:=hv.out; rw [e]; exact SqL.of h2) ?_ ?_
  ·rintro i x σ H2 hx hv
   obtain ⟨v1,v2,v3,v4,rfl,hno,rfl⟩:=hv.out
   obtain ⟨n,hn,t,rfl,ht⟩:=h3.back hx
   have nx : ¬ (n.day = d ∧ n.kind = k) → ∀ j < i + 1,∀ m,nds[j]? = some m → ¬ (m.day = d ∧ m.kind = k):=fun z j hj m hm=>by
    rcases Nat.lt_or_ge j i with y | y
    ·exact hno j y m hm
    ·have : j = i:=by omega
     subst this
     rw [hn] at hm
     cases hm
     exact z
   walk_at "rd"
   refine ite2 (fun e1=>?_) (fun e1=>?_)
   ·have e1' : n.day = d:=by have:=of_decide_eq_true e1; injection this
    walk_at "rd"
    refine ite2 (fun e2=>?_) (fun e2=>?_)
    ·have e2' : n.kind = k:=by have:=J2D (of_decide_eq_true e2); simpa using this
     walk_at "rd"
     intro t2 ht2
     refine q t2 _ (JS ht2 _) ?_
     rw [Jb,J4x hno hn ⟨e1',e2'⟩]
    ·exact Here.mk ⟨_,_,_,_,rfl,nx fun z=>e2 (decide_eq_true (by rw [z.2])),rfl⟩
   ·walk_at "rd"
    exact Here.mk ⟨_,_,_,_,rfl,nx fun z=>e1 (decide_eq_true (by rw [z.1])),rfl⟩
  ·rintro σ H2 hv
   obtain ⟨v1,v2,v3,v4,rfl,hno,rfl⟩:=hv.out
   walk_at "rd"
   intro t2 ht2
   refine q t2 _ (JS ht2 _) ?_
   rw [Jb,J2z (by rw [← h3.len]; exact hno)]
theorem Ja7 (tx : Tx K mg J6 J1 J8 Jf Jh J5) : MtG P w K mg base J1 "may" 2 ["self","p","day"] (J8E J6 J1):=by
 have J3t:=J7m (P:=P) (w:=w) (base:=base) tx
 refine tx.J58.g tx.JL.cl J1G (fun _ _ _ _ _ _ us hl=>match us,hl with | [_,_,_],_=>rfl) (fun vs H Q E h=>?_) (fun f cdv A outer s H vs Q E hr h=>?_)
 ·obtain ⟨h,p,d,dd,ks,nds,pns,ls,n,rfl,_⟩:=h
  rfl
 ·obtain ⟨h,p,d,dd,ks,nds,pns,ls,n,rfl,hs,hp0,hn,hkl,q⟩:=h
  have hs':=hs
  obtain ⟨a1,a2,a3,a4,a5,a6,xs,ys,zs,ws,⟨dx,h1⟩,h2,h3,h4,h5,h6,h7,h8⟩:=hs'
  refine ⟨_,(J2 (Jj (i:=3) J1G.nd rfl (Or.inr rfl) (Jx (Ju (K:=K) rfl) (J18 (K:=K) rfl (pv 0) rfl) (pv 1) (fun _ _=>rfl)))
   (J2 (J04 (Ji (J7J (K:=K) rfl (J9b hr)) (J1W (J0 (J18 (K:=K) rfl (pv 3) rfl) (J0 (pv 2) J3))) (J18 (K:=K) rfl (pv 0) rfl) rfl) (J9 (Jl (JA (l:=[]) (by decide +kernel)))) Jw)
   (J2 (J3m (k:=4) (osc:=J4 J06) (ON:=["self","p","day","person","able"]) (N:=["kind","person"]) (js:=[none,some 3]) J1G.nd rfl (Or.inl rfl) ⟨rfl,by decide +kernel,by decide +kernel,by decide +kernel,rfl,by decide +kernel⟩ rfl rfl rfl (J4O (J18 (K:=K) rfl (pv 0) rfl)) (fun _ _ _ _ _=>Jd (i:=0) (show List.Nodup (["kind","person"] : List Str) from by decide +kernel) rfl (Or.inl rfl)) (fun _ _ _ _ _=>J22 (Ji J7N (pv 0) (J18 (K:=K) rfl (pv 1) rfl) rfl)) (fun _ _ _ _ _=>(pv 0)))
   (J9 (Jl (J3R (K:=K) rfl (JA (l:=[]) (by decide +kernel)) (J0 (J1p (osc:=J4 J06) (ON:=["self","p","day","person","able"]) (N:=["kind","day","self"]) (js:=[none,some 2,some 0]) ⟨rfl,by decide +kernel,by decide +kernel,by decide +kernel,rfl,by decide +kernel⟩ rfl rfl rfl (J03 (K:=K) rfl (pv 4)) (fun _ _ _ _ _=>Jd (i:=0) (show List.Nodup (["kind","day","self"] : List Str) from by decide +kernel) rfl (Or.inl rfl)) (fun _ _ _ _ _=>J22 (Ji Jal (Jx (J1J (K:=K) rfl) (J5C J3t (hr.mono (by decide)) (pv 2) (J0 (pv 1) (J0 (pv 0) J3))) J7 (fun _ _=>rfl)) J7 (Jr _))) (fun _ _ _ _ _=>(pv 0))) J3))))))),?_⟩
  walk_at "st"
  clear J3t
  have cH:=tx.JL.cl
  have nH1:=tx.Jz
  have nH2:=tx.J0e
  have nH3:=tx.JV
  have cP:=tx.J0X.cl
  have nP1:=tx.JX
  have nP2:=tx.JR
  obtain ⟨y,hy,pa,rfl,dxp,hp⟩:=h5.get hn
  have hix : atI ys p = some (.ref pa):=by have:=J0K hy; rwa [Int.toNat_of_nonneg hp0] at this
  walk_at "rd"
  intro t ht
  obtain ⟨H1,e1,ht1,s1⟩:=newt (xs:=[T n.nm,.int d]) ht
  rw [← e1]
  have k1:=s1 _ _ h1
  have k6:=s1 _ _ h6
  have kp:=s1 _ _ hp
  have k7:=J7C (K:=K) (h7.imp fun a y=>LvT.keeps a y _ _ s1.keeps)
  have fl : ([T n.nm,V.int d] : List V).all JZ = true:=rfl
  walk_at "rd"
  refine ite2 (fun e=>?_) (fun e=>?_)
  ·have e' : J5Q ls n.nm d = true:=e
   walk_at "rd"
   have:=q H1 s1
   unfold mayP at this
   rw [if_pos e'] at this
   exact this
  have e' : ¬ J5Q ls n.nm d = true:=e
  have q':=q
  unfold mayP at q'
  rw [if_neg e'] at q'
  clear e e' q k6 k7 fl ht1 e1 ht h2 h3 h4 h5 h6 h7
  walk_at "rd"
  refine J6E (onT fun k=>decide (k ∈ n.sk)) (fun x=>x) (J2X ks) ?_ (fun x hx H' s' R hR=>?_) (fun x hx hpx H' s' R hR=>?_) (fun ab H2 nab s2 hab=>?_)
  ·rw [List.length_map]; omega
  ·obtain ⟨k,_,rfl⟩:=List.mem_map.mp hx
   have kp':=s' _ _ kp
   walk_at "rd"
   exact hR H' (Same.refl _)
  ·walk_at "rd"
   exact hR H' (Same.refl _)
  rw [J66] at hab
  have hl:=List.length_filter_le (fun k=>decide (k ∈ n.sk)) ks
  generalize ks.filter (fun k=>decide (k ∈ n.sk)) = as at hab q' hl
  have hs2:=hs.same (s1.trans s2)
  walk_at "rd"
  refine JP as (fun k=>decide (1 ≤ (JT nds d k).2)) (fun k y _=>y = T [k]) (fun σ=>∃ v,σ = [v,some (.int d),some (.ref h)]) (J1L (SqL.of hab)) (by rw [List.length_map]) (by omega) ⟨_,rfl⟩ (fun _ _ _ _ _ z=>z) (fun i k v σ H' hk hv hσ s' Rf Rt hF hR=>?_) (fun D H3 rs nD s3 hrs hD=>?_)
  ·obtain ⟨w1,rfl⟩:=hσ
   rw [List.getElem?_map,hk] at hv
   cases hv
   have hs':=hs2.same s'
   have k1':=s' _ _ (s2 _ _ k1)
   walk_at "rd"
   intro t2 H4 s4 ht2
   have e2:=at1 (V.int (JT nds d k).1) (V.int (JT nds d k).2)
   walk_at "rd"
   refine ite2 (fun e=>?_) (fun e=>?_)
   ·walk_at "rd"
    exact hR _ _ _ e ⟨_,rfl⟩ s4 rfl
   ·exact hF _ _ (Bool.eq_false_iff.mpr e) ⟨_,rfl⟩ s4
  have hl2:=List.length_filter_le (fun k=>decide (1 ≤ (JT nds d k).2)) as
  have er:=hrs.eqmap (f:=fun k=>T [k]) (fun a y e=>e)
  generalize as.filter (fun k=>decide (1 ≤ (JT nds d k).2)) = bs at hl2 er q'
  have hD3 : SqL K H3 D ((bs.map fun c=>[c]).map T):=by rw [List.map_map]; refine SqL.of ?_; rw [hD,er]; rfl
  have hjl : (((bs.map fun c=>[c]).map List.length).sum + (bs.map fun c=>[c]).length * ([] : List Nat).length ≤ 16777216):=by
   rw [J2I,List.length_map,List.length_nil,Nat.mul_zero]
   omega
  walk_at "rd"
  rw [J2e,J2b]
  exact q' H3 ((s1.trans s2).trans s3)
end
noncomputable def PerN (C : Addr) : List Nat → V → Hp → Prop:=fun nm y H=>∃ a sk m c pa,y = .ref a ∧ J4A C H a nm sk m c pa
theorem PerN.keeps {C : Addr} (nm : List Nat) (y : V) (Ha Hb : Hp) (k : J19 Ha Hb) (h : PerN C nm y Ha) : PerN C nm y Hb:=by
 obtain ⟨a,sk,m,c,pa,e,h⟩:=h
 exact ⟨a,sk,m,c,pa,e,h.keeps k⟩
noncomputable def HouN (C1 C2 : Addr) (H : Hp) (h : Addr) (nms : List (List Nat)) : Prop:=∃ d k a1 a2 a3 a4 a5 a6 qs,J3Z C2 H h d k a1 a2 a3 a4 a5 a6 ∧ H a2 = some (.lst qs) ∧ All2 (PerN C1) H nms qs
theorem HouN.same {C1 C2 : Addr} {H H' : Hp} {h : Addr} {nms : List (List Nat)} (x : HouN C1 C2 H h nms) (s : Same H H') : HouN C1 C2 H' h nms:=by
 obtain ⟨d,k,a1,a2,a3,a4,a5,a6,qs,h1,h2,h3⟩:=x
 exact ⟨d,k,a1,a2,a3,a4,a5,a6,qs,h1.keeps s.keeps,s _ _ h2,h3.imp fun a y=>PerN.keeps a y _ _ s.keeps⟩
noncomputable def J7n (C1 C2 : Addr) : Sp:=fun vs H Q _=>∃ (h : Addr) (nm : List Nat) (nms : List (List Nat)) (k : Nat),vs = [.ref h,T nm] ∧ HouN C1 C2 H h nms ∧ nms[k]? = some nm ∧ (∀ j < k,¬ nms[j]? = some nm) ∧ ∀ H',Same H H' → Q (.int (k : Nat)) H'
theorem J5S {H H1 : Hp} {p : Addr} {o : HO} (n : H p = none) (e : upd H p o = H1) : H1 p = some o ∧ Same H H1:=by subst e; exact ⟨Jb,JS n _⟩
noncomputable def J1K : List Nat:=[97,112,97,114,116]
noncomputable def J5w : List Nat:=[119,105,116,104]
structure Pq where
 wd : List Nat
 one : List Nat
 two : List Nat
 i : Nat
 j : Nat
noncomputable def PqT : Pq → V → Hp → Prop:=fun p y H=>∃ t,y = .ref t ∧ H t = some (.tup [T p.wd,T p.one,T p.two])
theorem PqT.keeps (n : Pq) (y : V) (Ha Hb : Hp) (k : J19 Ha Hb) (h : PqT n y Ha) : PqT n y Hb:=let ⟨t,e,h⟩:=h; ⟨t,e,k _ _ h fun zs z=>by cases z⟩
noncomputable def J7B (nms : List (List Nat)) (nm : List Nat) (i : Nat) : Prop:=nms[i]? = some nm ∧ ∀ j < i,¬ nms[j]? = some nm
noncomputable def PqIn (nms : List (List Nat)) (p : Pq) : Prop:=J7B nms p.one p.i ∧ J7B nms p.two p.j ∧ (p.wd = J1K ∨ p.wd = J5w)
noncomputable def brkB (wd : List Nat) (m o : Nat) : Bool:=!decide (m = 45) && (if wd = J1K then decide (m = o) else !decide (m = o))
noncomputable def J9p : Sp:=fun vs H Q _=>∃ (wd : List Nat) (m o : Nat),vs = [T wd,T [m],T [o]] ∧ Q (.bl (brkB wd m o)) H
noncomputable def pqB (col : List Nat) (p : Pq) : Bool:=brkB p.wd (col.getD p.i 0) (col.getD p.j 0)
noncomputable def prsB (prs : List Pq) (col : List Nat) : Bool:=prs.all fun p=>!pqB col p
noncomputable def metB (nds : List Nd) (d : Int) (col : List Nat) (k : Nat) : Bool:=decide ((JT nds d k).1 ≤ (col.count k : Int)) && decide ((col.count k : Int) ≤ (JT nds d k).2)
noncomputable def J4l (ks : List Nat) (nds : List Nd) (d : Int) (col : List Nat) : Bool:=ks.all (metB nds d col)
noncomputable def J1D (ms : List Nat) (rows : List (List Nat)) : List (List Nat):=rows.flatMap fun r=>ms.map fun c=>r ++ [c]
noncomputable def chF (ks : List Nat) (nds : List Nd) (ls : List (List Nat × Int)) (ps : List Ps) (d : Int) : List (List Nat):=ps.map fun p=>mayP ks nds ls p d ++ [45]
noncomputable def prdF (cs : List (List Nat)) : Nat:=cs.foldl (fun n c=>n * c.length) 1
noncomputable def J15 (cs : List (List Nat)) : List (List Nat):=cs.foldl (fun rows ms=>J1D ms rows) [[]]
noncomputable def J2F (ks : List Nat) (nds : List Nd) (d : Int) (prs : List Pq) (col : List Nat) : Bool:=J4l ks nds d col && prsB prs col
noncomputable def colF (ks : List Nat) (nds : List Nd) (ls : List (List Nat × Int)) (ps : List Ps) (prs : List Pq) (d : Int) : List (List Nat):=(J15 (chF ks nds ls ps d)).filter (J2F ks nds d prs)
noncomputable def Hz (C1 C2 : Addr) (H : Hp) (h : Addr) (dd : Int) (ks : List Nat) (nds : List Nd) (ps : List Ps) (ls : List (List Nat × Int)) (prs : List Pq) : Prop :=
 ∃ a1 a2 a3 a4 a5 a6 xs ys zs ws us,J3Z C2 H h dd ks a1 a2 a3 a4 a5 a6 ∧ H a1 = some (.lst xs) ∧ All2 NdAt H nds xs ∧ H a2 = some (.lst ys) ∧ All2 (PsO C1) H ps ys ∧ H a3 = some (.lst zs) ∧ All2 LvT H ls zs ∧ H a4 = some (.lst ws) ∧ H a6 = some (.lst us) ∧ All2 PqT H prs us
theorem Hz.same {C1 C2 : Addr} {H H' : Hp} {h : Addr} {dd : Int} {ks : List Nat} {nds : List Nd} {ps : List Ps} {ls : List (List Nat × Int)} {prs : List Pq} (x : Hz C1 C2 H h dd ks nds ps ls prs) (s : Same H H') : Hz C1 C2 H' h dd ks nds ps ls prs:=by
 obtain ⟨a1,a2,a3,a4,a5,a6,xs,ys,zs,ws,us,h1,h2,h3,h4,h5,h6,h7,h8,h9,h10⟩:=x
 exact ⟨a1,a2,a3,a4,a5,a6,xs,ys,zs,ws,us,h1.keeps s.keeps,s _ _ h2,h3.imp fun a y=>NdAt.keeps a y _ _ s.keeps,s _ _ h4,h5.imp fun a y=>PsO.keeps a y _ _ s.keeps,s _ _ h6,h7.imp fun a y=>LvT.keeps a y _ _ s.keeps,s _ _ h8,s _ _ h9,h10.imp fun a y=>PqT.keeps a y _ _ s.keeps⟩
theorem Hz.k {C1 C2 : Addr} {H : Hp} {h : Addr} {dd : Int} {ks : List Nat} {nds : List Nd} {ps : List Ps} {ls : List (List Nat × Int)} {prs : List Pq} (x : Hz C1 C2 H h dd ks nds ps ls prs) : Hk C1 C2 H h dd ks nds ps ls:=by
 obtain ⟨a1,a2,a3,a4,a5,a6,xs,ys,zs,ws,us,h1,h2,h3,h4,h5,h6,h7,h8,h9,h10⟩:=x
 exact ⟨a1,a2,a3,a4,a5,a6,xs,ys,zs,ws,h1,h2,h3,h4,h5,h6,h7,h8⟩
theorem Hz.n {C1 C2 : Addr} {H : Hp} {h : Addr} {dd : Int} {ks : List Nat} {nds : List Nd} {ps : List Ps} {ls : List (List Nat × Int)} {prs : List Pq} (x : Hz C1 C2 H h dd ks nds ps ls prs) : HouN C1 C2 H h (ps.map (·.nm)):=by
 obtain ⟨a1,a2,a3,a4,a5,a6,xs,ys,zs,ws,us,h1,h2,h3,h4,h5,_⟩:=x
 exact ⟨_,_,a1,a2,a3,a4,a5,a6,ys,h1,h4,All2.mapL (P:=PerN C1) (h5.imp fun a y ⟨b,e,hp⟩=>⟨b,_,_,_,_,e,hp⟩)⟩
noncomputable def J9q : Sp:=fun vs H Q _=>∃ (rl : Addr) (rows : List (List Nat)) (ms : List Nat),vs = [.ref rl,T ms] ∧ H rl = some (.lst (rows.map T)) ∧ rows.length ≤ 256 ∧ (∀ r ∈ rows,r.length ≤ 40) ∧ ms.length ≤ 5 ∧ ∀ D H',H D = none → Same H H' → H' D = some (.lst ((J1D ms rows).map T)) → Q (.ref D) H'
noncomputable def J9o (C1 C2 : Addr) : Sp:=fun vs H Q _=>∃ (h : Addr) (d : Int) (col : List Nat) (dd : Int) (ks : List Nat) (nds : List Nd) (ps : List Ps) (ls : List (List Nat × Int)),vs = [.ref h,.int d,T col] ∧ Hk C1 C2 H h dd ks nds ps ls ∧ col.length ≤ 40 ∧ ks.length ≤ 4 ∧ ∀ H',Same H H' → Q (.bl (J4l ks nds d col)) H'
noncomputable def J9n (C1 C2 : Addr) : Sp:=fun vs H Q _=>∃ (h : Addr) (col : List Nat) (dd : Int) (ks : List Nat) (nds : List Nd) (ps : List Ps) (ls : List (List Nat × Int)) (prs : List Pq),vs = [.ref h,T col] ∧ Hz C1 C2 H h dd ks nds ps ls prs ∧ (∀ p ∈ prs,PqIn (ps.map (·.nm)) p) ∧ col.length = ps.length ∧ ps.length ≤ 8 ∧ ∀ H',Same H H' → Q (.bl (prsB prs col)) H'
noncomputable abbrev mkS (l : List Nat) : Str:=⟨l.toArray⟩
noncomputable def J8D (C1 C2 CT : Addr) : Sp:=fun vs H Q E=>∃ (h : Addr) (d : Int) (dd : Int) (ks : List Nat) (nds : List Nd) (ps : List Ps) (ls : List (List Nat × Int)) (prs : List Pq),vs = [.ref h,.int d] ∧ Hz C1 C2 H h dd ks nds ps ls prs ∧ (∀ p ∈ prs,PqIn (ps.map (·.nm)) p) ∧ ps.length ≤ 8 ∧ ks.length ≤ 4 ∧
 (256 < prdF (chF ks nds ls ps d) → ∀ H',Same H H' → E (.ref CT) none H') ∧
 (prdF (chF ks nds ls ps d) ≤ 256 → ∀ D H' ss,Same H H' → H D = none → ss.Perm ((colF ks nds ls ps prs d).map mkS) → PyProof.Rows.sortedS ss = true → H' D = some (.lst (ss.map V.str)) → Q (.ref D) H')
theorem J60 {α β : Type} (f : α → List β) (m : Nat) : ∀ (l : List α),(∀ x ∈ l,(f x).length ≤ m) → (l.flatMap f).length ≤ l.length * m
 | [],_=>Nat.zero_le _
 | x :: l,h=>by
  rw [List.flatMap_cons,List.length_append,List.length_cons,Nat.succ_mul]
  have h1:=h x (List.mem_cons_self ..)
  have h2:=J60 f m l fun y hy=>h y (List.mem_cons_of_mem _ hy)
  omega
theorem J76 {α β : Type} (f : α → List β) (l : List α) {i : Nat} {x : α} (h : l[i]? = some x) : (l.take (i + 1)).flatMap f = (l.take i).flatMap f ++ f x:=by
 rw [List.take_add_one,h,List.flatMap_append]
 show _ ++ (f x ++ []) = _
 rw [List.append_nil]
theorem J5F {rows : List (List Nat)} {i : Nat} {x : V} (h : (rows.map T)[i]? = some x) : ∃ r,rows[i]? = some r ∧ x = T r:=by
 rw [List.getElem?_map] at h
 cases hr : rows[i]? with
 | none=>rw [hr] at h; cases h
 | some r=>rw [hr] at h; exact ⟨r,rfl,(Option.some.inj h).symm⟩
theorem J4D (ms : List Nat) : ∀ rows : List (List Nat),(J1D ms rows).length = rows.length * ms.length
 | []=>by rw [List.length_nil,Nat.zero_mul]; rfl
 | r :: rows=>by
  have:=J4D ms rows
  unfold J1D at this ⊢
  rw [List.flatMap_cons,List.length_append,List.length_map,this,List.length_cons,Nat.succ_mul]
  omega
theorem J32 {α β : Type} (f : α → β → α) (a : α) (l : List β) {i : Nat} {x : β} (h : l[i]? = some x) : (l.take (i + 1)).foldl f a = f ((l.take i).foldl f a) x:=by
 rw [List.take_add_one,h,List.foldl_append]
 rfl
theorem J2C : ∀ (cs : List (List Nat)) (a : List (List Nat)) (n : Nat),a.length = n → (cs.foldl (fun rows ms=>J1D ms rows) a).length = cs.foldl (fun n c=>n * c.length) n
 | [],_,_,h=>h
 | m :: cs,a,n,h=>by
  rw [List.foldl_cons,List.foldl_cons]
  exact J2C cs _ _ (by rw [J4D,h])
theorem J62 : ∀ (cs : List (List Nat)) (n : Nat),(∀ c ∈ cs,1 ≤ c.length) → n ≤ cs.foldl (fun n c=>n * c.length) n
 | [],n,_=>Nat.le_refl n
 | c :: cs,n,h=>by
  rw [List.foldl_cons]
  refine Nat.le_trans ?_ (J62 cs _ fun x hx=>h x (List.mem_cons_of_mem _ hx))
  exact Nat.le_mul_of_pos_right n (h c (List.mem_cons_self ..))
theorem J7X (cs : List (List Nat)) (h : ∀ c ∈ cs,1 ≤ c.length) (i : Nat) : prdF (cs.take i) ≤ prdF cs:=by
 have e : prdF cs = (cs.drop i).foldl (fun n c=>n * c.length) (prdF (cs.take i)):=by
  unfold prdF
  rw [← List.foldl_append,List.take_append_drop]
 rw [e]
 exact J62 _ _ fun c hc=>h c (List.mem_of_mem_drop hc)
theorem J3M {x : List Nat} {ms : List Nat} {rows : List (List Nat)} : x ∈ J1D ms rows ↔ ∃ r ∈ rows,∃ c ∈ ms,x = r ++ [c]:=by
 unfold J1D
 rw [List.mem_flatMap]
 constructor
 ·rintro ⟨r,hr,hx⟩
  obtain ⟨c,hc,e⟩:=List.mem_map.mp hx
  exact ⟨r,hr,c,hc,e.symm⟩
 ·rintro ⟨r,hr,c,hc,e⟩
  exact ⟨r,hr,List.mem_map.mpr ⟨c,hc,e.symm⟩⟩
noncomputable def okC : List Nat → List (List Nat) → Prop
 | [],[]=>True
 | c :: r,m :: s=>c ∈ m ∧ okC r s
 | _,_=>False
theorem okC.len : ∀ {r : List Nat} {s : List (List Nat)},okC r s → r.length = s.length
 | [],[],_=>rfl
 | _ :: _,_ :: _,h=>by rw [List.length_cons,List.length_cons,okC.len h.2]
 | [],_ :: _,h=>h.elim
 | _ :: _,[],h=>h.elim
theorem J5t : ∀ {cs : List (List Nat)} {a : List (List Nat)} {x : List Nat},x ∈ cs.foldl (fun rows ms=>J1D ms rows) a ↔ ∃ r ∈ a,∃ t,x = r ++ t ∧ okC t cs
 | [],a,x=>by
  rw [List.foldl_nil]
  constructor
  ·exact fun h=>⟨x,h,[],(List.append_nil x).symm,trivial⟩
  ·rintro ⟨r,hr,t,e,ht⟩
   cases t with
   | nil=>rw [e,List.append_nil]; exact hr
   | cons=>exact ht.elim
 | m :: cs,a,x=>by
  rw [List.foldl_cons,J5t (cs:=cs)]
  constructor
  ·rintro ⟨r,hr,t,e,ht⟩
   obtain ⟨r',hr',c,hc,e'⟩:=J3M.mp hr
   exact ⟨r',hr',c :: t,by rw [e,e',List.append_assoc]; rfl,hc,ht⟩
  ·rintro ⟨r,hr,t,e,ht⟩
   cases t with
   | nil=>exact ht.elim
   | cons c t=>exact ⟨r ++ [c],J3M.mpr ⟨r,hr,c,ht.1,rfl⟩,t,by rw [e,List.append_assoc]; rfl,ht.2⟩
theorem J3N {cs : List (List Nat)} {x : List Nat} : x ∈ J15 cs ↔ okC x cs:=by
 unfold J15
 rw [J5t]
 constructor
 ·rintro ⟨r,hr,t,e,ht⟩
  rw [List.mem_singleton.mp hr] at e
  rw [e]
  exact ht
 ·exact fun h=>⟨[],List.mem_singleton.mpr rfl,x,rfl,h⟩
theorem J3V {ms : List Nat} (hm : ms.Nodup) : ∀ {rows : List (List Nat)},rows.Nodup → (J1D ms rows).Nodup
 | [],_=>List.nodup_nil
 | r :: rows,h=>by
  obtain ⟨h1,h2⟩:=List.nodup_cons.mp h
  have e : J1D ms (r :: rows) = (ms.map fun c=>r ++ [c]) ++ J1D ms rows:=rfl
  rw [e,List.nodup_append]
  refine ⟨J1N _ hm fun x _ y _ z=>?_,J3V hm h2,fun x hx y hy z=>?_⟩
  ·have:=List.append_cancel_left z
   simpa using this
  ·obtain ⟨c,_,e1⟩:=List.mem_map.mp hx
   obtain ⟨r',hr',c',_,e2⟩:=J3M.mp hy
   rw [← e1,e2] at z
   have:=(List.append_inj' z rfl).1
   exact h1 (by rw [this]; exact hr')
theorem J3E : ∀ {cs : List (List Nat)} {a : List (List Nat)},(∀ c ∈ cs,c.Nodup) → a.Nodup → (cs.foldl (fun rows ms=>J1D ms rows) a).Nodup
 | [],_,_,h=>h
 | m :: cs,a,hc,h=>by
  rw [List.foldl_cons]
  exact J3E (fun c h=>hc c (List.mem_cons_of_mem _ h)) (J3V (hc m (List.mem_cons_self ..)) h)
theorem J2M (ks : List Nat) (nds : List Nd) (ls : List (List Nat × Int)) (p : Ps) (d : Int) : (mayP ks nds ls p d).Sublist ks:=by
 unfold mayP
 split
 ·exact List.nil_sublist _
 ·exact (List.filter_sublist).trans List.filter_sublist
theorem J9W {ks : List Nat} {nds : List Nd} {ls : List (List Nat × Int)} {ps : List Ps} {d : Int} (hk : ks.length ≤ 4) : ∀ c ∈ chF ks nds ls ps d,1 ≤ c.length ∧ c.length ≤ 5:=fun c hc=>by
 obtain ⟨p,_,rfl⟩:=List.mem_map.mp hc
 have:=(J2M ks nds ls p d).length_le
 rw [List.length_append,List.length_singleton]
 omega
theorem J7Y {ks : List Nat} {nds : List Nd} {ls : List (List Nat × Int)} {ps : List Ps} {d : Int} (hk : ks.Nodup) (h45 : ∀ k ∈ ks,k ≠ 45) : ∀ c ∈ chF ks nds ls ps d,c.Nodup:=fun c hc=>by
 obtain ⟨p,_,rfl⟩:=List.mem_map.mp hc
 rw [List.nodup_append]
 refine ⟨(J2M ks nds ls p d).nodup hk,by simp,fun x hx y hy z=>?_⟩
 rw [List.mem_singleton] at hy
 exact h45 x ((J2M ks nds ls p d).subset hx) (z.trans hy)
theorem J6l {cs : List (List Nat)} (h : ∀ c ∈ cs,c.Nodup) : (J15 cs).Nodup:=J3E h (by simp)
theorem J3P {α : Type} (p : α → Bool) (l : List α) {i : Nat} {x : α} (h : l[i]? = some x) : (l.take (i + 1)).all p = ((l.take i).all p && p x):=by
 rw [List.take_add_one,h,List.all_append]
 simp
theorem J1A {l : List Nat} {i : Nat} (h : i < l.length) : atI l (i : Int) = some (l.getD i 0):=by
 refine J0K ?_
 rw [List.getD_eq_getElem?_getD,List.getElem?_eq_getElem h]
 rfl
theorem J6b {α : Type} (p : α → Bool) (l : List α) {i : Nat} {x : α} (h : l[i]? = some x) (hx : p x = false) : l.all p = false:=by
 rw [List.all_eq_false]
 exact ⟨x,List.mem_of_getElem? h,by rw [hx]; decide⟩
theorem J3c (a b c d e f g h : V) : List.lookup ("place_of" : Str) (fH a b c d e f g h) = none:=lH_m _ _ _ _ _ _ _ _ (by decide +kernel) (by decide +kernel) (by decide +kernel) (by decide +kernel) (by decide +kernel) (by decide +kernel) (by decide +kernel) (by decide +kernel)
section
variable {P : Program} {w : World} {K : PySem.W.Frag} {mg : Str → Option Value} {base : Heap} {J6 J1 J8 Jf Jh J5 : Addr}
local macro_rules | `(tactic| walk_at "lk")=>`(tactic| first | exact J6v _ _ _ _ _ | exact J2w _ _ _ _ _ _ _ _ | exact J5H _ _ _ _ _ _ _ _ | exact J5z _ _ _ _ _ _ _ _ | exact J6z _ _ _ _ _ _ _ _ | exact J67 _ _ _ _ _ _ _ _ | exact J3c _ _ _ _ _ _ _ _)
theorem J63 (tx : Tx K mg J6 J1 J8 Jf Jh J5) : MtG P w K mg base J1 "place_of" 1 ["self","name"] (J7n J6 J1):=by
 refine tx.J2R.g tx.JL.cl J11 (fun _ _ _ _ _ _ us hl=>match us,hl with | [_,_],_=>rfl) (fun vs H Q E h=>?_) (fun f cdv A outer s H vs Q E hr h=>?_)
 ·obtain ⟨h,nm,nms,i,rfl,_⟩:=h
  rfl
 ·obtain ⟨h,nm,nms,k,rfl,hC,hk,hb,q⟩:=h
  refine ⟨_,(J2 (JQ PassesOwn.never rfl (J79 (K:=K) rfl rfl tx.J1h (J0 (J18 (K:=K) rfl (pv 0) rfl) J3)) (J2x rfl (Jo (Jd (i:=2) J11.nd rfl (Or.inl rfl)) (Jo (Jd (i:=3) J11.nd rfl (Or.inl rfl)) J1Q))) (J9 (J04 (Ji J1x (J18 (K:=K) rfl (pv 3) rfl) (pv 1) (Jr _)) (J9 (Jl (pv 2))) Jw)))
   (J9 J8w)),?_⟩
  walk_at "st"
  obtain ⟨d,kk,a1,a2,a3,a4,a5,a6,qs,⟨dx,h1⟩,h2,h3⟩:=hC
  have cH:=tx.JL.cl
  have nH:=tx.Jz
  have cP:=tx.J0X.cl
  have nP:=tx.JX
  walk_at "rd"
  refine J6Y (K:=K) (xs:=qs) (fun i σ H2=>Here (∃ v1 v2,σ = [some (.ref h),some (T nm),v1,v2] ∧ i ≤ k ∧ Same H H2)) (Here.mk ⟨none,none,rfl,Nat.zero_le _,Same.refl _⟩) (fun i σ H2 _ hv=>by obtain ⟨_,_,_,_,s2⟩:=hv.out; exact SqL.of (s2 _ _ h2)) ?_ ?_
  ·rintro i x p σ H2 hx hp hv
   obtain ⟨v1,v2,rfl,hi,s2⟩:=hv.out
   obtain ⟨n2,hn2,p1,sk,m,c,pa,rfl,dx2,hp2⟩:=h3.back hx
   have s3 : Same H2 (upd H2 p (.tup [.int i,.ref p1])):=JS hp _
   have hp3:=s3 _ _ (s2 _ _ hp2)
   walk_at "rd"
   refine ite2 (fun e=>?_) (fun e=>?_)
   ·have e' : n2 = nm:=J2D (of_decide_eq_true e)
    subst e'
    have hik : i = k:=by
     rcases Nat.lt_or_ge i k with z | z
     ·exact absurd hn2 (hb i z)
     ·omega
    subst hik
    walk_at "rd"
    exact q _ (s2.trans s3)
   ·have e' : ¬ n2 = nm:=fun z=>e (decide_eq_true (by rw [z]))
    refine Here.mk ⟨_,_,rfl,?_,s2.trans s3⟩
    rcases Nat.lt_or_ge i k with z | z
    ·exact z
    ·have : i = k:=by omega
     subst this
     rw [hk] at hn2
     exact absurd (Option.some.inj hn2).symm e'
  ·rintro σ H2 hv
   obtain ⟨v1,v2,rfl,hi,s2⟩:=hv.out
   have:=h3.len
   have hkl:=(List.getElem?_eq_some_iff.mp hk).1
   exact absurd hi (by omega)
theorem J43 (tx : Tx K mg J6 J1 J8 Jf Jh J5) : FnG P w K mg base "breaks_pair" 1 ["word","mark","other"] J9p:=by
 refine tx.J49.g J3r (fun _ _ _ _ _ _ us hl=>match us,hl with | [_,_,_],_=>rfl) (fun vs H Q E h=>?_) (fun f cdv A outer s H vs Q E hr h=>?_)
 ·obtain ⟨wd,m,o,rfl,_⟩:=h
  rfl
 ·obtain ⟨wd,m,o,rfl,q⟩:=h
  refine ⟨_,(J2 (J04 (Ji J1x (pv 1) (JA (l:=[45]) (by decide +kernel)) (Jr _)) (J9 (Jl J0W)) Jw)
   (J9 (Jl (J8j (Ji J1x (pv 0) (JA (l:=[97,112,97,114,116]) (by decide +kernel)) (Jr _)) (J4Y J1x (pv 1) (pv 2) (Jr _)) (J4Y J3H (pv 1) (pv 2) (Jr _)))))),?_⟩
  walk_at "st"
  have dT : ∀ a b : Nat,decide (T [a] = T [b]) = decide (a = b):=fun a b=>decide_eq_decide.mpr ⟨fun z=>by simpa using J2D z,fun z=>by rw [z]⟩
  walk_at "rd"
  refine ite2 (fun e=>?_) (fun e=>?_)
  ·have e' : m = 45:=by simpa using J2D (of_decide_eq_true e)
   unfold brkB at q
   rw [decide_eq_true e'] at q
   walk_at "rd"
   exact q
  have e1 : ¬ m = 45:=fun z=>e (decide_eq_true (by rw [z]))
  unfold brkB at q
  rw [decide_eq_false e1,Bool.not_false,Bool.true_and] at q
  walk_at "rd"
  refine ite2 (fun e=>?_) (fun e=>?_)
  ·have e' : wd = J1K:=J2D (of_decide_eq_true e)
   rw [if_pos e',← dT] at q
   walk_at "rd"
   exact q
  ·have e' : ¬ wd = J1K:=fun z=>e (decide_eq_true (by rw [z]; rfl))
   rw [if_neg e',← dT] at q
   walk_at "rd"
   exact q
theorem J41 (tx : Tx K mg J6 J1 J8 Jf Jh J5) : FnG P w K mg base "longer_rows" 1 ["rows","marks"] J9q:=by
 refine tx.J4c.g J0Y (fun _ _ _ _ _ _ us hl=>match us,hl with | [_,_],_=>rfl) (fun vs H Q E h=>?_) (fun f cdv A outer s H vs Q E hr h=>?_)
 ·obtain ⟨rl,rows,ms,rfl,_⟩:=h
  rfl
 ·obtain ⟨rl,rows,ms,rfl,h1,hl,hrl,hm,q⟩:=h
  refine ⟨_,(J2 (Jj (i:=2) J0Y.nd rfl (Or.inl rfl) (J14 J3))
   (J2 (JQ PassesOwn.never rfl (J03 (K:=K) rfl (pv 0)) (Jd (i:=3) J0Y.nd rfl (Or.inr rfl)) (J9 (J81 (i:=2) J0Y.nd rfl (Or.inl rfl) (J1p (osc:=J4 JW) (ON:=["rows","marks","longer","row"]) (N:=["mark","row"]) (js:=[none,some 3]) ⟨rfl,by decide +kernel,by decide +kernel,by decide +kernel,rfl,by decide +kernel⟩ rfl rfl rfl (J4O (pv 1)) (fun _ _ _ _ _=>Jd (i:=0) (show List.Nodup (["mark","row"] : List Str) from by decide +kernel) rfl (Or.inl rfl)) (fun _ _ _ _ _=>J1i) (fun _ _ _ _ _=>(Je J0J (pv 1) (pv 0)))) J8K)))
   (J9 (Jl (pv 2))))),?_⟩
  walk_at "st"
  walk_at "rd"
  intro D nD
  obtain ⟨H1,e1,hD,s1⟩:=newl (xs:=[]) nD
  rw [← e1]
  have h11:=s1 _ _ h1
  walk_at "rd"
  refine J16 (K:=K) (xs:=rows.map T) (fun i σ H2=>Here (∃ v,σ = [some (.ref rl),some (T ms),some (.ref D),v] ∧ H2 D = some (.lst (((rows.take i).flatMap fun r=>ms.map fun c=>r ++ [c]).map T)) ∧ Same H H2)) (Here.mk ⟨none,rfl,hD,s1⟩) (fun i σ H2 _ hv=>by obtain ⟨_,_,_,s2⟩:=hv.out; exact SqL.of (s2 _ _ h1)) ?_ ?_
  ·rintro i x σ H2 hx hv
   obtain ⟨v,rfl,hD2,s2⟩:=hv.out
   obtain ⟨r,hr1,rfl⟩:=J5F hx
   have hrr:=hrl r (List.mem_of_getElem? hr1)
   have hfl : ((((rows.take i).flatMap fun r=>ms.map fun c=>r ++ [c]).map T).length) ≤ 1280:=by
    rw [List.length_map]
    have:=J60 (fun r : List Nat=>ms.map fun c=>r ++ [c]) 5 (rows.take i) fun x _=>by rw [List.length_map]; exact hm
    rw [List.length_take] at this
    have h3 : min i rows.length * 5 ≤ 256 * 5:=Nat.mul_le_mul_right 5 (by omega)
    omega
   walk_at "rd"
   refine J8f (fun x=>match x with | .str ⟨⟨l⟩⟩=>T (r ++ l) | v=>v) (J2X ms) (by rw [List.length_map]; omega) (fun x hm' H' s' R hR=>?_) (fun D2 H3 nD2 s3 hD3=>?_)
   ·obtain ⟨c,hc,rfl⟩:=List.mem_map.mp hm'
    walk_at "rd"
    exact hR H' (Same.refl _)
   have hD2':=s3 _ _ hD2
   have e3 : ((ms.map fun c=>T [c]).map fun x=>match x with | .str ⟨⟨l⟩⟩=>T (r ++ l) | v=>v) = (ms.map fun c=>r ++ [c]).map T:=by
    rw [List.map_map,List.map_map]
    rfl
   rw [e3] at hD3
   have hl3 : ((ms.map fun c=>r ++ [c]).map T).length ≤ 5:=by rw [List.length_map,List.length_map]; exact hm
   walk_at "rd"
   refine Here.mk ⟨some (T r),rfl,?_,(s2.trans s3).upd nD⟩
   rw [Jb,J76 _ _ hr1,List.map_append]
  ·rintro σ H2 hv
   obtain ⟨v,rfl,hD2,s2⟩:=hv.out
   rw [List.length_map,List.take_of_length_le (Nat.le_refl _)] at hD2
   walk_at "rd"
   exact q D H2 nD s2 hD2
theorem J4b (tx : Tx K mg J6 J1 J8 Jf Jh J5) : FnG P w K mg base "meets_needs" 2 ["house","day","column"] (J9o J6 J1):=by
 have J3t:=J7m (P:=P) (w:=w) (base:=base) tx
 refine tx.J42.g J1u (fun _ _ _ _ _ _ us hl=>match us,hl with | [_,_,_],_=>rfl) (fun vs H Q E h=>?_) (fun f cdv A outer s H vs Q E hr h=>?_)
 ·obtain ⟨h,d,col,dd,ks,nds,ps,ls,rfl,_⟩:=h
  rfl
 ·obtain ⟨h,d,col,dd,ks,nds,ps,ls,rfl,hk,hcl,hkl,q⟩:=h
  refine ⟨_,(J2 (JQ PassesOwn.never rfl (J4O (J18 (K:=K) rfl (pv 0) rfl)) (Jd (i:=3) J1u.nd rfl (Or.inl rfl)) (J2 (Jj (i:=4) J1u.nd rfl (Or.inl rfl) (J5C J3t (hr.mono (by decide)) (pv 0) (J0 (pv 1) (J0 (pv 3) J3))))
   (J9 (J04 (J30 (J86 J9f J9f (Jx (J1J (K:=K) rfl) (pv 4) J7 (fun _ _=>rfl)) (J3k (K:=K) rfl (pv 2) (J0 (pv 3) J3)) (Jx (J1J (K:=K) rfl) (pv 4) J7 (fun _ _=>rfl)))) (J9 (Jl J0W)) Jw))))
   (J9 (Jl J0W))),?_⟩
  walk_at "st"
  clear J3t
  have hk0:=hk
  obtain ⟨a1,a2,a3,a4,a5,a6,xs',ys',zs',ws',⟨dx,h1⟩,_⟩:=hk0
  have cH:=tx.JL.cl
  have nH:=tx.JV
  have hkl' : ks.length ≤ 1000:=by omega
  walk_at "rd"
  refine J91 (l:=ks) (fun i σ H2=>Here (∃ v1 v2,σ = [some (.ref h),some (.int d),some (T col),v1,v2] ∧ (ks.take i).all (metB nds d col) = true ∧ Same H H2)) (Here.mk ⟨none,none,rfl,rfl,Same.refl _⟩) ?_ ?_
  ·rintro i c σ H2 hc hv
   obtain ⟨v1,v2,rfl,ha,s2⟩:=hv.out
   have hk2:=hk.same s2
   have h12:=s2 _ _ h1
   have eA:=J3P (metB nds d col) ks hc
   walk_at "rd"
   intro t H3 s3 ht
   have e1:=at0 (V.int (JT nds d c).1) (V.int (JT nds d c).2)
   have e2:=at1 (V.int (JT nds d c).1) (V.int (JT nds d c).2)
   walk_at "rd"
   have no : metB nds d col c = false → Q (V.bl false) H3:=fun z=>by
    have:=q H3 (s2.trans s3)
    unfold J4l at this
    rw [J6b _ _ hc z] at this
    exact this
   refine ite2 (fun z1=>?_) (fun z1=>?_)
   ·walk_at "rd"
    refine ite2 (fun z2=>?_) (fun z2=>?_)
    ·walk_at "rd"
     refine no ?_
     unfold metB
     rw [z1,Bool.true_and]
     simpa using z2
    ·refine Here.mk ⟨_,_,rfl,?_,s2.trans s3⟩
     rw [eA,ha,Bool.true_and]
     unfold metB
     rw [z1,Bool.true_and]
     simpa using z2
   ·walk_at "rd"
    show Q (V.bl false) H3
    refine no ?_
    unfold metB
    rw [Bool.eq_false_iff.mpr z1,Bool.false_and]
  ·rintro σ H2 hv
   obtain ⟨v1,v2,rfl,ha,s2⟩:=hv.out
   rw [List.take_length] at ha
   walk_at "rd"
   have:=q H2 s2
   unfold J4l at this
   rw [ha] at this
   exact this
end
section
variable {P : Program} {w : World} {K : PySem.W.Frag} {mg : Str → Option Value} {base : Heap} {J6 J1 J8 Jf Jh J5 : Addr}
local macro_rules | `(tactic| walk_at "lk")=>`(tactic| first | exact J5z _ _ _ _ _ _ _ _ | exact J3c _ _ _ _ _ _ _ _)
theorem J45 (tx : Tx K mg J6 J1 J8 Jf Jh J5) : FnG P w K mg base "keeps_pairs" 2 ["house","column"] (J9n J6 J1):=by
 have J2r:=J63 (P:=P) (w:=w) (base:=base) tx
 have J2g:=J43 (P:=P) (w:=w) (base:=base) tx
 refine tx.J40.g J13 (fun _ _ _ _ _ _ us hl=>match us,hl with | [_,_],_=>rfl) (fun vs H Q E h=>?_) (fun f cdv A outer s H vs Q E hr h=>?_)
 ·obtain ⟨h,col,dd,ks,nds,ps,ls,prs,rfl,_⟩:=h
  rfl
 ·obtain ⟨h,col,dd,ks,nds,ps,ls,prs,rfl,hz,hin,hcl,hpl,q⟩:=h
  refine ⟨_,(J2 (JQ PassesOwn.never rfl (J03 (K:=K) rfl (J18 (K:=K) rfl (pv 0) rfl)) (J2x rfl (Jo (Jd (i:=2) J13.nd rfl (Or.inl rfl)) (Jo (Jd (i:=3) J13.nd rfl (Or.inl rfl)) (Jo (Jd (i:=4) J13.nd rfl (Or.inl rfl)) J1Q)))) (J9 (J04 (J1X (JY J2g (hr.mono (by decide)) (J0 (pv 2) (J0 (Jx J1d (pv 1) (J5C J2r (hr.mono (by decide)) (pv 0) (J0 (pv 3) J3)) (fun _ _=>rfl)) (J0 (Jx J1d (pv 1) (J5C J2r (hr.mono (by decide)) (pv 0) (J0 (pv 4) J3)) (fun _ _=>rfl)) J3))))) (J9 (Jl J0W)) Jw)))
   (J9 (Jl J0W))),?_⟩
  walk_at "st"
  clear J2r J2g
  have hN:=hz.n
  obtain ⟨a1,a2,a3,a4,a5,a6,xs',ys',zs',ws',us,⟨dx,h1⟩,_,_,_,_,_,_,_,h9,h10⟩:=hz
  have cH:=tx.JL.cl
  have nH:=tx.J0c
  have hcl' : col.length ≤ 1000:=by omega
  walk_at "rd"
  refine J16 (K:=K) (xs:=us) (fun i σ H2=>Here (∃ v1 v2 v3,σ = [some (.ref h),some (T col),v1,v2,v3] ∧ (prs.take i).all (fun p=>!pqB col p) = true ∧ Same H H2)) (Here.mk ⟨none,none,none,rfl,rfl,Same.refl _⟩) (fun i σ H2 _ hv=>by obtain ⟨_,_,_,_,_,s2⟩:=hv.out; exact SqL.of (s2 _ _ h9)) ?_ ?_
  ·rintro i x σ H2 hx hv
   obtain ⟨v1,v2,v3,rfl,ha,s2⟩:=hv.out
   obtain ⟨pr,hpr,t,rfl,ht⟩:=h10.back hx
   have ht2:=s2 _ _ ht
   have h12:=s2 _ _ h1
   have hN2:=hN.same s2
   have eA:=J3P (fun p=>!pqB col p) prs hpr
   obtain ⟨⟨i1,i2⟩,⟨j1,j2⟩,hw⟩:=hin pr (List.mem_of_getElem? hpr)
   have hil:=(List.getElem?_eq_some_iff.mp i1).1
   have hjl:=(List.getElem?_eq_some_iff.mp j1).1
   rw [List.length_map] at hil hjl
   have gi:=J1A (l:=col) (i:=pr.i) (by omega)
   have gj:=J1A (l:=col) (i:=pr.j) (by omega)
   walk_at "rd"
   intro H3 s3
   have h13:=s3 _ _ h12
   have hN3:=hN2.same s3
   walk_at "rd"
   intro H4 s4
   walk_at "rd"
   refine ite2 (fun z=>?_) (fun z=>?_)
   ·walk_at "rd"
    have:=q H4 ((s2.trans s3).trans s4)
    unfold prsB at this
    rw [J6b _ _ hpr (by unfold pqB; rw [z]; rfl)] at this
    exact this
   ·refine Here.mk ⟨_,_,_,rfl,?_,(s2.trans s3).trans s4⟩
    rw [eA,ha,Bool.true_and]
    unfold pqB
    rw [Bool.eq_false_iff.mpr z]
    rfl
  ·rintro σ H2 hv
   obtain ⟨v1,v2,v3,rfl,ha,s2⟩:=hv.out
   rw [h10.len,List.take_length] at ha
   walk_at "rd"
   have:=q H2 s2
   unfold prsB at this
   rw [ha] at this
   exact this
end
theorem J7r {ks : List Nat} {nds : List Nd} {ls : List (List Nat × Int)} {ps : List Ps} {d : Int} {i : Nat} {p : Ps} (h : ps[i]? = some p) : (chF ks nds ls ps d)[i]? = some (mayP ks nds ls p d ++ [45]):=by
 unfold chF
 rw [List.getElem?_map,h]
 rfl
section
variable {P : Program} {w : World} {K : PySem.W.Frag} {mg : Str → Option Value} {base : Heap} {J6 J1 J8 Jf Jh J5 : Addr}
local macro_rules | `(tactic| walk_at "lk")=>`(tactic| first | exact J2w _ _ _ _ _ _ _ _ | exact J67 _ _ _ _ _ _ _ _)
theorem J4j (tx : Tx K mg J6 J1 J8 Jf Jh J5) : FnX P w K mg base "columns" 4 ["house","day"] (J8D J6 J1 J5):=by
 have J9a:=Ja7 (P:=P) (w:=w) (base:=base) tx
 have J2i:=J41 (P:=P) (w:=w) (base:=base) tx
 have J2k:=J4b (P:=P) (w:=w) (base:=base) tx
 have J2f:=J45 (P:=P) (w:=w) (base:=base) tx
 refine tx.J6L.x J0s (fun _ _ _ _ _ _ us hl=>match us,hl with | [_,_],_=>rfl) (fun vs H Q E h=>?_) (fun f cdv A outer s H vs Q E hr h=>?_)
 ·obtain ⟨h,d,dd,ks,nds,ps,ls,prs,rfl,_⟩:=h
  rfl
 ·obtain ⟨h,d,dd,ks,nds,ps,ls,prs,rfl,hz,hin,hpl,hkl,qe,qa⟩:=h
  refine ⟨_,(J2 (J3m (k:=2) (osc:=J4 J0T) (ON:=["house","day","choices","many","marks","found"]) (N:=["p","day","house"]) (js:=[none,some 1,some 0]) J0s.nd rfl (Or.inl rfl) ⟨rfl,by decide +kernel,by decide +kernel,by decide +kernel,rfl,by decide +kernel⟩ rfl rfl rfl (Jy rfl tx.JE (J0 (Js (JM (K:=K) rfl) rfl tx.J0Z PySem.boot_len (J0 (J18 (K:=K) rfl (pv 0) rfl) J3)) J3)) (fun _ _ _ _ _=>Jd (i:=0) (show List.Nodup (["p","day","house"] : List Str) from by decide +kernel) rfl (Or.inl rfl)) (fun _ _ _ _ _=>J1i) (fun _ _ _ _ _=>(Je J0J (J5C J9a (hr.mono (by decide)) (pv 2) (J0 (pv 0) (J0 (pv 1) J3))) (JA (l:=[45]) (by decide +kernel)))))
   (J2 (Jj (i:=3) J0s.nd rfl (Or.inl rfl) J7)
   (J2 (JQ J8n.own rfl (J03 (K:=K) rfl (pv 2)) (Jd (i:=4) J0s.nd rfl (Or.inl rfl)) (J9 (J81 (i:=3) J0s.nd rfl (Or.inl rfl) (Js J1b rfl tx.J0Z PySem.boot_len (J0 (pv 4) J3)) J9Y)))
   (J2 (J04 (Ji J2L (pv 3) (J84 rfl tx.J0q) (Jr _)) (J9 (J7S J8n tx.J1v tx.J4h (J0 (JA (l:=[116,104,101,114,101,32,97,114,101,32,116,111,111,32,109,97,110,121,32,99,111,108,117,109,110,115,32,116,111,32,99,104,111,111,115,101,32,102,114,111,109]) (by decide +kernel)) J3))) Jw)
   (J2 (Jj (i:=5) J0s.nd rfl (Or.inl rfl) (J14 (J0 (JA (l:=[]) (by decide +kernel)) J3)))
   (J2 (JQ J8n.own rfl (J03 (K:=K) rfl (pv 2)) (Jd (i:=4) J0s.nd rfl (Or.inl rfl)) (J9 (Jj (i:=5) J0s.nd rfl (Or.inl rfl) (JY J2i (hr.mono (by decide)) (J0 (pv 5) (J0 (pv 4) J3))))))
   (J9 (Jl (Js (J4g rfl) rfl tx.J1S J6Z (J0 (J1p (osc:=J4 J0T) (ON:=["house","day","choices","many","marks","found"]) (N:=["column","house","day"]) (js:=[none,some 0,some 1]) ⟨rfl,by decide +kernel,by decide +kernel,by decide +kernel,rfl,by decide +kernel⟩ rfl rfl rfl (J03 (K:=K) rfl (pv 5)) (fun _ _ _ _ _=>Jd (i:=0) (show List.Nodup (["column","house","day"] : List Str) from by decide +kernel) rfl (Or.inl rfl)) (fun _ _ _ _ _=>J22 (PW.pt (J1n (J1X (JY J2k (hr.mono (by decide)) (J0 (pv 1) (J0 (pv 2) (J0 (pv 0) J3))))) (J1g (J1X (JY J2f (hr.mono (by decide)) (J0 (pv 1) (J0 (pv 0) J3)))))))) (fun _ _ _ _ _=>(pv 0))) J3)))))))))),?_⟩
  walk_at "st"
  clear J9a J2i J2k J2f
  have hz0:=hz
  obtain ⟨a1,a2,a3,a4,a5,a6,xs,ys,zs,ws,us,⟨dx,h1⟩,h2,h3,h4,h5,_⟩:=hz0
  have cH:=tx.JL.cl
  have nH:=tx.Jz
  have hyl:=h5.len
  walk_at "rd"
  have hcl:=J9W (nds:=nds) (ls:=ls) (ps:=ps) (d:=d) hkl
  refine JP (List.range ps.length) (fun _=>true) (fun (i : Nat) y _=>y = T ((chF ks nds ls ps d).getD i [])) (fun σ=>∃ v,σ = [v,some (.int d),some (.ref h)]) (J0V 0 _) (by rw [List.length_map,List.length_range,List.length_range]; omega) (by rw [List.length_range]; omega) ⟨_,rfl⟩ (fun _ _ _ _ _ z=>z) (fun i a v σ H' ha hv hσ s' Rf Rt _ hR=>?_) (fun D H2 ys nD s2 hys hD=>?_)
  ·obtain ⟨w1,rfl⟩:=hσ
   obtain ⟨rfl,hal⟩:=J3W ha
   rw [List.getElem?_map,List.getElem?_range (by omega)] at hv
   cases hv
   have hk':=hz.k.same s'
   obtain ⟨n,hn⟩ : ∃ n,ps[a]? = some n:=⟨_,List.getElem?_eq_getElem hal⟩
   have hn' : ps[((0 : Int) + (a : Int)).toNat]? = some n:=by rw [show ((0 : Int) + (a : Int)).toNat = a by omega]; exact hn
   have h1':=s' _ _ h1
   have e1 : (chF ks nds ls ps d).getD a [] = mayP ks nds ls n d ++ [45]:=by rw [List.getD_eq_getElem?_getD,J7r hn]; rfl
   have hml:=(J2M ks nds ls n d).length_le
   walk_at "rd"
   intro H3 s3
   walk_at "rd"
   exact hR _ _ _ rfl ⟨_,rfl⟩ s3 (by rw [e1])
  rw [List.filter_eq_self.mpr fun _ _=>rfl] at hys
  have ey : ys = (chF ks nds ls ps d).map T:=by
   refine (hys.eqmap fun a y h=>h).trans ?_
   refine List.ext_getElem? fun i=>?_
   rw [List.getElem?_map,List.getElem?_map]
   by_cases hi : i < ps.length
   ·rw [List.getElem?_range hi]
    have : i < (chF ks nds ls ps d).length:=by unfold chF; rw [List.length_map]; exact hi
    rw [List.getElem?_eq_getElem this]
    show some (T (List.getD _ i [])) = some (T _)
    rw [List.getD_eq_getElem?_getD,List.getElem?_eq_getElem this]
    rfl
   ·rw [List.getElem?_eq_none (by rw [List.length_range]; omega),List.getElem?_eq_none (by unfold chF; rw [List.length_map]; omega)]
    rfl
  rw [ey] at hD
  have hcn : (chF ks nds ls ps d).length = ps.length:=by unfold chF; rw [List.length_map]
  have eC : colF ks nds ls ps prs d = (J15 (chF ks nds ls ps d)).filter (J2F ks nds d prs):=rfl
  rw [eC] at qa
  clear eC ey hys
  generalize chF ks nds ls ps d = cs at hD hcl hcn qe qa
  walk_at "rd"
  refine J16 (K:=K) (xs:=cs.map T) (fun i σ H3=>Here (∃ v,σ = [some (.ref h),some (.int d),some (.ref D),some (.int (prdF (cs.take i) : Nat)),v,none] ∧ Same H2 H3)) (Here.mk ⟨none,rfl,Same.refl _⟩) (fun i σ H3 _ hv=>by obtain ⟨_,_,s2⟩:=hv.out; exact SqL.of (s2 _ _ hD)) ?_ ?_
  ·rintro i x σ H3 hx hv
   obtain ⟨v,rfl,s3⟩:=hv.out
   obtain ⟨c,hc,rfl⟩:=J5F hx
   have hc5:=(hcl c (List.mem_of_getElem? hc)).2
   have hc5' : c.length ≤ 1000:=by omega
   have eP : prdF (cs.take (i + 1)) = prdF (cs.take i) * c.length:=J32 _ _ _ hc
   walk_at "rd"
   refine Here.mk ⟨some (T c),?_,s3⟩
   rw [eP,Int.natCast_mul]
   rfl
  ·rintro σ H3 hv
   obtain ⟨v,rfl,s3⟩:=hv.out
   rw [List.length_map,List.take_length]
   have S3:=s2.trans s3
   have hD3:=s3 _ _ hD
   walk_at "rd"
   refine ite2 (fun z=>?_) (fun z=>?_)
   ·have z':=of_decide_eq_true z
    walk_at "rd"
    exact qe (by omega) H3 S3
   have z' : prdF cs ≤ 256:=by
    have:=of_decide_eq_false (Bool.eq_false_iff.mpr z)
    omega
   replace qa:=qa z'
   clear qe z
   walk_at "rd"
   intro F nF
   obtain ⟨H4,e4,hF,s4⟩:=newl (xs:=[T []]) nF
   rw [← e4]
   have hD4:=s4 _ _ hD3
   walk_at "rd"
   refine J16 (K:=K) (xs:=cs.map T) (fun i σ H5=>Here (∃ (v : Option V) (F : Addr),σ = [some (.ref h),some (.int d),some (.ref D),some (.int (prdF cs : Nat)),v,some (.ref F)] ∧ H5 F = some (.lst ((J15 (cs.take i)).map T)) ∧ Same H4 H5)) (Here.mk ⟨_,F,rfl,hF,Same.refl _⟩) (fun i σ H5 _ hv=>by obtain ⟨_,_,_,_,s5⟩:=hv.out; exact SqL.of (s5 _ _ hD4)) ?_ ?_
   ·rintro i x σ H5 hx hv
    obtain ⟨v,F5,rfl,hF5,s5⟩:=hv.out
    obtain ⟨c,hc,rfl⟩:=J5F hx
    have hc5:=(hcl c (List.mem_of_getElem? hc)).2
    have eR : J15 (cs.take (i + 1)) = J1D c (J15 (cs.take i)):=J32 _ _ _ hc
    have hl1 : (J15 (cs.take i)).length ≤ 256:=by
     have e:=J2C (cs.take i) [[]] 1 rfl
     have:=J7X cs (fun c hc=>(hcl c hc).1) i
     unfold prdF at this z'
     unfold J15
     omega
    have hl2 : ∀ r ∈ J15 (cs.take i),r.length ≤ 40:=fun r hr=>by
     have:=(J3N.mp hr).len
     rw [List.length_take] at this
     omega
    walk_at "rd"
    intro F6 H6 nF6 s6 hF6
    walk_at "rd"
    refine Here.mk ⟨_,F6,rfl,?_,s5.trans s6⟩
    rw [eR]
    exact hF6
   ·rintro σ H5 hv
    obtain ⟨v,F5,rfl,hF5,s5⟩:=hv.out
    rw [List.length_map,List.take_length] at hF5
    have S5:=(S3.trans s4).trans s5
    have hl1 : (J15 cs).length ≤ 256:=by
     have e:=J2C cs [[]] 1 rfl
     unfold prdF at z'
     unfold J15
     omega
    have hl2 : ∀ r ∈ J15 cs,r.length = ps.length:=fun r hr=>by
     have:=(J3N.mp hr).len
     omega
    walk_at "rd"
    refine JP (J15 cs) (J2F ks nds d prs) (fun r y _=>y = T r) (fun σ=>∃ v,σ = [v,some (.ref h),some (.int d)]) (J1L (SqL.of hF5)) (by rw [List.length_map]) (by omega) ⟨_,rfl⟩ (fun _ _ _ _ _ z=>z) (fun i a v σ H' ha hv hσ s' Rf Rt hFf hR=>?_) (fun G H6 ys nG s6 hys hG=>?_)
    ·obtain ⟨w1,rfl⟩:=hσ
     rw [List.getElem?_map,ha] at hv
     cases hv
     have hal:=hl2 a (List.mem_of_getElem? ha)
     have hal' : a.length ≤ 40:=by omega
     have hz':=hz.same (S5.trans s')
     have hk':=hz'.k
     walk_at "rd"
     intro H7 s7
     have hz7:=hz'.same s7
     walk_at "rd"
     refine ite2 (fun e1=>?_) (fun e1=>?_)
     ·walk_at "rd"
      intro H8 s8
      walk_at "rd"
      refine ite2 (fun e2=>?_) (fun e2=>?_)
      ·walk_at "rd"
       exact hR _ _ _ (by unfold J2F; rw [e1,e2]; rfl) ⟨_,rfl⟩ (s7.trans s8) rfl
      ·exact hFf _ _ (by unfold J2F; rw [e1,Bool.eq_false_iff.mpr e2]; rfl) ⟨_,rfl⟩ (s7.trans s8)
     ·exact hFf _ _ (by unfold J2F; rw [Bool.eq_false_iff.mpr e1]; rfl) ⟨_,rfl⟩ s7
    have er:=hys.eqmap (f:=T) (fun a y e=>e)
    rw [er] at hG
    have hgl:=List.length_filter_le (J2F ks nds d prs) (J15 cs)
    generalize (J15 cs).filter (J2F ks nds d prs) = gs at hG hgl qa
    walk_at "rd"
    intro R ss nR hp hs
    have S6:=S5.trans s6
    walk_at "rd"
    exact qa R _ ss (S6.trans (JS nR _)) (S6.free nR) hp hs Jb
end
noncomputable def J7c : Sp:=fun vs H Q _=>∃ (c k : Int),vs = [.int c,.int k] ∧ ∀ r : Int,0 ≤ r → r < 2147483647 → Q (.int r) H
noncomputable def J8F : Sp:=fun vs H Q _=>∃ (c : Int),vs = [.int c] ∧ ∀ (ks : List Nat) (H' : Hp),Same H H' → ks.length ≤ 4 → ks.Nodup → (∀ k ∈ ks,k ≠ 45) → Q (T ks) H'
noncomputable def J7i : Sp:=fun vs H Q _=>∃ (c m : Int),vs = [.int c,.int m] ∧ 0 ≤ m ∧ m ≤ 8 ∧ ∀ (a : Addr) (H' : Hp) (nms : List (List Nat)),Same H H' → H a = none → H' a = some (.lst (nms.map T)) → (nms.length : Int) = m → (∀ (i j : Nat) nm,nms[i]? = some nm → nms[j]? = some nm → i = j) → Q (.ref a) H'
noncomputable def J7j : Sp:=fun vs H Q _=>∃ (c : Int) (ks : List Nat),vs = [.int c,T ks] ∧ ks.length ≤ 4 ∧ ∀ (sk : List Nat) (H' : Hp),Same H H' → sk.length ≤ 4 → Q (T sk) H'
noncomputable def J7d (K : PySem.W.Frag) : Sp:=fun vs H Q _=>∃ (sc : Addr) (ns : List Int) (k : Int) (sl : Addr) (sks : List (List Nat)),vs = [.ref sc,.int k,.ref sl] ∧ SqL K H sc (ns.map V.int) ∧ 0 ≤ k ∧ H sl = some (.lst (sks.map T)) ∧ sks.length ≤ 8 ∧ (∀ s ∈ sks,s.length ≤ 20) ∧ ∀ (col : List Nat),col.length = sks.length → Q (T col) H
noncomputable def smb : List Nat:=[98,99,100,101,102,103,104,105,106,107,109,110,111,112,113,114,115,116,117,118,119,120,121,122]
theorem J8u (i : Int) (h0 : 0 ≤ i) (h1 : i < 24) : atI smb i = some (smb.getD i.toNat 0):=by
 have:=J1A (l:=smb) (i:=i.toNat) (by show i.toNat < 24; omega)
 rwa [Int.toNat_of_nonneg h0] at this
theorem J8R : ∀ i : Nat,i < 24 → ∀ j : Nat,j < 24 → smb.getD i 0 = smb.getD j 0 → i = j:=by decide +kernel
noncomputable def nm61 (c : Int) (st : List Nat) (k : Nat) : List Nat:=cutN st none (some (c / 8 % ((st.length : Int) + 1))) ++ [smb.getD ((c / 64 + (0 + (k : Int))) % 24).toNat 0] ++ cutN st (some (c / 8 % ((st.length : Int) + 1))) none
theorem J7p {c : Int} {st : List Nat} {i j : Nat} (hi : i < 8) (hj : j < 8) (h : nm61 c st i = nm61 c st j) : i = j:=by
 unfold nm61 at h
 have h1:=List.append_cancel_right h
 have h2:=List.append_cancel_left h1
 have h3 : smb.getD ((c / 64 + (0 + (i : Int))) % 24).toNat 0 = smb.getD ((c / 64 + (0 + (j : Int))) % 24).toNat 0:=by simpa using h2
 have a0:=Int.emod_nonneg (c / 64 + (0 + (i : Int))) (show (24 : Int) ≠ 0 by decide)
 have a1:=Int.emod_lt_of_pos (c / 64 + (0 + (i : Int))) (show (0 : Int) < 24 by decide)
 have b0:=Int.emod_nonneg (c / 64 + (0 + (j : Int))) (show (24 : Int) ≠ 0 by decide)
 have b1:=Int.emod_lt_of_pos (c / 64 + (0 + (j : Int))) (show (0 : Int) < 24 by decide)
 have:=J8R _ (by omega) _ (by omega) h3
 omega
theorem J4R (a b c e : Int) (i : Int) (h0 : 0 ≤ i) (h : i < 4) : ∃ z : Int,atI [V.int a,V.int b,V.int c,V.int e] i = some (.int z) ∧ (z = a ∨ z = b ∨ z = c ∨ z = e):=by
 obtain ⟨v,h1,h2⟩:=J29 [V.int a,V.int b,V.int c,V.int e] i h0 h
 have hm:=List.mem_of_getElem? h2
 simp only [List.mem_cons,List.not_mem_nil,or_false] at hm
 rcases hm with rfl | rfl | rfl | rfl
 all_goals exact ⟨_,h1,by simp⟩
section
variable {P : Program} {w : World} {K : PySem.W.Frag} {mg : Str → Option Value} {base : Heap} {J6 J1 J8 Jf Jh J5 : Addr}
theorem J2j (tx : Tx K mg J6 J1 J8 Jf Jh J5) : FnG P w K mg base "_law_cell_at" 1 ["_law_script","_law_k"] (J7e K):=by
 refine tx.J46.g J3x (fun _ _ _ _ _ _ us hl=>match us,hl with | [_,_],_=>rfl) (fun vs H Q E h=>?_) (fun f cdv A outer s H vs Q E hr h=>?_)
 ·obtain ⟨a,ns,k,rfl,_⟩:=h
  rfl
 ·obtain ⟨a,ns,k,rfl,hS,h0,q⟩:=h
  refine ⟨_,(J2 (J04 (Ji J9m (pv 1) (Js (JM (K:=K) rfl) rfl tx.J0Z PySem.boot_len (J0 (pv 0) J3)) (Jr _)) (J9 (Jl (Jx (Ju (K:=K) rfl) (pv 0) (pv 1) (fun _ _=>rfl)))) Jw)
   (J9 (Jl J7))),?_⟩
  walk_at "st"
  walk_at "rd"
  refine ite2 (fun c=>?_) (fun c=>?_)
  ·have c' : k < ((ns.map V.int).length : Int):=of_decide_eq_true c
   rw [List.length_map] at c'
   have hv:=J8m h0 c'
   walk_at "rd"
   exact q
  ·have c' : ¬ k < ((ns.map V.int).length : Int):=of_decide_eq_false (Bool.eq_false_iff.mpr c)
   rw [List.length_map] at c'
   walk_at "rd"
   rw [J8l (by omega)] at q
   exact q
theorem J1w (tx : Tx K mg J6 J1 J8 Jf Jh J5) : FnG P w K mg base "_law_mixed" 1 ["_law_cell","_law_k"] J7c:=by
 refine tx.J5d.g J1o (fun _ _ _ _ _ _ us hl=>match us,hl with | [_,_],_=>rfl) (fun vs H Q E h=>?_) (fun f cdv A outer s H vs Q E hr h=>?_)
 ·obtain ⟨c,k,rfl,_⟩:=h
  rfl
 ·obtain ⟨c,k,rfl,q⟩:=h
  refine ⟨_,(J2 (Jj (i:=2) J1o.nd rfl (Or.inl rfl) (Je JH (Je J0A (pv 0) (Je J1Z J7 (pv 1))) J7))
   (J2 (JQ PassesOwn.never rfl (Jy rfl tx.JE (J0 J7 J3)) (Jd (i:=3) J1o.nd rfl (Or.inl rfl)) (J9 (Jj (i:=2) J1o.nd rfl (Or.inl rfl) (Je JH (Je J0A (Je J0A (Je J0A (Je J1Z (pv 2) (pv 2)) (Je J1Z J7 (pv 2))) (Je J1Z J7 (pv 1))) J7) J7))))
   (J9 (Jl (pv 2))))),?_⟩
  walk_at "st"
  have b0 : 0 ≤ (c + 7919 * k) % 2147483647:=Int.emod_nonneg _ (by decide)
  have b1 : (c + 7919 * k) % 2147483647 < 2147483647:=Int.emod_lt_of_pos _ (by decide)
  walk_at "rd"
  refine J05 (n:=2) (fun i σ H2=>Here (∃ (n : Int) (v : Option V),σ = [some (.int c),some (.int k),some (.int n),v] ∧ 0 ≤ n ∧ n < 2147483647 ∧ H2 = H)) (Here.mk ⟨_,none,rfl,b0,b1,rfl⟩) ?_ ?_
  ·rintro i σ H2 hi hv
   obtain ⟨n,v,rfl,n0,n1,eH⟩:=hv.out
   rw [eH]
   have z0 : 0 ≤ (n * n + 48271 * n + 11 * k + 7) % 2147483647:=Int.emod_nonneg _ (by decide)
   have z1 : (n * n + 48271 * n + 11 * k + 7) % 2147483647 < 2147483647:=Int.emod_lt_of_pos _ (by decide)
   walk_at "rd"
   exact Here.mk ⟨_,_,rfl,z0,z1,rfl⟩
  ·rintro σ H2 hv
   obtain ⟨n,v,rfl,n0,n1,eH⟩:=hv.out
   rw [eH]
   walk_at "rd"
   exact q n n0 n1
theorem J5j (tx : Tx K mg J6 J1 J8 Jf Jh J5) : FnG P w K mg base "_law_kinds" 1 ["_law_cell"] J8F:=by
 refine tx.J5i.g J2B (fun _ _ _ _ _ _ us hl=>match us,hl with | [_],_=>rfl) (fun vs H Q E h=>?_) (fun f cdv A outer s H vs Q E hr h=>?_)
 ·obtain ⟨c,rfl,_⟩:=h
  rfl
 ·obtain ⟨c,rfl,q⟩:=h
  refine ⟨_,(J2 (Jj (i:=1) J2B.nd rfl (Or.inr rfl) (JA (l:=[65,66,67,68,69,70,71,72,73,74,75,76,77,78,79,80,81,82,83,84,85,86,87,88,89,90]) (by decide +kernel)))
   (J9 (Jl (J3R (K:=K) rfl (JA (l:=[]) (by decide +kernel)) (J0 (J1p (osc:=J4 J0p) (ON:=["_law_cell","_law_letters"]) (N:=["_law_k","_law_letters","_law_cell"]) (js:=[none,some 1,some 0]) ⟨rfl,by decide +kernel,by decide +kernel,by decide +kernel,rfl,by decide +kernel⟩ rfl rfl rfl (Jy rfl tx.JE (J0 (Je J0A J7 (Je JH (pv 0) J7)) J3)) (fun _ _ _ _ _=>Jd (i:=0) (show List.Nodup (["_law_k","_law_letters","_law_cell"] : List Str) from by decide +kernel) rfl (Or.inl rfl)) (fun _ _ _ _ _=>J1i) (fun _ _ _ _ _=>(Jx J1d (pv 1) (Je JH (Je J0A (Je J00 (pv 2) J7) (Je J1Z J7 (pv 0))) J7) (fun _ _=>rfl)))) J3))))),?_⟩
  walk_at "st"
  have m0:=Int.emod_nonneg c (show (4 : Int) ≠ 0 by decide)
  have m4:=Int.emod_lt_of_pos c (show (0 : Int) < 4 by decide)
  walk_at "rd"
  generalize em : (1 + c % 4).toNat = m
  have hm : m ≤ 4:=by omega
  refine JP (List.range m) (fun _=>true) (fun (i : Nat) y _=>y = T [cap ((c / 4 + 7 * (0 + (i : Int))) % 26)]) (fun σ=>∃ v,σ = [v,some (T ABC),some (.int c)]) (J0V 0 _) (by rw [List.length_map]) (by rw [List.length_range]; omega) ⟨_,rfl⟩ (fun _ _ _ _ _ z=>z) (fun i a v σ H' ha hv hσ s' Rf Rt _ hR=>?_) (fun D H2 ys nD s2 hys hD=>?_)
  ·obtain ⟨w1,rfl⟩:=hσ
   obtain ⟨rfl,hal⟩:=J3W ha
   rw [List.getElem?_map,List.getElem?_range (by omega)] at hv
   cases hv
   have hl:=J9H ((c / 4 + 7 * (0 + (a : Int))) % 26) (Int.emod_nonneg _ (by decide)) (Int.emod_lt_of_pos _ (by decide))
   walk_at "rd"
   exact hR _ _ _ rfl ⟨_,rfl⟩ (Same.refl _) rfl
  rw [List.filter_eq_self.mpr fun _ _=>rfl] at hys
  have ey : ys = (((List.range m).map fun (i : Nat)=>cap ((c / 4 + 7 * (0 + (i : Int))) % 26)).map fun c=>[c]).map T:=by
   rw [List.map_map,List.map_map]
   exact hys.eqmap fun a y h=>h
  have hl : ((List.range m).map fun (i : Nat)=>cap ((c / 4 + 7 * (0 + (i : Int))) % 26)).length = m:=by rw [List.length_map,List.length_range]
  have hn : ((List.range m).map fun (i : Nat)=>cap ((c / 4 + 7 * (0 + (i : Int))) % 26)).Nodup:=J1N _ List.nodup_range fun x hx y hy e=>by
   have h1:=List.mem_range.mp hx
   have h2:=List.mem_range.mp hy
   have a:=Int.emod_nonneg (c / 4 + 7 * (0 + (x : Int))) (show (26 : Int) ≠ 0 by decide)
   have b:=Int.emod_nonneg (c / 4 + 7 * (0 + (y : Int))) (show (26 : Int) ≠ 0 by decide)
   unfold cap at e
   omega
  have h45 : ∀ k ∈ ((List.range m).map fun (i : Nat)=>cap ((c / 4 + 7 * (0 + (i : Int))) % 26)),k ≠ 45:=fun k hk=>by
   obtain ⟨i,_,rfl⟩:=List.mem_map.mp hk
   unfold cap
   omega
  generalize ((List.range m).map fun (i : Nat)=>cap ((c / 4 + 7 * (0 + (i : Int))) % 26)) = ks at ey hl hn h45
  rw [ey] at hD
  have hD3 : SqL K H2 D ((ks.map fun c=>[c]).map T):=SqL.of hD
  have hjl : (((ks.map fun c=>[c]).map List.length).sum + (ks.map fun c=>[c]).length * ([] : List Nat).length ≤ 16777216):=by
   rw [J2I,List.length_map,List.length_nil,Nat.mul_zero]
   omega
  walk_at "rd"
  rw [J2e,J2b]
  exact q ks H2 s2 (by omega) hn h45
theorem J5m (tx : Tx K mg J6 J1 J8 Jf Jh J5) : FnG P w K mg base "_law_names" 2 ["_law_cell","_law_many"] J7i:=by
 refine tx.J5c.g J0u (fun _ _ _ _ _ _ us hl=>match us,hl with | [_,_],_=>rfl) (fun vs H Q E h=>?_) (fun f cdv A outer s H vs Q E hr h=>?_)
 ·obtain ⟨c,m,rfl,_⟩:=h
  rfl
 ·obtain ⟨c,m,rfl,m0,m8,q⟩:=h
  refine ⟨_,(J2 (Jj (i:=2) J0u.nd rfl (Or.inr rfl) (JA (l:=[98,99,100,101,102,103,104,105,106,107,109,110,111,112,113,114,115,116,117,118,119,120,121,122]) (by decide +kernel)))
   (J2 (Jj (i:=3) J0u.nd rfl (Or.inr rfl) (JA (l:=[]) (by decide +kernel)))
   (J2 (JQ PassesOwn.never rfl (Jy rfl tx.JE (J0 (Je JH (pv 0) J7) J3)) (Jd (i:=4) J0u.nd rfl (Or.inl rfl)) (J9 (Jj (i:=3) J0u.nd rfl (Or.inr rfl) (Je J0J (pv 3) (Jx J1d (pv 2) (Je JH (Je J00 (pv 0) (Je J0A J7 (Je J1Z J7 (pv 4)))) J7) (fun _ _=>rfl))))))
   (J2 (Jj (i:=5) J0u.nd rfl (Or.inr rfl) (Je JH (Je J00 (pv 0) J7) (Je J0A (Js J1b rfl tx.J0Z PySem.boot_len (J0 (pv 3) J3)) J7)))
   (J9 (Jl (J1p (osc:=J4 J0o) (ON:=["_law_cell","_law_many","_law_some","_law_stem","_law_k","_law_at"]) (N:=["_law_k","_law_stem","_law_some","_law_at","_law_cell"]) (js:=[none,some 3,some 2,some 5,some 0]) ⟨rfl,by decide +kernel,by decide +kernel,by decide +kernel,rfl,by decide +kernel⟩ rfl rfl rfl (Jy rfl tx.JE (J0 (pv 1) J3)) (fun _ _ _ _ _=>Jd (i:=0) (show List.Nodup (["_law_k","_law_stem","_law_some","_law_at","_law_cell"] : List Str) from by decide +kernel) rfl (Or.inl rfl)) (fun _ _ _ _ _=>J1i) (fun _ _ _ _ _=>(Je J0J (Je J0J (J3T J8g (pv 1) J6p (J3j (pv 3))) (Jx J1d (pv 2) (Je JH (Je J0A (Je J00 (pv 4) J7) (pv 0)) J7) (fun _ _=>rfl))) (J3T J8g (pv 1) (J3j (pv 3)) J6p)))))))))),?_⟩
  walk_at "st"
  have r0:=Int.emod_nonneg c (show (8 : Int) ≠ 0 by decide)
  have r8:=Int.emod_lt_of_pos c (show (0 : Int) < 8 by decide)
  have hsb : smb.length ≤ 1000:=by decide
  walk_at "rd"
  refine J05 (n:=(c % 8).toNat) (fun i σ H2=>Here (∃ (v : Option V) (st : List Nat),σ = [some (.int c),some (.int m),some (T smb),some (T st),v,none] ∧ st.length = i ∧ H2 = H)) (Here.mk ⟨none,[],rfl,rfl,rfl⟩) ?_ ?_
  ·rintro i σ H2 hi hv
   obtain ⟨v,st,rfl,hst,eH⟩:=hv.out
   rw [eH]
   have hlt:=J8u (c / (8 + 13 * (0 + (i : Int))) % 24) (Int.emod_nonneg _ (by decide)) (Int.emod_lt_of_pos _ (by decide))
   have hst' : st.length ≤ 8:=by omega
   walk_at "rd"
   exact Here.mk ⟨_,_,rfl,by rw [List.length_append,hst]; rfl,rfl⟩
  ·rintro σ H2 hv
   obtain ⟨v,st,rfl,hst,eH⟩:=hv.out
   rw [eH]
   have hst' : st.length ≤ 8:=by omega
   have l1 : (0 : Int) < (st.length : Int) + 1:=by omega
   have a0:=Int.emod_nonneg (c / 8) (show (st.length : Int) + 1 ≠ 0 by omega)
   have a1:=Int.emod_lt_of_pos (c / 8) l1
   walk_at "rd"
   have k1:=J6B st none (some (c / 8 % ((st.length : Int) + 1)))
   have k2:=J6B st (some (c / 8 % ((st.length : Int) + 1))) none
   refine JP (List.range m.toNat) (fun _=>true) (fun (i : Nat) y _=>y = T (nm61 c st i)) (fun σ=>∃ v,σ = [v,some (T st),some (T smb),some (.int (c / 8 % ((st.length : Int) + 1))),some (.int c)]) (J0V 0 _) (by rw [List.length_map]) (by rw [List.length_range]; omega) ⟨_,rfl⟩ (fun _ _ _ _ _ z=>z) (fun i a v σ H' ha hv hσ s' Rf Rt _ hR=>?_) (fun D H3 ys nD s3 hys hD=>?_)
   ·obtain ⟨w1,rfl⟩:=hσ
    obtain ⟨rfl,hal⟩:=J3W ha
    rw [List.getElem?_map,List.getElem?_range (by omega)] at hv
    cases hv
    have hl:=J8u ((c / 64 + (0 + (a : Int))) % 24) (Int.emod_nonneg _ (by decide)) (Int.emod_lt_of_pos _ (by decide))
    walk_at "rd"
    exact hR _ _ _ rfl ⟨_,rfl⟩ (Same.refl _) rfl
   rw [List.filter_eq_self.mpr fun _ _=>rfl] at hys
   have ey : ys = ((List.range m.toNat).map (nm61 c st)).map T:=by
    rw [List.map_map]
    exact hys.eqmap fun a y h=>h
   rw [ey] at hD
   walk_at "rd"
   refine q D H3 _ s3 nD hD (by rw [List.length_map,List.length_range]; omega) fun i j nm h1 h2=>?_
   rw [List.getElem?_map] at h1 h2
   have hi : i < m.toNat:=by
    rcases Nat.lt_or_ge i m.toNat with z | z
    ·exact z
    ·rw [List.getElem?_eq_none (by rw [List.length_range]; exact z)] at h1; cases h1
   have hj : j < m.toNat:=by
    rcases Nat.lt_or_ge j m.toNat with z | z
    ·exact z
    ·rw [List.getElem?_eq_none (by rw [List.length_range]; exact z)] at h2; cases h2
   rw [List.getElem?_range hi] at h1
   rw [List.getElem?_range hj] at h2
   have e1 : nm61 c st i = nm:=Option.some.inj h1
   have e2 : nm61 c st j = nm:=Option.some.inj h2
   exact J7p (by omega) (by omega) (e1.trans e2.symm)
theorem J4F (tx : Tx K mg J6 J1 J8 Jf Jh J5) : FnG P w K mg base "_law_skills" 2 ["_law_number","_law_kinds_here"] J7j:=by
 refine tx.J4M.g J1f (fun _ _ _ _ _ _ us hl=>match us,hl with | [_,_],_=>rfl) (fun vs H Q E h=>?_) (fun f cdv A outer s H vs Q E hr h=>?_)
 ·obtain ⟨c,ks,rfl,_⟩:=h
  rfl
 ·obtain ⟨c,ks,rfl,hk,q⟩:=h
  refine ⟨_,(J2 (Jj (i:=2) J1f.nd rfl (Or.inl rfl) (JA (l:=[]) (by decide +kernel)))
   (J2 (JQ PassesOwn.never rfl (Jy rfl tx.JE (J0 (Js J1b rfl tx.J0Z PySem.boot_len (J0 (pv 1) J3)) J3)) (Jd (i:=3) J1f.nd rfl (Or.inl rfl)) (J9 (J04 (Ji J2L (Je JH (Je J00 (pv 0) (Jx (Ju (K:=K) rfl) (J14 (J0 J7 (J0 J7 (J0 J7 (J0 J7 J3))))) (pv 3) (fun _ _=>rfl))) J7) J7 (Jr _)) (J9 (Jj (i:=2) J1f.nd rfl (Or.inl rfl) (Je J0J (pv 2) (Jx J1d (pv 1) (pv 3) (fun _ _=>rfl))))) Jw)))
   (J2 (J04 (Ji J1x (Je JH (Je J00 (pv 0) J7) J7) J7 (Jr _)) (J9 (Jl (J9O (pv 2) (Jaf J9t J7)))) Jw)
   (J9 (Jl (pv 2)))))),?_⟩
  walk_at "st"
  have hk' : ks.length ≤ 1000:=by omega
  walk_at "rd"
  refine J05 (n:=ks.length) (fun i σ H2=>Here (∃ (v : Option V) (sk : List Nat),σ = [some (.int c),some (T ks),some (T sk),v] ∧ sk.length ≤ i ∧ Same H H2)) (Here.mk ⟨none,[],rfl,Nat.le_refl _,Same.refl _⟩) ?_ ?_
  ·rintro i σ H2 hi hv
   obtain ⟨v,sk,rfl,hsk,s2⟩:=hv.out
   obtain ⟨z,hz,hz2⟩:=J4R 1 3 9 27 (0 + (i : Int)) (by omega) (by omega)
   have z0 : 0 < z:=by omega
   have z1 : z < 1000:=by omega
   have g1:=J1A (l:=ks) (i:=i) hi
   rw [← Int.zero_add (i : Int)] at g1
   have hsk' : sk.length ≤ 8:=by omega
   walk_at "rd"
   intro l nl
   generalize e1 : upd H2 l _ = H3
   obtain ⟨hl,s3⟩:=J5S nl e1
   walk_at "rd"
   refine ite2 (fun _=>?_) (fun _=>?_)
   ·walk_at "rd"
    exact Here.mk ⟨_,_,rfl,by rw [List.length_append,List.length_singleton]; omega,s2.trans s3⟩
   ·exact Here.mk ⟨_,_,rfl,by omega,s2.trans s3⟩
  ·rintro σ H2 hv
   obtain ⟨v,sk,rfl,hsk,s2⟩:=hv.out
   have hsk' : sk.length ≤ 8:=by omega
   walk_at "rd"
   refine ite2 (fun _=>?_) (fun _=>?_)
   ·walk_at "rd"
    exact q _ H2 s2 (by rw [List.length_reverse]; omega)
   ·walk_at "rd"
    exact q _ H2 s2 (by omega)
theorem J4G (tx : Tx K mg J6 J1 J8 Jf Jh J5) : FnG P w K mg base "_law_column" 2 ["_law_script","_law_k","_law_skills_here"] (J7d K):=by
 have JD:=J2j (P:=P) (w:=w) (base:=base) tx
 have JF:=J1w (P:=P) (w:=w) (base:=base) tx
 refine tx.J4K.g J0D (fun _ _ _ _ _ _ us hl=>match us,hl with | [_,_,_],_=>rfl) (fun vs H Q E h=>?_) (fun f cdv A outer s H vs Q E hr h=>?_)
 ·obtain ⟨sc,ns,k,sl,sks,rfl,_⟩:=h
  rfl
 ·obtain ⟨sc,ns,k,sl,sks,rfl,hS,k0,hsl,h8,h20,q⟩:=h
  refine ⟨_,(J2 (Jj (i:=3) J0D.nd rfl (Or.inl rfl) (JA (l:=[]) (by decide +kernel)))
   (J2 (JQ PassesOwn.never rfl (Jy rfl tx.JE (J0 (Js (JM (K:=K) rfl) rfl tx.J0Z PySem.boot_len (J0 (pv 2) J3)) J3)) (Jd (i:=4) J0D.nd rfl (Or.inl rfl)) (J2 (Jj (i:=5) J0D.nd rfl (Or.inl rfl) (Je J0J (Je J0J (JA (l:=[45]) (by decide +kernel)) (Jx (Ju (K:=K) rfl) (pv 2) (pv 4) (fun _ _=>rfl))) (Jx (Ju (K:=K) rfl) (pv 2) (pv 4) (fun _ _=>rfl))))
   (J9 (Jj (i:=3) J0D.nd rfl (Or.inl rfl) (Je J0J (pv 3) (Jx J1d (pv 5) (Je JH (JY JF (hr.mono (by decide)) (J0 (JY JD (hr.mono (by decide)) (J0 (pv 0) (J0 (pv 1) J3))) (J0 (pv 4) J3))) (Js J1b rfl tx.J0Z PySem.boot_len (J0 (pv 5) J3))) (fun _ _=>rfl)))))))
   (J9 (Jl (pv 3))))),?_⟩
  walk_at "st"
  clear JD JF
  have h8' : (sks.map T).length ≤ 8:=by rw [List.length_map]; exact h8
  walk_at "rd"
  refine J05 (n:=(sks.map T).length) (fun i σ H2=>Here (∃ (v v2 : Option V) (col : List Nat),σ = [some (.ref sc),some (.int k),some (.ref sl),some (T col),v,v2] ∧ col.length = i ∧ H2 = H)) (Here.mk ⟨none,none,[],rfl,rfl,rfl⟩) ?_ ?_
  ·rintro i σ H2 hi hv
   obtain ⟨v,v2,col,rfl,hcl,eH⟩:=hv.out
   rw [eH]
   rw [List.length_map] at hi
   have hx : (sks.map T)[i]? = some (T sks[i]):=by rw [List.getElem?_map,List.getElem?_eq_getElem hi]; rfl
   have ha : atI (sks.map T) (0 + (i : Int)) = some (T sks[i]):=by rw [Int.zero_add]; exact J0K hx
   have h2:=h20 sks[i] (List.getElem_mem _)
   generalize sks[i] = sk at ha h2
   have hml : ([45] ++ sk ++ sk).length ≤ 1000:=by simp only [List.length_append,List.length_singleton]; omega
   have hcl' : col.length ≤ 8:=by omega
   walk_at "rd"
   intro r _ _
   have hpos : (0 : Int) < ((([45] ++ sk ++ sk).length : Nat) : Int):=by simp only [List.length_append,List.length_singleton]; omega
   obtain ⟨cc,hcc,_⟩:=J29 ([45] ++ sk ++ sk) (r % ((([45] ++ sk ++ sk).length : Nat) : Int)) (Int.emod_nonneg _ (by omega)) (Int.emod_lt_of_pos _ hpos)
   walk_at "rd"
   exact Here.mk ⟨_,_,_,rfl,by rw [List.length_append,hcl]; rfl,rfl⟩
  ·rintro σ H2 hv
   obtain ⟨v,v2,col,rfl,hcl,eH⟩:=hv.out
   rw [eH]
   rw [List.length_map] at hcl
   walk_at "rd"
   exact q col hcl
end
structure DayN (ks : List Nat) (d : Int) (i : Nat) (nds : List Nd) : Prop where
 u : nds.Pairwise J3U
 k : ∀ n ∈ nds,n.day = d ∧ ∃ j < i,ks[j]? = some n.kind
 l : nds.length ≤ i
theorem DayN.nil (ks : List Nat) (d : Int) : DayN ks d 0 []:=⟨List.Pairwise.nil,fun n h=>(by cases h),Nat.le_refl _⟩
theorem DayN.next {ks : List Nat} {d : Int} {i : Nat} {nds : List Nd} (h : DayN ks d i nds) : DayN ks d (i + 1) nds:=⟨h.u,fun n hn=>⟨(h.k n hn).1,let ⟨j,a,b⟩:=(h.k n hn).2; ⟨j,by omega,b⟩⟩,Nat.le_succ_of_le h.l⟩
theorem DayN.snoc {ks : List Nat} {d : Int} {i : Nat} {nds : List Nd} (h : DayN ks d i nds) (hn : ks.Nodup) {kk : Nat} (hk : ks[i]? = some kk) (l m : Int) : DayN ks d (i + 1) (nds ++ [⟨d,kk,l,m⟩]):=by
 refine ⟨?_,fun n hn=>?_,by rw [List.length_append,List.length_singleton]; have:=h.l; omega⟩
 ·rw [List.pairwise_append]
  refine ⟨h.u,List.pairwise_singleton _ _,fun n hnn m' hm'=>?_⟩
  rw [List.mem_singleton.mp hm']
  rintro ⟨e1,e2⟩
  obtain ⟨_,j,hj,z⟩:=h.k n hnn
  have e2' : n.kind = kk:=e2
  rw [e2'] at z
  have:=(List.getElem_inj hn).mp ((List.getElem?_eq_some_iff.mp z).2.trans (List.getElem?_eq_some_iff.mp hk).2.symm)
  omega
 ·rcases List.mem_append.mp hn with hn | hn
  ·obtain ⟨a,j,b,c⟩:=h.k n hn
   exact ⟨a,j,by omega,c⟩
  ·rw [List.mem_singleton.mp hn]
   exact ⟨rfl,i,by omega,hk⟩
theorem J7y {nms : List (List Nat)} {x : Int} (h0 : 0 ≤ x) (h1 : x < (nms.length : Int)) : ∃ nm,atI (nms.map T) x = some (T nm) ∧ nms[x.toNat]? = some nm:=by
 obtain ⟨v,hv,e⟩:=J29 (nms.map T) x h0 (by rw [List.length_map]; exact h1)
 obtain ⟨nm,h,rfl⟩:=J5F e
 exact ⟨nm,hv,h⟩
theorem J7G {nms : List (List Nat)} (hinj : ∀ (i j : Nat) nm,nms[i]? = some nm → nms[j]? = some nm → i = j) {i : Nat} {nm : List Nat} (h : nms[i]? = some nm) : J7B nms nm i:=⟨h,fun j hj z=>by have:=hinj i j nm h z; omega⟩
theorem J9z (i : Int) (h0 : 0 ≤ i) (h : i < 2) : ∃ wd : List Nat,atI [T J1K,T J5w] i = some (T wd) ∧ (wd = J1K ∨ wd = J5w):=by
 obtain ⟨v,h1,h2⟩:=J29 [T J1K,T J5w] i h0 h
 have hm:=List.mem_of_getElem? h2
 simp only [List.mem_cons,List.not_mem_nil,or_false] at hm
 rcases hm with rfl | rfl
 ·exact ⟨_,h1,.inl rfl⟩
 ·exact ⟨_,h1,.inr rfl⟩
noncomputable def J8G : Sp:=fun vs H Q _=>∃ (c d : Int) (ks col : List Nat),vs = [.int c,.int d,T ks,T col] ∧ ks.length ≤ 4 ∧ ks.Nodup ∧ col.length ≤ 8 ∧ ∀ (a : Addr) (H' : Hp) (nds : List Nd) (xs : List V),Same H H' → H a = none → H' a = some (.lst xs) → All2 NdAt H' nds xs → DayN ks d ks.length nds → Q (.ref a) H'
noncomputable def J8B : Sp:=fun vs H Q _=>∃ (c : Int) (nl : Addr) (nms : List (List Nat)),vs = [.int c,.ref nl] ∧ H nl = some (.lst (nms.map T)) ∧ nms.length ≤ 8 ∧ (∀ (i j : Nat) nm,nms[i]? = some nm → nms[j]? = some nm → i = j) ∧ ∀ (a : Addr) (H' : Hp) (prs : List Pq) (xs : List V),Same H H' → H a = none → H' a = some (.lst xs) → All2 PqT H' prs xs → (∀ p ∈ prs,PqIn nms p) → prs.length ≤ 3 → Q (.ref a) H'
noncomputable def J8C (K : PySem.W.Frag) : Sp:=fun vs H Q _=>∃ (cl nl : Addr) (cs : List Int) (nms : List (List Nat)) (days : Int),vs = [.ref cl,.ref nl,.int days] ∧ SqL K H cl (cs.map V.int) ∧ cs.length ≤ 4 ∧ H nl = some (.lst (nms.map T)) ∧ nms.length ≤ 8 ∧ 1 ≤ days ∧ days ≤ 3 ∧ ∀ (a : Addr) (H' : Hp) (ls : List (List Nat × Int)) (xs : List V),Same H H' → H a = none → H' a = some (.lst xs) → All2 LvT H' ls xs → ls.length ≤ 4 → Q (.ref a) H'
section
variable {P : Program} {w : World} {K : PySem.W.Frag} {mg : Str → Option Value} {base : Heap} {J6 J1 J8 Jf Jh J5 : Addr}
theorem J5r (tx : Tx K mg J6 J1 J8 Jf Jh J5) : FnG P w K mg base "_law_needs" 2 ["_law_cell","_law_day","_law_kinds_here","_law_column_here"] J8G:=by
 have JF:=J1w (P:=P) (w:=w) (base:=base) tx
 refine tx.J57.g J09 (fun _ _ _ _ _ _ us hl=>match us,hl with | [_,_,_,_],_=>rfl) (fun vs H Q E h=>?_) (fun f cdv A outer s H vs Q E hr h=>?_)
 ·obtain ⟨c,d,ks,col,rfl,_⟩:=h
  rfl
 ·obtain ⟨c,d,ks,col,rfl,hk,hkn,hcl,q⟩:=h
  refine ⟨_,(J2 (Jj (i:=4) J09.nd rfl (Or.inl rfl) (J14 J3))
   (J2 (JQ PassesOwn.never rfl (Jy rfl tx.JE (J0 (Js J1b rfl tx.J0Z PySem.boot_len (J0 (pv 2) J3)) J3)) (Jd (i:=5) J09.nd rfl (Or.inl rfl)) (J2 (Jj (i:=6) J09.nd rfl (Or.inl rfl) (JY JF (hr.mono (by decide)) (J0 (pv 0) (J0 (Je J0A (Je J1Z J7 (pv 1)) (pv 5)) J3))))
   (J2 (Jj (i:=7) J09.nd rfl (Or.inl rfl) (J3k (K:=K) rfl (pv 3) (J0 (Jx J1d (pv 2) (pv 5) (fun _ _=>rfl)) J3)))
   (J2 (Jj (i:=8) J09.nd rfl (Or.inl rfl) (Js (J70 rfl) rfl tx.J5n J9A (J0 J7 (J0 (Je J6e (pv 7) (Jx (Ju (K:=K) rfl) (J14 (J0 J7 (J0 J7 (J0 J7 (J0 J7 J3))))) (Je JH (pv 6) J7) (fun _ _=>rfl))) J3))))
   (J2 (Jj (i:=9) J09.nd rfl (Or.inl rfl) (Js (J6W rfl) rfl tx.J5o J9C (J0 J7 (J0 (Je J0A (pv 7) (Jx (Ju (K:=K) rfl) (J14 (J0 J7 (J0 J7 (J0 J7 (J0 J7 J3))))) (Je JH (Je J00 (pv 6) J7) J7) (fun _ _=>rfl))) J3))))
   (J9 (J04 (PW.pt (J6H (Ji J2L (pv 9) J7 (Jr _)) (J4U (Ji J1x (Je JH (Je J00 (pv 6) J7) J7) J7 (Jr _))))) (J9 (J3h (J3e PySem.F.plainAttrs_list PySem.F.slot_list_append PySem.F.type_list_append J1s (pv 4) (J0 (J1W (J0 (pv 1) (J0 (Jx J1d (pv 2) (pv 5) (fun _ _=>rfl)) (J0 (pv 8) (J0 (pv 9) J3))))) J3)))) Jw)))))))
   (J9 (Jl (pv 4))))),?_⟩
  walk_at "st"
  clear JF
  have hk' : ks.length ≤ 1000:=by omega
  have hcl' : col.length ≤ 1000:=by omega
  walk_at "rd"
  intro nl fnl
  obtain ⟨H1,e1,ynl,s1⟩:=newl (xs:=[]) fnl
  rw [← e1]
  walk_at "rd"
  refine J05 (n:=ks.length) (fun i σ H2=>Here (∃ (v5 v6 v7 v8 v9 : Option V) (nds : List Nd) (xs : List V),σ = [some (.int c),some (.int d),some (T ks),some (T col),some (.ref nl),v5,v6,v7,v8,v9] ∧ Same H H2 ∧ H2 nl = some (.lst xs) ∧ All2 NdAt H2 nds xs ∧ DayN ks d i nds)) (Here.mk ⟨none,none,none,none,none,[],[],rfl,s1,ynl,trivial,DayN.nil ks d⟩) ?_ ?_
  ·rintro i σ H2 hi hv
   obtain ⟨v5,v6,v7,v8,v9,nds,xs,rfl,S2,ynl2,aN,hD⟩:=hv.out
   have hkj : ks[i]? = some (ks.getD i 0):=by rw [List.getD_eq_getElem?_getD,List.getElem?_eq_getElem hi]; rfl
   have g1:=J1A (l:=ks) (i:=i) hi
   rw [← Int.zero_add (i : Int)] at g1
   generalize ks.getD i 0 = kk at g1 hkj
   have hxl:=aN.len
   have hdl:=hD.l
   have hxl' : xs.length ≤ 1000:=by omega
   have fin : ∀ (H6 : Hp) (t : Addr) (l m : Int),Same H2 H6 → H6 t = some (.tup [.int d,T [kk],.int l,.int m]) → (H6 nl = some (.lst xs) ∧ (∃ nds' : List Nd,Same H (upd H6 nl (.lst (xs ++ [.ref t]))) ∧ All2 NdAt (upd H6 nl (.lst (xs ++ [.ref t]))) nds' (xs ++ [.ref t]) ∧ DayN ks d (i + 1) nds')):=fun H6 t l m s6 ht=>by
    have ynl6:=s6 _ _ ynl2
    have kp : J19 H6 (upd H6 nl (.lst (xs ++ [.ref t]))):=J27 ynl6
    have kk5:=s6.keeps.trans kp
    exact ⟨ynl6,nds ++ [⟨d,kk,l,m⟩],(S2.trans s6).upd fnl,(aN.imp fun a y=>NdAt.keeps a y _ _ kk5).snoc ⟨t,rfl,kp _ _ ht (fun zs z=>by cases z)⟩,hD.snoc hkn hkj l m⟩
   walk_at "rd"
   intro r r0 r1
   obtain ⟨z1,hz1,_⟩:=J4R 0 0 1 2 (r % 4) (Int.emod_nonneg _ (by decide)) (Int.emod_lt_of_pos _ (by decide))
   obtain ⟨z2,hz2,_⟩:=J4R 0 0 1 3 (r / 4 % 4) (Int.emod_nonneg _ (by decide)) (Int.emod_lt_of_pos _ (by decide))
   walk_at "rd"
   intro l1 f1
   generalize e2 : upd H2 l1 _ = H3
   obtain ⟨y1,s3⟩:=J5S f1 e2
   walk_at "rd"
   intro l2 f2
   generalize e3 : upd H3 l2 _ = H4
   obtain ⟨y2,s4⟩:=J5S f2 e3
   have S4:=s3.trans s4
   have ynl4:=S4 _ _ ynl2
   walk_at "rd"
   have ins : ∀ (l m : Int) (t : Addr),H4 t = none → ∃ nds' : List Nd,upd H4 t (.tup [.int d,T [kk],.int l,.int m]) nl = some (.lst xs) ∧ Same H (upd (upd H4 t (.tup [.int d,T [kk],.int l,.int m])) nl (.lst (xs ++ [.ref t]))) ∧ All2 NdAt (upd (upd H4 t (.tup [.int d,T [kk],.int l,.int m])) nl (.lst (xs ++ [.ref t]))) nds' (xs ++ [.ref t]) ∧ DayN ks d (i + 1) nds':=fun l m t nt=>by
    obtain ⟨b1,nds',b2,b3,b4⟩:=fin _ t l m (S4.trans (JS nt _)) Jb
    exact ⟨nds',b1,b2,b3,b4⟩
   refine ite2 (fun _=>?_) (fun _=>?_)
   ·walk_at "rd"
    intro t nt
    obtain ⟨nds',b1,b2,b3,b4⟩:=ins _ _ t nt
    walk_at "rd"
    exact Here.mk ⟨_,_,_,_,_,nds',_,rfl,b2,Jb,b3,b4⟩
   walk_at "rd"
   refine ite2 (fun _=>?_) (fun _=>?_)
   ·walk_at "rd"
    intro t nt
    obtain ⟨nds',b1,b2,b3,b4⟩:=ins _ _ t nt
    walk_at "rd"
    exact Here.mk ⟨_,_,_,_,_,nds',_,rfl,b2,Jb,b3,b4⟩
   ·exact Here.mk ⟨_,_,_,_,_,nds,xs,rfl,S2.trans S4,S4 _ _ ynl2,aN.imp fun a y=>NdAt.keeps a y _ _ S4.keeps,hD.next⟩
  ·rintro σ H2 hv
   obtain ⟨v5,v6,v7,v8,v9,nds,xs,rfl,S2,ynl2,aN,hD⟩:=hv.out
   walk_at "rd"
   exact q nl H2 nds xs S2 fnl ynl2 aN hD
theorem J5g (tx : Tx K mg J6 J1 J8 Jf Jh J5) : FnG P w K mg base "_law_pairs" 2 ["_law_cell","_law_names_here"] J8B:=by
 have JF:=J1w (P:=P) (w:=w) (base:=base) tx
 refine tx.J5b.g J08 (fun _ _ _ _ _ _ us hl=>match us,hl with | [_,_],_=>rfl) (fun vs H Q E h=>?_) (fun f cdv A outer s H vs Q E hr h=>?_)
 ·obtain ⟨c,nl,nms,rfl,_⟩:=h
  rfl
 ·obtain ⟨c,nl,nms,rfl,hnl,hn8,hinj,q⟩:=h
  refine ⟨_,(J2 (Jj (i:=2) J08.nd rfl (Or.inl rfl) (J14 J3))
   (J2 (Jj (i:=3) J08.nd rfl (Or.inl rfl) (Js (JM (K:=K) rfl) rfl tx.J0Z PySem.boot_len (J0 (pv 1) J3)))
   (J2 (JQ PassesOwn.never rfl (Jy rfl tx.JE (J0 (Je JH (pv 0) J7) J3)) (Jd (i:=4) J08.nd rfl (Or.inl rfl)) (J9 (J04 (Ji J2L (pv 3) J7 (Jr _)) (J2 (Jj (i:=5) J08.nd rfl (Or.inl rfl) (JY JF (hr.mono (by decide)) (J0 (pv 0) (J0 (pv 4) J3))))
   (J2 (Jj (i:=6) J08.nd rfl (Or.inl rfl) (Je JH (pv 5) (pv 3)))
   (J2 (Jj (i:=7) J08.nd rfl (Or.inl rfl) (Je JH (Je J0A (Je J0A (pv 6) J7) (Je JH (Je J00 (pv 5) (pv 3)) (Je J6e (pv 3) J7))) (pv 3)))
   (J9 (J3h (J3e PySem.F.plainAttrs_list PySem.F.slot_list_append PySem.F.type_list_append J1s (pv 2) (J0 (J1W (J0 (Jx (Ju (K:=K) rfl) (J14 (J0 (JA (l:=[97,112,97,114,116]) (by decide +kernel)) (J0 (JA (l:=[119,105,116,104]) (by decide +kernel)) J3))) (Je JH (Je J00 (pv 5) J7) J7) (fun _ _=>rfl)) (J0 (Jx (Ju (K:=K) rfl) (pv 1) (pv 6) (fun _ _=>rfl)) (J0 (Jx (Ju (K:=K) rfl) (pv 1) (pv 7) (fun _ _=>rfl)) J3)))) J3))))))) Jw)))
   (J9 (Jl (pv 2)))))),?_⟩
  walk_at "st"
  clear JF
  have r0:=Int.emod_nonneg c (show (4 : Int) ≠ 0 by decide)
  have r4:=Int.emod_lt_of_pos c (show (0 : Int) < 4 by decide)
  have hnl8 : (nms.map T).length ≤ 8:=by rw [List.length_map]; exact hn8
  walk_at "rd"
  intro fl ffl
  obtain ⟨H1,e1,yfl,s1⟩:=newl (xs:=[]) ffl
  rw [← e1]
  have hnl1:=s1 _ _ hnl
  walk_at "rd"
  refine J05 (n:=(c % 4).toNat) (fun i σ H2=>Here (∃ (v4 v5 v6 v7 : Option V) (prs : List Pq) (xs : List V),σ = [some (.int c),some (.ref nl),some (.ref fl),some (.int ((nms.map T).length : Nat)),v4,v5,v6,v7] ∧ Same H H2 ∧ H2 fl = some (.lst xs) ∧ All2 PqT H2 prs xs ∧ (∀ p ∈ prs,PqIn nms p) ∧ prs.length ≤ i)) (Here.mk ⟨none,none,none,none,[],[],rfl,s1,yfl,trivial,fun p h=>(by cases h),Nat.le_refl _⟩) ?_ ?_
  ·rintro i σ H2 hi hv
   obtain ⟨v4,v5,v6,v7,prs,xs,rfl,S2,yfl2,aP,hP,hL⟩:=hv.out
   have hxl:=aP.len
   have hxl' : xs.length ≤ 1000:=by omega
   have hnl2:=S2 _ _ hnl
   walk_at "rd"
   refine ite2 (fun e=>?_) (fun e=>?_)
   ·have e' : 1 < nms.length:=by have:=of_decide_eq_true e; rw [List.length_map] at this; omega
    walk_at "rd"
    intro r r0 r1
    have a0:=Int.emod_nonneg r (show (((nms.map T).length : Nat) : Int) ≠ 0 by rw [List.length_map]; omega)
    have a1:=Int.emod_lt_of_pos r (show (0 : Int) < (((nms.map T).length : Nat) : Int) by rw [List.length_map]; omega)
    have hp0 : (0 : Int) < (((nms.map T).length : Nat) : Int):=by rw [List.length_map]; omega
    have hp1 : (0 : Int) < (((nms.map T).length : Nat) : Int) - 1:=by rw [List.length_map]; omega
    walk_at "rd"
    intro l1 f1
    generalize e2 : upd H2 l1 _ = H3
    obtain ⟨y1,s3⟩:=J5S f1 e2
    have y1' : H3 l1 = some (.lst [T J1K,T J5w]):=y1
    clear y1
    have hnl3:=s3 _ _ hnl2
    obtain ⟨wd,hwd,hwd2⟩:=J9z (r / 64 % 2) (Int.emod_nonneg _ (by decide)) (Int.emod_lt_of_pos _ (by decide))
    have c0:=Int.emod_nonneg (r % (((nms.map T).length : Nat) : Int) + 1 + r / (((nms.map T).length : Nat) : Int) % ((((nms.map T).length : Nat) : Int) - 1)) (show (((nms.map T).length : Nat) : Int) ≠ 0 by omega)
    have c1:=Int.emod_lt_of_pos (r % (((nms.map T).length : Nat) : Int) + 1 + r / (((nms.map T).length : Nat) : Int) % ((((nms.map T).length : Nat) : Int) - 1)) hp0
    obtain ⟨n1,hn1,hn1'⟩:=J7y (nms:=nms) a0 (by rw [List.length_map] at a1 ⊢; exact a1)
    obtain ⟨n2,hn2,hn2'⟩:=J7y (nms:=nms) c0 (by rw [List.length_map] at c1 ⊢; exact c1)
    walk_at "rd"
    intro t nt
    have s4 : Same H3 (upd H3 t (.tup [T wd,T n1,T n2])):=JS nt _
    have S4:=s3.trans s4
    have yfl4:=S4 _ _ yfl2
    have kp : J19 (upd H3 t (.tup [T wd,T n1,T n2])) (upd (upd H3 t (.tup [T wd,T n1,T n2])) fl (.lst (xs ++ [.ref t]))):=J27 yfl4
    walk_at "rd"
    refine Here.mk ⟨_,_,_,_,prs ++ [⟨wd,n1,n2,(r % (((nms.map T).length : Nat) : Int)).toNat,((r % (((nms.map T).length : Nat) : Int) + 1 + r / (((nms.map T).length : Nat) : Int) % ((((nms.map T).length : Nat) : Int) - 1)) % (((nms.map T).length : Nat) : Int)).toNat⟩],_,rfl,(S2.trans S4).upd ffl,Jb,(aP.imp fun a y=>PqT.keeps a y _ _ (S4.keeps.trans kp)).snoc ⟨t,rfl,kp _ _ Jb (fun zs z=>by cases z)⟩,fun p hp=>?_,by rw [List.length_append,List.length_singleton]; omega⟩
    rcases List.mem_append.mp hp with hp | hp
    ·exact hP p hp
    ·rw [List.mem_singleton.mp hp]
     exact ⟨J7G hinj hn1',J7G hinj hn2',hwd2⟩
   ·exact Here.mk ⟨_,_,_,_,prs,xs,rfl,S2,yfl2,aP,hP,by omega⟩
  ·rintro σ H2 hv
   obtain ⟨v4,v5,v6,v7,prs,xs,rfl,S2,yfl2,aP,hP,hL⟩:=hv.out
   walk_at "rd"
   exact q fl H2 prs xs S2 ffl yfl2 aP hP (by omega)
theorem J5a (tx : Tx K mg J6 J1 J8 Jf Jh J5) : FnG P w K mg base "_law_leave" 2 ["_law_cells","_law_names_here","_law_days"] (J8C K):=by
 refine tx.J56.g J1H (fun _ _ _ _ _ _ us hl=>match us,hl with | [_,_,_],_=>rfl) (fun vs H Q E h=>?_) (fun f cdv A outer s H vs Q E hr h=>?_)
 ·obtain ⟨cl,nl,cs,nms,days,rfl,_⟩:=h
  rfl
 ·obtain ⟨cl,nl,cs,nms,days,rfl,hcl,hc4,hnl,hn8,d1,d3,q⟩:=h
  refine ⟨_,(J2 (Jj (i:=3) J1H.nd rfl (Or.inl rfl) (J14 J3))
   (J2 (JQ PassesOwn.never rfl (J03 (K:=K) rfl (pv 0)) (Jd (i:=4) J1H.nd rfl (Or.inl rfl)) (J9 (J04 (PW.pt (J1n (Ji J2L (Je JH (pv 4) J7) J7 (Jr _)) (J1g (Ji (J9U (K:=K) rfl hr.units0) (pv 1) (J14 J3) (Jr _))))) (J9 (J3h (J3e PySem.F.plainAttrs_list PySem.F.slot_list_append PySem.F.type_list_append J1s (pv 3) (J0 (J1W (J0 (Jx (Ju (K:=K) rfl) (pv 1) (Je JH (Je J00 (pv 4) J7) (Js (JM (K:=K) rfl) rfl tx.J0Z PySem.boot_len (J0 (pv 1) J3))) (fun _ _=>rfl)) (J0 (Je JH (Je J00 (pv 4) J7) (pv 2)) J3))) J3)))) Jw)))
   (J9 (Jl (pv 3))))),?_⟩
  walk_at "st"
  walk_at "rd"
  intro fl ffl
  obtain ⟨H1,e1,yfl,s1⟩:=newl (xs:=[]) ffl
  rw [← e1]
  have hcl1:=s1.seq hcl
  walk_at "rd"
  refine J16 (K:=K) (xs:=cs.map V.int) (fun i σ H2=>Here (∃ (v4 : Option V) (ls : List (List Nat × Int)) (xs : List V),σ = [some (.ref cl),some (.ref nl),some (.int days),some (.ref fl),v4] ∧ Same H H2 ∧ H2 fl = some (.lst xs) ∧ All2 LvT H2 ls xs ∧ ls.length ≤ i)) (Here.mk ⟨none,[],[],rfl,s1,yfl,trivial,Nat.le_refl _⟩) (fun i σ H2 _ hv=>by obtain ⟨_,_,_,_,s2,_⟩:=hv.out; exact s2.seq hcl) ?_ ?_
  ·rintro i x σ H2 hx hv
   obtain ⟨v4,ls,xs,rfl,S2,yfl2,aL,hL⟩:=hv.out
   have hi:=(List.getElem?_eq_some_iff.mp hx).1
   rw [List.length_map] at hi
   obtain ⟨z,_,rfl⟩:=List.mem_map.mp (List.mem_of_getElem? hx)
   have hxl:=aL.len
   have hxl' : xs.length ≤ 1000:=by omega
   have hnl2:=S2 _ _ hnl
   have keep : ∀ H3,Same H2 H3 → ∀ v,Here (∃ (v4 : Option V) (ls : List (List Nat × Int)) (xs : List V),[some (.ref cl),some (.ref nl),some (.int days),some (.ref fl),v] = [some (.ref cl),some (.ref nl),some (.int days),some (.ref fl),v4] ∧ Same H H3 ∧ H3 fl = some (.lst xs) ∧ All2 LvT H3 ls xs ∧ ls.length ≤ i + 1):=fun H3 s3 v=>Here.mk ⟨_,ls,xs,rfl,S2.trans s3,s3 _ _ yfl2,aL.imp fun a y=>LvT.keeps a y _ _ s3.keeps,by omega⟩
   walk_at "rd"
   refine ite2 (fun e1=>?_) (fun e1=>?_)
   ·walk_at "rd"
    intro l1 f1
    obtain ⟨H3,e3,y1,s3⟩:=newl (xs:=[]) f1
    rw [← e3]
    have hnl3:=s3 _ _ hnl2
    have yfl3:=s3 _ _ yfl2
    walk_at "rd"
    refine ite2 (fun e2=>?_) (fun e2=>?_)
    ·have hpos : 0 < nms.length:=by
      cases nms with
      | nil=>cases e2
      | cons n r=>exact Nat.succ_pos _
     have hn8' : (nms.map T).length ≤ 8:=by rw [List.length_map]; exact hn8
     have hp0 : (0 : Int) < (((nms.map T).length : Nat) : Int):=by rw [List.length_map]; omega
     have a0:=Int.emod_nonneg (z / 4) (show (((nms.map T).length : Nat) : Int) ≠ 0 by omega)
     have a1:=Int.emod_lt_of_pos (z / 4) hp0
     obtain ⟨n1,hn1,hn1'⟩:=J7y (nms:=nms) a0 (by rw [List.length_map] at a1 ⊢; exact a1)
     walk_at "rd"
     intro t nt
     have s4 : Same H3 (upd H3 t (.tup [T n1,.int (z / 97 % days)])):=JS nt _
     have S4:=s3.trans s4
     have yfl4:=S4 _ _ yfl2
     have kp : J19 (upd H3 t (.tup [T n1,.int (z / 97 % days)])) (upd (upd H3 t (.tup [T n1,.int (z / 97 % days)])) fl (.lst (xs ++ [.ref t]))):=J27 yfl4
     walk_at "rd"
     exact Here.mk ⟨_,ls ++ [(n1,z / 97 % days)],_,rfl,(S2.trans S4).upd ffl,Jb,(aL.imp fun a y=>LvT.keeps a y _ _ (S4.keeps.trans kp)).snoc ⟨t,rfl,kp _ _ Jb (fun zs z=>by cases z)⟩,by rw [List.length_append,List.length_singleton]; omega⟩
    ·exact keep H3 s3 _
   ·exact keep H2 (Same.refl _) _
  ·rintro σ H2 hv
   obtain ⟨v4,ls,xs,rfl,S2,yfl2,aL,hL⟩:=hv.out
   rw [List.length_map] at hL
   walk_at "rd"
   exact q fl H2 ls xs S2 ffl yfl2 aL (by omega)
end
structure HoT (H : Hp) (t : Addr) (ks : List Nat) (nds : List Nd) (ps : List Ps) (ls : List (List Nat × Int)) : Prop where
 ex : ∃ a1 a2 a3 a4 xs zs,H t = some (.tup [T ks,.ref a1,.ref a2,.ref a3,.ref a4]) ∧ H a1 = some (.lst xs) ∧ All2 NdAt H nds xs ∧ H a2 = some (.lst ((ps.map (·.nm)).map T)) ∧ H a3 = some (.lst ((ps.map (·.sk)).map T)) ∧ H a4 = some (.lst zs) ∧ All2 LvT H ls zs
theorem HoT.same {H H' : Hp} {t : Addr} {ks : List Nat} {nds : List Nd} {ps : List Ps} {ls : List (List Nat × Int)} (h : HoT H t ks nds ps ls) (s : Same H H') : HoT H' t ks nds ps ls:=by
 obtain ⟨a1,a2,a3,a4,xs,zs,h0,h1,h2,h3,h4,h5,h6⟩:=h
 exact ⟨a1,a2,a3,a4,xs,zs,s _ _ h0,s _ _ h1,h2.imp fun a y=>NdAt.keeps a y _ _ s.keeps,s _ _ h3,s _ _ h4,s _ _ h5,h6.imp fun a y=>LvT.keeps a y _ _ s.keeps⟩
structure Ok61 (ks : List Nat) (nds : List Nd) (ps : List Ps) (ls : List (List Nat × Int)) : Prop where
 u : nds.Pairwise J3U
 kn : ∀ n ∈ nds,n.kind ∈ ks
 kd : ks.Nodup
 k45 : ∀ k ∈ ks,k ≠ 45
 k4 : ks.length ≤ 4
 n12 : nds.length ≤ 12
 p8 : ps.length ≤ 8
 s4 : ∀ p ∈ ps,p.sk.length ≤ 4
theorem J8a (nm : List Nat) : ∀ nms : List (List Nat),inV (T nm) (nms.map T) = decide (nm ∈ nms)
 | []=>rfl
 | n :: r=>by
  have ih:=J8a nm r
  unfold inV at ih ⊢
  rw [List.map_cons,List.any_cons,ih,J8p]
  have h : decide (n = nm) = decide (nm = n):=by
   by_cases z : n = nm
   ·subst z; rfl
   ·rw [decide_eq_false z,decide_eq_false fun y=>z y.symm]
  rw [h]
  simp [List.mem_cons,Bool.decide_or]
noncomputable def J2n (d : Int) (n : Nd) : Bool:=decide (n.day = d) && decide (0 < n.most)
theorem J7s {nds : List Nd} (hU : nds.Pairwise J3U) (d : Int) (k : Nat) : decide (k ∈ (nds.filter (J2n d)).map (·.kind)) = decide (1 ≤ (JT nds d k).2):=by
 refine decide_eq_decide.mpr ⟨fun h=>?_,fun h=>?_⟩
 ·obtain ⟨n,hn,rfl⟩:=List.mem_map.mp h
  obtain ⟨hn1,hn2⟩:=List.mem_filter.mp hn
  unfold J2n at hn2
  rw [Bool.and_eq_true] at hn2
  have e1:=of_decide_eq_true hn2.1
  have e2:=of_decide_eq_true hn2.2
  rw [← e1,J3l hU hn1]
  show 1 ≤ n.most
  omega
 ·by_cases hx : ∃ n ∈ nds,n.day = d ∧ n.kind = k
  ·obtain ⟨n,hn,e1,e2⟩:=hx
   rw [← e1,← e2,J3l hU hn] at h
   have h' : 1 ≤ n.most:=h
   refine List.mem_map.mpr ⟨n,List.mem_filter.mpr ⟨hn,?_⟩,e2⟩
   unfold J2n
   rw [decide_eq_true e1,decide_eq_true (by omega)]
   rfl
  ·rw [J2z (fun j hj n hn z=>hx ⟨n,List.mem_of_getElem? hn,z⟩)] at h
   exact absurd h (by decide)
noncomputable def J7g : Sp:=fun vs H Q _=>∃ (t : Addr) (p d : Int) (ks : List Nat) (nds : List Nd) (ps : List Ps) (ls : List (List Nat × Int)) (n : Ps),vs = [.ref t,.int p,.int d] ∧ HoT H t ks nds ps ls ∧ Ok61 ks nds ps ls ∧ 0 ≤ p ∧ ps[p.toNat]? = some n ∧ ∀ H',Same H H' → Q (T (mayP ks nds ls n d)) H'
theorem J6t : ∀ {r : List Nat} {s : List (List Nat)},okC r s ↔ r.length = s.length ∧ ∀ i m,s[i]? = some m → r.getD i 0 ∈ m
 | [],[]=>⟨fun _=>⟨rfl,fun i m h=>by simp at h⟩,fun _=>trivial⟩
 | c :: r,m :: s=>by
  have ih:=J6t (r:=r) (s:=s)
  constructor
  ·rintro ⟨h1,h2⟩
   obtain ⟨a,b⟩:=ih.mp h2
   refine ⟨by rw [List.length_cons,List.length_cons,a],fun i m' h=>?_⟩
   cases i with
   | zero=>rw [List.getElem?_cons_zero] at h; cases h; exact h1
   | succ i=>rw [List.getElem?_cons_succ] at h; exact b i m' h
  ·rintro ⟨h1,h2⟩
   exact ⟨h2 0 m rfl,ih.mpr ⟨by rw [List.length_cons,List.length_cons] at h1; omega,fun i m' h=>h2 (i + 1) m' h⟩⟩
 | [],m :: s=>⟨fun h=>h.elim,fun h=>by have:=h.1; rw [List.length_cons] at this; cases this⟩
 | c :: r,[]=>⟨fun h=>h.elim,fun h=>by have:=h.1; rw [List.length_cons] at this; cases this⟩
noncomputable def J3I (ks : List Nat) (nds : List Nd) (ls : List (List Nat × Int)) (ps : List Ps) (d : Int) (col : List Nat) : Prop:=∀ i n,ps[i]? = some n → col.getD i 0 = 45 ∨ col.getD i 0 ∈ mayP ks nds ls n d
noncomputable def J6x (nds : List Nd) (d : Int) (col : List Nat) : Prop:=∀ n ∈ nds,n.day = d → n.least ≤ (col.count n.kind : Int) ∧ (col.count n.kind : Int) ≤ n.most
theorem J89 {ks : List Nat} {nds : List Nd} {ls : List (List Nat × Int)} {ps : List Ps} {d : Int} {col : List Nat} : okC col (chF ks nds ls ps d) ↔ col.length = ps.length ∧ J3I ks nds ls ps d col:=by
 rw [J6t]
 have e : (chF ks nds ls ps d).length = ps.length:=by unfold chF; rw [List.length_map]
 rw [e]
 refine and_congr_right fun _=>⟨fun h i n hn=>?_,fun h i m hm=>?_⟩
 ·rcases List.mem_append.mp (h i _ (J7r hn)) with z | z
  ·exact .inr z
  ·exact .inl (List.mem_singleton.mp z)
 ·unfold chF at hm
  rw [List.getElem?_map] at hm
  cases hp : ps[i]? with
  | none=>rw [hp] at hm; cases hm
  | some n =>
   rw [hp] at hm
   cases hm
   rcases h i n hp with z | z
   ·exact List.mem_append.mpr (.inr (List.mem_singleton.mpr z))
   ·exact List.mem_append.mpr (.inl z)
theorem J4p {ks : List Nat} {nds : List Nd} {ps : List Ps} {ls : List (List Nat × Int)} (o : Ok61 ks nds ps ls) {d : Int} {col : List Nat} (hl : col.length = ps.length) (hp : J3I ks nds ls ps d col) : J4l ks nds d col = true ↔ J6x nds d col:=by
 unfold J4l
 rw [List.all_eq_true]
 constructor
 ·intro h n hn e
  have:=h n.kind (o.kn n hn)
  unfold metB at this
  rw [← e,J3l o.u hn,Bool.and_eq_true] at this
  exact ⟨of_decide_eq_true this.1,of_decide_eq_true this.2⟩
 ·intro h k hk
  unfold metB
  by_cases hx : ∃ n ∈ nds,n.day = d ∧ n.kind = k
  ·obtain ⟨n,hn,e1,e2⟩:=hx
   obtain ⟨a,b⟩:=h n hn e1
   rw [← e1,← e2,J3l o.u hn,decide_eq_true a,decide_eq_true b]
   rfl
  ·have eN:=J2z (nds:=nds) (d:=d) (k:=k) (fun j hj n hn z=>hx ⟨n,List.mem_of_getElem? hn,z⟩)
   have h0 : col.count k = 0:=by
    rw [List.count_eq_zero]
    intro hc
    obtain ⟨i,hi⟩:=List.getElem?_of_mem hc
    have hil:=(List.getElem?_eq_some_iff.mp hi).1
    have eg : col.getD i 0 = k:=by rw [List.getD_eq_getElem?_getD,hi]; rfl
    rcases hp i _ (List.getElem?_eq_getElem (show i < ps.length by omega)) with z | z
    ·exact o.k45 k hk (eg.symm.trans z)
    ·rw [eg] at z
     unfold mayP at z
     split at z
     ·cases z
     ·have:=of_decide_eq_true (List.mem_filter.mp z).2
      rw [eN] at this
      exact absurd this (by decide)
   rw [eN,h0]
   rfl
theorem J3i {ks : List Nat} {nds : List Nd} {ps : List Ps} {ls : List (List Nat × Int)} (o : Ok61 ks nds ps ls) {prs : List Pq} {d : Int} {col : List Nat} : col ∈ colF ks nds ls ps prs d ↔ col.length = ps.length ∧ J3I ks nds ls ps d col ∧ J6x nds d col ∧ prsB prs col = true:=by
 unfold colF
 rw [List.mem_filter,J3N,J89]
 unfold J2F
 rw [Bool.and_eq_true]
 constructor
 ·rintro ⟨⟨a,b⟩,c,e⟩
  exact ⟨a,b,(J4p o a b).mp c,e⟩
 ·rintro ⟨a,b,c,e⟩
  exact ⟨⟨a,b⟩,(J4p o a b).mpr c,e⟩
noncomputable def J7h : Sp:=fun vs H Q _=>∃ (t pl : Addr) (d : Int) (col : List Nat) (ks : List Nat) (nds : List Nd) (ps : List Ps) (ls : List (List Nat × Int)) (prs : List Pq) (us : List V),vs = [.ref t,.ref pl,.int d,T col] ∧ HoT H t ks nds ps ls ∧ Ok61 ks nds ps ls ∧ H pl = some (.lst us) ∧ All2 PqT H prs us ∧ (∀ p ∈ prs,PqIn (ps.map (·.nm)) p) ∧ col.length = ps.length ∧ ∀ H' b,Same H H' → (b = true ↔ col ∈ colF ks nds ls ps prs d) → Q (.bl b) H'
section
variable {P : Program} {w : World} {K : PySem.W.Frag} {mg : Str → Option Value} {base : Heap} {J6 J1 J8 Jf Jh J5 : Addr}
local macro_rules | `(tactic| walk_at "lk")=>`(tactic| exact Or.inr (SqT.of (by with_reducible assumption)))
theorem J4i (tx : Tx K mg J6 J1 J8 Jf Jh J5) : FnG P w K mg base "_law_may" 2 ["_law_house_of","_law_p","_law_day"] J7g:=by
 refine tx.J6K.g J0L (fun _ _ _ _ _ _ us hl=>match us,hl with | [_,_,_],_=>rfl) (fun vs H Q E h=>?_) (fun f cdv A outer s H vs Q E hr h=>?_)
 ·obtain ⟨t,p,d,ks,nds,ps,ls,n,rfl,_⟩:=h
  rfl
 ·obtain ⟨t,p,d,ks,nds,ps,ls,n,rfl,hT,o,p0,hn,q⟩:=h
  refine ⟨_,(J2 (J7P (pv 0) (J2x rfl (Jo (Jd (i:=3) J0L.nd rfl (Or.inl rfl)) (Jo (Jd (i:=4) J0L.nd rfl (Or.inl rfl)) (Jo (Jd (i:=5) J0L.nd rfl (Or.inl rfl)) (Jo (Jd (i:=6) J0L.nd rfl (Or.inr rfl)) (Jo (Jd (i:=7) J0L.nd rfl (Or.inl rfl)) J1Q)))))))
   (J2 (J04 (Ji (J7J (K:=K) rfl (J9b hr)) (J1W (J0 (Jx (Ju (K:=K) rfl) (pv 5) (pv 1) (fun _ _=>rfl)) (J0 (pv 2) J3))) (pv 7) rfl) (J9 (Jl (JA (l:=[]) (by decide +kernel)))) Jw)
   (J2 (Jj (i:=8) J0L.nd rfl (Or.inr rfl) (J1p (osc:=J4 J0Q) (ON:=["_law_house_of","_law_p","_law_day","_law_kinds_here","_law_needs_here","_law_names_here","_law_skills_here","_law_leave_here","_law_wanted"]) (N:=["_law_need","_law_day"]) (js:=[none,some 2]) ⟨rfl,by decide +kernel,by decide +kernel,by decide +kernel,rfl,by decide +kernel⟩ rfl rfl rfl (J03 (K:=K) rfl (pv 4)) (fun _ _ _ _ _=>Jd (i:=0) (show List.Nodup (["_law_need","_law_day"] : List Str) from by decide +kernel) rfl (Or.inl rfl)) (fun _ _ _ _ _=>J22 (PW.pt (J1n (Ji J1x (Jx (J1J (K:=K) rfl) (pv 0) J7 (fun _ _=>rfl)) (pv 1) (Jr _)) (J1g (Ji J2L (Jx (J1J (K:=K) rfl) (pv 0) J7 (fun _ _=>rfl)) J7 (Jr _)))))) (fun _ _ _ _ _=>(Jx (J1J (K:=K) rfl) (pv 0) J7 (fun _ _=>rfl)))))
   (J9 (Jl (J3R (K:=K) rfl (JA (l:=[]) (by decide +kernel)) (J0 (J1p (osc:=J4 J0Q) (ON:=["_law_house_of","_law_p","_law_day","_law_kinds_here","_law_needs_here","_law_names_here","_law_skills_here","_law_leave_here","_law_wanted"]) (N:=["_law_kind","_law_wanted","_law_skills_here","_law_p"]) (js:=[none,some 8,some 6,some 1]) ⟨rfl,by decide +kernel,by decide +kernel,by decide +kernel,rfl,by decide +kernel⟩ rfl rfl rfl (J4O (pv 3)) (fun _ _ _ _ _=>Jd (i:=0) (show List.Nodup (["_law_kind","_law_wanted","_law_skills_here","_law_p"] : List Str) from by decide +kernel) rfl (Or.inl rfl)) (fun _ _ _ _ _=>J22 (PW.pt (J1n (Ji (J7t (K:=K) rfl) (pv 0) (pv 1) rfl) (J1g (Ji J7N (pv 0) (Jx (Ju (K:=K) rfl) (pv 2) (pv 3) (fun _ _=>rfl)) rfl))))) (fun _ _ _ _ _=>(pv 0))) J3))))))),?_⟩
  walk_at "st"
  have hT0:=hT
  obtain ⟨a1,a2,a3,a4,xs,zs,h0,h1,h2,h3,h4,h5,h6⟩:=hT0
  have hpl:=(List.getElem?_eq_some_iff.mp hn).1
  have hp8:=o.p8
  have hk4:=o.k4
  have hn12:=o.n12
  have hxl:=h2.len
  have hnl : ((ps.map (·.nm)).map T).length ≤ 8:=by rw [List.length_map,List.length_map]; exact hp8
  have hsl : ((ps.map (·.sk)).map T).length ≤ 8:=by rw [List.length_map,List.length_map]; exact hp8
  have g1 : atI ((ps.map (·.nm)).map T) p = some (T n.nm):=by
   have : ((ps.map (·.nm)).map T)[p.toNat]? = some (T n.nm):=by rw [List.getElem?_map,List.getElem?_map,hn]; rfl
   have:=J0K this
   rwa [Int.toNat_of_nonneg p0] at this
  have g2 : atI ((ps.map (·.sk)).map T) p = some (T n.sk):=by
   have : ((ps.map (·.sk)).map T)[p.toNat]? = some (T n.sk):=by rw [List.getElem?_map,List.getElem?_map,hn]; rfl
   have:=J0K this
   rwa [Int.toNat_of_nonneg p0] at this
  have hs4:=o.s4 n (List.mem_of_getElem? hn)
  walk_at "rd"
  intro t1 nt
  obtain ⟨H1,e1,ht1,s1⟩:=newt (xs:=[T n.nm,.int d]) nt
  rw [← e1]
  have k5:=s1 _ _ h5
  have k6:=J7C (K:=K) (h6.imp fun a y=>LvT.keeps a y _ _ s1.keeps)
  have fl : ([T n.nm,V.int d] : List V).all JZ = true:=rfl
  walk_at "rd"
  refine ite2 (fun e=>?_) (fun e=>?_)
  ·have e' : J5Q ls n.nm d = true:=e
   walk_at "rd"
   have:=q H1 s1
   unfold mayP at this
   rw [if_pos e'] at this
   exact this
  have e' : ¬ J5Q ls n.nm d = true:=e
  have q':=q
  unfold mayP at q'
  rw [if_neg e'] at q'
  clear e e' q k5 k6 fl ht1 e1 nt
  have k1:=s1 _ _ h1
  have k2:=h2.imp fun a y=>NdAt.keeps a y _ _ s1.keeps
  have k4:=s1 _ _ h4
  walk_at "rd"
  refine JP nds (J2n d) (fun n y _=>y = T [n.kind]) (fun σ=>∃ v,σ = [v,some (.int d)]) (J1L (SqL.of k1)) (by omega) (by omega) ⟨_,rfl⟩ (fun _ _ _ _ _ z=>z) (fun i a v σ H' ha hv hσ s' Rf Rt hF hR=>?_) (fun D H2 ys nD s2 hys hD=>?_)
  ·obtain ⟨w1,rfl⟩:=hσ
   obtain ⟨a',ha',t2,rfl,ht2⟩:=k2.back hv
   rw [ha] at ha'
   cases ha'
   have ht2':=s' _ _ ht2
   have b0 : atI [V.int a.day,T [a.kind],.int a.least,.int a.most] 0 = some (.int a.day):=by simp [atI,ixN]
   have b1 : atI [V.int a.day,T [a.kind],.int a.least,.int a.most] 1 = some (T [a.kind]):=by simp [atI,ixN]
   have b3 : atI [V.int a.day,T [a.kind],.int a.least,.int a.most] 3 = some (.int a.most):=by simp [atI,ixN]
   have ed : decide (V.int a.day = V.int d) = decide (a.day = d):=decide_eq_decide.mpr ⟨fun z=>by injection z,fun z=>by rw [z]⟩
   have ew : J2n d a = (decide (a.day = d) && decide (0 < a.most)):=rfl
   walk_at "rd"
   refine ite2 (fun z1=>?_) (fun z1=>?_)
   ·walk_at "rd"
    refine ite2 (fun z2=>?_) (fun z2=>?_)
    ·walk_at "rd"
     exact hR _ _ _ (by rw [ew,← ed,z1,z2]; rfl) ⟨_,rfl⟩ (Same.refl _) rfl
    ·exact hF _ _ (by rw [ew,Bool.eq_false_iff.mpr z2,Bool.and_false]) ⟨_,rfl⟩ (Same.refl _)
   ·exact hF _ _ (by rw [ew,← ed,Bool.eq_false_iff.mpr z1,Bool.false_and]) ⟨_,rfl⟩ (Same.refl _)
  have er:=hys.eqmap (f:=fun n : Nd=>T [n.kind]) (fun a y e=>e)
  have hD' : H2 D = some (.lst (((nds.filter (J2n d)).map fun n=>[n.kind]).map T)):=by rw [hD,er,List.map_map]; rfl
  have k42:=s2 _ _ k4
  have hwl : (((nds.filter (J2n d)).map fun n=>[n.kind]).map T).length ≤ 12:=by
   rw [List.length_map,List.length_map]
   exact Nat.le_trans (List.length_filter_le _ _) hn12
  walk_at "rd"
  refine JP ks (fun k=>decide (1 ≤ (JT nds d k).2) && decide (k ∈ n.sk)) (fun k y _=>y = T [k]) (fun σ=>∃ v,σ = [v,some (.ref D),some (.ref a3),some (.int p)]) (J2X ks) (by rw [List.length_map]) (by omega) ⟨_,rfl⟩ (fun _ _ _ _ _ z=>z) (fun i a v σ H' ha hv hσ s' Rf Rt hF hR=>?_) (fun D2 H3 ys2 nD2 s3 hys2 hD2=>?_)
  ·obtain ⟨w1,rfl⟩:=hσ
   rw [List.getElem?_map,ha] at hv
   cases hv
   have hDs:=s' _ _ hD'
   have k4s:=s' _ _ k42
   have ew : inV (T [a]) (((nds.filter (J2n d)).map fun n=>[n.kind]).map T) = decide (1 ≤ (JT nds d a).2):=by
    rw [J8a,← J7s o.u]
    refine decide_eq_decide.mpr ⟨fun z=>?_,fun z=>?_⟩
    ·obtain ⟨m,hm,e⟩:=List.mem_map.mp z
     exact List.mem_map.mpr ⟨m,hm,by simpa using e⟩
    ·obtain ⟨m,hm,e⟩:=List.mem_map.mp z
     exact List.mem_map.mpr ⟨m,hm,by rw [e]⟩
   have hfl : (((nds.filter (J2n d)).map fun n=>[n.kind]).map T).all JZ = true:=by rw [List.all_eq_true]; intro x hx; obtain ⟨y,_,rfl⟩:=List.mem_map.mp hx; rfl
   walk_at "rd"
   refine ite2 (fun z1=>?_) (fun z1=>?_)
   ·have z1':=ew.symm.trans z1
    walk_at "rd"
    refine ite2 (fun z2=>?_) (fun z2=>?_)
    ·walk_at "rd"
     exact hR _ _ _ (by rw [z1',z2]; rfl) ⟨_,rfl⟩ (Same.refl _) rfl
    ·exact hF _ _ (by rw [Bool.eq_false_iff.mpr z2,Bool.and_false]) ⟨_,rfl⟩ (Same.refl _)
   ·have z1' : inV (T [a]) (((nds.filter (J2n d)).map fun n=>[n.kind]).map T) = false:=Bool.eq_false_iff.mpr z1
    exact hF _ _ (by rw [← ew,z1',Bool.false_and]) ⟨_,rfl⟩ (Same.refl _)
  have eq2 : (ks.filter fun k=>decide (k ∈ n.sk)).filter (fun k=>decide (1 ≤ (JT nds d k).2)) = ks.filter fun k=>decide (1 ≤ (JT nds d k).2) && decide (k ∈ n.sk):=List.filter_filter
  rw [eq2] at q'
  have hl2:=List.length_filter_le (fun k=>decide (1 ≤ (JT nds d k).2) && decide (k ∈ n.sk)) ks
  have er2:=hys2.eqmap (f:=fun k=>T [k]) (fun a y e=>e)
  generalize ks.filter (fun k=>decide (1 ≤ (JT nds d k).2) && decide (k ∈ n.sk)) = bs at hl2 er2 q'
  have hD3 : SqL K H3 D2 ((bs.map fun c=>[c]).map T):=by rw [List.map_map]; refine SqL.of ?_; rw [hD2,er2]; rfl
  have hjl : (((bs.map fun c=>[c]).map List.length).sum + (bs.map fun c=>[c]).length * ([] : List Nat).length ≤ 16777216):=by
   rw [J2I,List.length_map,List.length_nil,Nat.mul_zero]
   omega
  walk_at "rd"
  rw [J2e,J2b]
  exact q' H3 ((s1.trans s2).trans s3)
end
section
variable {P : Program} {w : World} {K : PySem.W.Frag} {mg : Str → Option Value} {base : Heap} {J6 J1 J8 Jf Jh J5 : Addr}
theorem J5s (tx : Tx K mg J6 J1 J8 Jf Jh J5) : FnG P w K mg base "_law_holds" 3 ["_law_house_of","_law_pairs_here","_law_day","_law_column_here"] J7h:=by
 have J1B:=J4i (P:=P) (w:=w) (base:=base) tx
 refine tx.J5l.g Jm (fun _ _ _ _ _ _ us hl=>match us,hl with | [_,_,_,_],_=>rfl) (fun vs H Q E h=>?_) (fun f cdv A outer s H vs Q E hr h=>?_)
 ·obtain ⟨t,pl,d,col,ks,nds,ps,ls,prs,us,rfl,_⟩:=h
  rfl
 ·obtain ⟨t,pl,d,col,ks,nds,ps,ls,prs,us,rfl,hT,o,hpl,aP,hin,hcl,q⟩:=h
  refine ⟨_,(J2 (J7P (pv 0) (J2x rfl (Jo (Jd (i:=4) Jm.nd rfl (Or.inl rfl)) (Jo (Jd (i:=5) Jm.nd rfl (Or.inl rfl)) (Jo (Jd (i:=6) Jm.nd rfl (Or.inl rfl)) (Jo (Jd (i:=7) Jm.nd rfl (Or.inl rfl)) (Jo (Jd (i:=8) Jm.nd rfl (Or.inl rfl)) J1Q)))))))
   (J2 (JQ PassesOwn.never rfl (Jy rfl tx.JE (J0 (Js (JM (K:=K) rfl) rfl tx.J0Z PySem.boot_len (J0 (pv 6) J3)) J3)) (Jd (i:=9) Jm.nd rfl (Or.inl rfl)) (J9 (J04 (PW.pt (J1n (Ji J3H (Jx J1d (pv 3) (pv 9) (fun _ _=>rfl)) (JA (l:=[45]) (by decide +kernel)) (Jr _)) (J1g (Ji J6X (Jx J1d (pv 3) (pv 9) (fun _ _=>rfl)) (JY J1B (hr.mono (by decide)) (J0 (pv 0) (J0 (pv 9) (J0 (pv 2) J3)))) rfl)))) (J9 (Jl J0W)) Jw)))
   (J2 (JQ PassesOwn.never rfl (J03 (K:=K) rfl (pv 5)) (J2x rfl (Jo (Jd (i:=10) Jm.nd rfl (Or.inl rfl)) (Jo (Jd (i:=11) Jm.nd rfl (Or.inl rfl)) (Jo (Jd (i:=12) Jm.nd rfl (Or.inl rfl)) (Jo (Jd (i:=13) Jm.nd rfl (Or.inl rfl)) J1Q))))) (J9 (J04 (PW.pt (J1n (Ji J1x (pv 10) (pv 2) (Jr _)) (J1g (PW.pt (J6H (Ji J9m (J3k (K:=K) rfl (pv 3) (J0 (pv 11) J3)) (pv 12) (Jr _)) (J4U (Ji J2L (J3k (K:=K) rfl (pv 3) (J0 (pv 11) J3)) (pv 13) (Jr _)))))))) (J9 (Jl J0W)) Jw)))
   (J2 (JQ PassesOwn.never rfl (J03 (K:=K) rfl (pv 1)) (J2x rfl (Jo (Jd (i:=14) Jm.nd rfl (Or.inl rfl)) (Jo (Jd (i:=15) Jm.nd rfl (Or.inl rfl)) (Jo (Jd (i:=16) Jm.nd rfl (Or.inl rfl)) J1Q)))) (J2 (Jj (i:=17) Jm.nd rfl (Or.inl rfl) (Jx J1d (pv 3) (J3e PySem.F.plainAttrs_list PySem.F.slot_list_index PySem.F.type_list_index J5Z (pv 6) (J0 (pv 15) J3)) (fun _ _=>rfl)))
   (J2 (Jj (i:=18) Jm.nd rfl (Or.inl rfl) (Jx J1d (pv 3) (J3e PySem.F.plainAttrs_list PySem.F.slot_list_index PySem.F.type_list_index J5Z (pv 6) (J0 (pv 16) J3)) (fun _ _=>rfl)))
   (J2 (J04 (PW.pt (J1n (Ji J1x (pv 14) (JA (l:=[97,112,97,114,116]) (by decide +kernel)) (Jr _)) (J1n (Ji J3H (pv 17) (JA (l:=[45]) (by decide +kernel)) (Jr _)) (J1g (Ji J1x (pv 17) (pv 18) (Jr _)))))) (J9 (Jl J0W)) Jw)
   (J9 (J04 (PW.pt (J1n (Ji J1x (pv 14) (JA (l:=[119,105,116,104]) (by decide +kernel)) (Jr _)) (J1n (Ji J3H (pv 17) (JA (l:=[45]) (by decide +kernel)) (Jr _)) (J1g (Ji J3H (pv 17) (pv 18) (Jr _)))))) (J9 (Jl J0W)) Jw))))))
   (J9 (Jl J0W)))))),?_⟩
  walk_at "st"
  clear J1B
  have hT0:=hT
  obtain ⟨a1,a2,a3,a4,xs,zs,h0,h1,h2,h3,h4,h5,h6⟩:=hT0
  have hp8:=o.p8
  have hk4:=o.k4
  have hn12:=o.n12
  have hxl:=h2.len
  have hcl' : col.length ≤ 1000:=by omega
  have hnl : ((ps.map (·.nm)).map T).length ≤ 8:=by rw [List.length_map,List.length_map]; exact hp8
  have hnl' : ((ps.map (·.nm)).map T).length = ps.length:=by rw [List.length_map,List.length_map]
  have no : ∀ H',Same H H' → ¬ (J3I ks nds ls ps d col ∧ J6x nds d col ∧ prsB prs col = true) → Q (.bl false) H':=fun H' s' z=>q H' false s' ⟨fun y=>(by cases y),fun y=>absurd (((J3i o).mp y).2) z⟩
  walk_at "rd"
  refine J05 (n:=((ps.map (·.nm)).map T).length) (fun i σ H2=>Here (∃ v1,σ = [some (.ref t),some (.ref pl),some (.int d),some (T col),some (T ks),some (.ref a1),some (.ref a2),some (.ref a3),some (.ref a4),v1,none,none,none,none,none,none,none,none,none] ∧ (∀ j n,j < i → ps[j]? = some n → col.getD j 0 = 45 ∨ col.getD j 0 ∈ mayP ks nds ls n d) ∧ Same H H2)) (Here.mk ⟨none,rfl,fun j n hj=>absurd hj (Nat.not_lt_zero _),Same.refl _⟩) ?_ ?_
  ·rintro i σ H2 hi hv
   obtain ⟨v1,rfl,hok,s2⟩:=hv.out
   rw [hnl'] at hi
   have hT2:=hT.same s2
   have gi:=J1A (l:=col) (i:=i) (by omega)
   rw [← Int.zero_add (i : Int)] at gi
   have hn : ps[((0 : Int) + (i : Int)).toNat]? = some (ps[i]'hi):=by rw [show ((0 : Int) + (i : Int)).toNat = i by omega]; exact List.getElem?_eq_getElem hi
   have hn' : ps[i]? = some (ps[i]'hi):=List.getElem?_eq_getElem hi
   generalize ps[i]'hi = n at hn hn'
   generalize hcg : col.getD i 0 = cc at gi
   have nx : (cc = 45 ∨ cc ∈ mayP ks nds ls n d) → ∀ j n,j < i + 1 → ps[j]? = some n → col.getD j 0 = 45 ∨ col.getD j 0 ∈ mayP ks nds ls n d:=fun z j m hj hm=>by
    rcases Nat.lt_or_ge j i with y | y
    ·exact hok j m y hm
    ·have : j = i:=by omega
     subst this
     rw [hn'] at hm
     cases hm
     rw [hcg]
     exact z
   walk_at "rd"
   refine ite2 (fun z=>?_) (fun z=>?_)
   ·have z' : ¬ cc = 45:=fun y=>by rw [y] at z; simp at z
    walk_at "rd"
    intro H3 s3
    walk_at "rd"
    refine ite2 (fun y=>?_) (fun y=>?_)
    ·have y' : ¬ cc ∈ mayP ks nds ls n d:=fun x=>by rw [decide_eq_true x] at y; cases y
     walk_at "rd"
     refine no H3 (s2.trans s3) fun w'=>?_
     rcases w'.1 i n hn' with x | x
     ·rw [hcg] at x; exact z' x
     ·rw [hcg] at x; exact y' x
    ·have y' : cc ∈ mayP ks nds ls n d:=Decidable.byContradiction fun x=>y (by rw [decide_eq_false x]; rfl)
     exact Here.mk ⟨_,rfl,nx (.inr y'),s2.trans s3⟩
   ·have z' : cc = 45:=by
     have : decide (T [cc] = T [45]) = true:=by simpa using z
     simpa using J2D (of_decide_eq_true this)
    exact Here.mk ⟨_,rfl,nx (.inl z'),s2⟩
  ·rintro σ H2 hv
   obtain ⟨v1,rfl,hok,s2⟩:=hv.out
   have hplc : J3I ks nds ls ps d col:=fun i n hi=>hok i n (by have:=(List.getElem?_eq_some_iff.mp hi).1; omega) hi
   have h12:=s2 _ _ h1
   clear hok
   walk_at "rd"
   refine J16 (K:=K) (xs:=xs) (fun i σ H3=>Here (∃ v2 v3 v4 v5,σ = [some (.ref t),some (.ref pl),some (.int d),some (T col),some (T ks),some (.ref a1),some (.ref a2),some (.ref a3),some (.ref a4),v1,v2,v3,v4,v5,none,none,none,none,none] ∧ (∀ j n,j < i → nds[j]? = some n → n.day = d → n.least ≤ (col.count n.kind : Int) ∧ (col.count n.kind : Int) ≤ n.most) ∧ Same H H3)) (Here.mk ⟨none,none,none,none,rfl,fun j n hj=>absurd hj (Nat.not_lt_zero _),s2⟩) (fun i σ H3 _ hv=>by obtain ⟨_,_,_,_,_,_,s3⟩:=hv.out; exact SqL.of (s3 _ _ h1)) ?_ ?_
   ·rintro i x σ H3 hx hv
    obtain ⟨v2,v3,v4,v5,rfl,hok,s3⟩:=hv.out
    obtain ⟨n,hn,tt,rfl,ht⟩:=h2.back hx
    have ht3:=s3 _ _ ht
    have nx : (n.day = d → n.least ≤ (col.count n.kind : Int) ∧ (col.count n.kind : Int) ≤ n.most) → ∀ j n,j < i + 1 → nds[j]? = some n → n.day = d → n.least ≤ (col.count n.kind : Int) ∧ (col.count n.kind : Int) ≤ n.most:=fun z j m hj hm e=>by
     rcases Nat.lt_or_ge j i with y | y
     ·exact hok j m y hm e
     ·have : j = i:=by omega
      subst this
      rw [hn] at hm
      cases hm
      exact z e
    have bad : n.day = d → ¬ (n.least ≤ (col.count n.kind : Int) ∧ (col.count n.kind : Int) ≤ n.most) → Q (.bl false) H3:=fun e z=>no H3 s3 fun w'=>z (w'.2.1 n (List.mem_of_getElem? hn) e)
    walk_at "rd"
    refine ite2 (fun e1=>?_) (fun e1=>?_)
    ·have e1' : n.day = d:=by have:=of_decide_eq_true e1; injection this
     walk_at "rd"
     refine ite2 (fun e2=>?_) (fun e2=>?_)
     ·have e2':=of_decide_eq_true e2
      walk_at "rd"
      exact bad e1' fun z=>by omega
     ·have e2':=of_decide_eq_false (Bool.eq_false_iff.mpr e2)
      walk_at "rd"
      refine ite2 (fun e3=>?_) (fun e3=>?_)
      ·have e3':=of_decide_eq_true e3
       walk_at "rd"
       exact bad e1' fun z=>by omega
      ·have e3':=of_decide_eq_false (Bool.eq_false_iff.mpr e3)
       exact Here.mk ⟨_,_,_,_,rfl,nx fun _=>⟨by omega,by omega⟩,s3⟩
    ·exact Here.mk ⟨_,_,_,_,rfl,nx fun z=>absurd (decide_eq_true (by rw [z])) e1,s3⟩
   ·rintro σ H3 hv
    obtain ⟨v2,v3,v4,v5,rfl,hok,s3⟩:=hv.out
    have hnee : J6x nds d col:=fun n hn e=>by
     obtain ⟨j,hj⟩:=List.getElem?_of_mem hn
     exact hok j n (by have:=(List.getElem?_eq_some_iff.mp hj).1; omega) hj e
    clear hok
    have hpl3:=s3 _ _ hpl
    walk_at "rd"
    refine J16 (K:=K) (xs:=us) (fun i σ H4=>Here (∃ w1 w2 w3 w4 w5,σ = [some (.ref t),some (.ref pl),some (.int d),some (T col),some (T ks),some (.ref a1),some (.ref a2),some (.ref a3),some (.ref a4),v1,v2,v3,v4,v5,w1,w2,w3,w4,w5] ∧ (prs.take i).all (fun p=>!pqB col p) = true ∧ H4 = H3)) (Here.mk ⟨none,none,none,none,none,rfl,rfl,rfl⟩) (fun i σ H4 _ hv=>by obtain ⟨_,_,_,_,_,_,_,e⟩:=hv.out; rw [e]; exact SqL.of hpl3) ?_ ?_
    ·rintro i x σ H4 hx hv
     obtain ⟨w1,w2,w3,w4,w5,rfl,ha,eH⟩:=hv.out
     rw [eH]
     obtain ⟨pr,hpr,tt,rfl,ht⟩:=aP.back hx
     have ht3:=s3 _ _ ht
     have h33:=s3 _ _ h3
     have eA:=J3P (fun p=>!pqB col p) prs hpr
     obtain ⟨⟨i1,i2⟩,⟨j1,j2⟩,hw⟩:=hin pr (List.mem_of_getElem? hpr)
     have hil:=(List.getElem?_eq_some_iff.mp i1).1
     have hjl:=(List.getElem?_eq_some_iff.mp j1).1
     rw [List.length_map] at hil hjl
     have gi:=J1A (l:=col) (i:=pr.i) (by omega)
     have gj:=J1A (l:=col) (i:=pr.j) (by omega)
     have eB : pqB col pr = brkB pr.wd (col.getD pr.i 0) (col.getD pr.j 0):=rfl
     have bad : pqB col pr = true → Q (.bl false) H3:=fun z=>no H3 s3 fun w'=>by
      have:=w'.2.2
      unfold prsB at this
      rw [J6b _ _ hpr (by rw [z]; rfl)] at this
      cases this
     have good : pqB col pr = false → (prs.take (i + 1)).all (fun p=>!pqB col p) = true:=fun z=>by rw [eA,ha,z]; rfl
     generalize col.getD pr.i 0 = c1 at gi eB
     generalize col.getD pr.j 0 = c2 at gj eB
     have dT : ∀ a b : Nat,decide (T [a] = T [b]) = decide (a = b):=fun a b=>decide_eq_decide.mpr ⟨fun z=>by simpa using J2D z,fun z=>by rw [z]⟩
     unfold brkB at eB
     have nw : ∀ {x y : List Nat},pr.wd = x → ¬ x = y → ¬ decide (T pr.wd = T y) = true:=fun e n z=>n (e.symm.trans (J2D (of_decide_eq_true z)))
     have yw : ∀ {x : List Nat},pr.wd = x → decide (T pr.wd = T x) = true:=fun e=>decide_eq_true (by rw [e])
     have m45 : ∀ z : (!decide (T [c1] = T [45])) = true,decide (c1 = 45) = false:=fun z=>by rw [← dT]; simpa using z
     have m45' : ∀ z : ¬ (!decide (T [c1] = T [45])) = true,decide (c1 = 45) = true:=fun z=>by rw [← dT]; simpa using z
     have fin : pqB col pr = false → Here (∃ w1 w2 w3 w4 w5,[some (V.ref t),some (.ref pl),some (.int d),some (T col),some (T ks),some (.ref a1),some (.ref a2),some (.ref a3),some (.ref a4),v1,v2,v3,v4,v5,some (T pr.wd),some (T pr.one),some (T pr.two),some (T [c1]),some (T [c2])] = [some (V.ref t),some (.ref pl),some (.int d),some (T col),some (T ks),some (.ref a1),some (.ref a2),some (.ref a3),some (.ref a4),v1,v2,v3,v4,v5,w1,w2,w3,w4,w5] ∧ (prs.take (i + 1)).all (fun p=>!pqB col p) = true ∧ H3 = H3):=fun z=>Here.mk ⟨_,_,_,_,_,rfl,good z,rfl⟩
     walk_at "rd"
     rcases hw with hw | hw
     ·rw [if_pos hw] at eB
      have n2 : ¬ decide (T pr.wd = T [119,105,116,104]) = true:=nw hw (by decide)
      have y1 : decide (T pr.wd = T [97,112,97,114,116]) = true:=yw hw
      refine ite2 (fun _=>?_) (fun z=>absurd y1 z)
      walk_at "rd"
      refine ite2 (fun z1=>?_) (fun z1=>?_)
      ·walk_at "rd"
       refine ite2 (fun z2=>?_) (fun z2=>?_)
       ·walk_at "rd"
        exact bad (by rw [eB,m45 z1,← dT,z2]; rfl)
       ·walk_at "rd"
        refine ite2 (fun z=>absurd z n2) (fun _=>?_)
        walk_at "rd"
        exact fin (by rw [eB,m45 z1,← dT,Bool.eq_false_iff.mpr z2]; rfl)
      ·walk_at "rd"
       refine ite2 (fun z=>absurd z n2) (fun _=>?_)
       walk_at "rd"
       exact fin (by rw [eB,m45' z1]; rfl)
     ·have hna : ¬ pr.wd = J1K:=by rw [hw]; decide
      rw [if_neg hna] at eB
      have n1 : ¬ decide (T pr.wd = T [97,112,97,114,116]) = true:=nw hw (by decide)
      have y2 : decide (T pr.wd = T [119,105,116,104]) = true:=yw hw
      refine ite2 (fun z=>absurd z n1) (fun _=>?_)
      walk_at "rd"
      refine ite2 (fun _=>?_) (fun z=>absurd y2 z)
      walk_at "rd"
      refine ite2 (fun z1=>?_) (fun z1=>?_)
      ·walk_at "rd"
       refine ite2 (fun z2=>?_) (fun z2=>?_)
       ·walk_at "rd"
        exact bad (by rw [eB,m45 z1,← dT,z2]; rfl)
       ·walk_at "rd"
        exact fin (by rw [eB,m45 z1,← dT,Bool.eq_false_iff.mpr z2]; rfl)
      ·walk_at "rd"
       exact fin (by rw [eB,m45' z1]; rfl)
    ·rintro σ H4 hv
     obtain ⟨w1,w2,w3,w4,w5,rfl,ha,eH⟩:=hv.out
     rw [eH]
     rw [aP.len,List.take_length] at ha
     walk_at "rd"
     exact q H3 true s3 ⟨fun _=>(J3i o).mpr ⟨hcl,hplc,hnee,ha⟩,fun _=>rfl⟩
end
noncomputable def J7k (C1 C2 : Addr) : Sp:=fun vs H Q _=>∃ (h : Addr) (d : Int) (dd : Int) (ks : List Nat) (nds : List Nd) (ps : List Ps) (ls : List (List Nat × Int)) (prs : List Pq),vs = [.ref h,.int d] ∧ Hz C1 C2 H h dd ks nds ps ls prs ∧ (∀ p ∈ prs,PqIn (ps.map (·.nm)) p) ∧ ps.length ≤ 8 ∧ ks.length ≤ 4 ∧ 256 < prdF (chF ks nds ls ps d) ∧ ∀ H',Same H H' → Q (.bl true) H'
noncomputable def J7l : Sp:=fun vs H Q _=>∃ (fl t pl : Addr) (d : Int) (tl : Addr) (ks : List Nat) (nds : List Nd) (ps : List Ps) (ls : List (List Nat × Int)) (prs : List Pq) (us : List V) (cols trs : List (List Nat)),vs = [.ref fl,.ref t,.ref pl,.int d,.ref tl] ∧ HoT H t ks nds ps ls ∧ Ok61 ks nds ps ls ∧ H pl = some (.lst us) ∧ All2 PqT H prs us ∧ (∀ p ∈ prs,PqIn (ps.map (·.nm)) p) ∧
 H fl = some (.lst (cols.map T)) ∧ cols.length ≤ 256 ∧ (cols.Pairwise fun a b=>a < b) ∧ (∀ c,c ∈ cols ↔ c ∈ colF ks nds ls ps prs d) ∧ H tl = some (.lst (trs.map T)) ∧ trs.length ≤ 3 ∧ (∀ c ∈ trs,c.length = ps.length) ∧ ∀ H',Same H H' → Q (.bl true) H'
section
variable {P : Program} {w : World} {K : PySem.W.Frag} {mg : Str → Option Value} {base : Heap} {J6 J1 J8 Jf Jh J5 : Addr}
theorem J48 (tx : Tx K mg J6 J1 J8 Jf Jh J5) : FnG P w K mg base "_law_refused" 6 ["_law_house","_law_day"] (J7k J6 J1):=by
 have J1q:=J4j (P:=P) (w:=w) (base:=base) tx
 refine tx.J44.g J1V (fun _ _ _ _ _ _ us hl=>match us,hl with | [_,_],_=>rfl) (fun vs H Q E h=>?_) (fun f cdv A outer s H vs Q E hr h=>?_)
 ·obtain ⟨h,d,dd,ks,nds,ps,ls,prs,rfl,_⟩:=h
  rfl
 ·obtain ⟨h,d,dd,ks,nds,ps,ls,prs,rfl,hz,hin,hp8,hk4,h256,q⟩:=h
  refine ⟨_,(J2 (J98 (i:=2) (CB:=J8) rfl rfl J1V.nd rfl rfl tx.J5h (J7T (J9y J1q (hr.mono (by decide)) (J0 (pv 0) (J0 (pv 1) J3)))) (fun _=>(J9 (Jl (J8c (Js (J2y (K:=K) rfl) rfl tx.JK J0I (J0 (pv 2) (J0 (J4T (v:=.ref J5) rfl tx.J4h rfl) J3))) (J8c (J9M (Js (J2y (K:=K) rfl) rfl tx.JK J0I (J0 (pv 2) (J0 (J4T (v:=.ref Jh) rfl tx.J8A rfl) J3)))) (J9L (Js (J2y (K:=K) rfl) rfl tx.JK J0I (J0 (pv 2) (J0 (J8i tx.J10 J31) J3))))))))))
   (J9 (Jl J0W))),?_⟩
  walk_at "st"
  clear J1q
  walk_at "rd"
  refine ⟨fun _ H2 s2=>?_,fun z=>absurd h256 (by omega)⟩
  refine ⟨J5,rfl,tx.JG,fun e he=>?_⟩
  obtain ⟨H3,e3,y3,s3⟩ : ∃ H3,H3 = upd H2 e (XO e J5) ∧ H3 e = some (XO e J5) ∧ Same H2 H3:=⟨_,rfl,Jb,JS he _⟩
  rw [← e3]
  refine ⟨.ref e,rfl,e,J5,.ref J5,.ref J5,true,rfl,y3,tx.J2o,.inl ⟨_,rfl,rfl⟩,tx.JO,?_⟩
  refine ⟨true,rfl,?_⟩
  refine iteT ?_
  refine ⟨.ref e,rfl,e,J5,.ref Jh,.ref Jh,false,rfl,y3,tx.J2o,.inl ⟨_,rfl,rfl⟩,tx.J01,?_⟩
  refine ⟨false,rfl,true,rfl,?_⟩
  refine iteT ?_
  refine ⟨.ref e,rfl,e,J5,.ty "ValueError",.type "ValueError",true,rfl,y3,tx.J2o,.inr ⟨_,rfl,rfl⟩,tx.JB,?_⟩
  exact q H3 (s2.trans s3)
theorem J5f (tx : Tx K mg J6 J1 J8 Jf Jh J5) : FnG P w K mg base "_law_right" 4 ["_law_found","_law_house_of","_law_pairs_here","_law_day","_law_tried"] J7l:=by
 have J1U:=J5s (P:=P) (w:=w) (base:=base) tx
 refine tx.J5e.g J1I (fun _ _ _ _ _ _ us hl=>match us,hl with | [_,_,_,_,_],_=>rfl) (fun vs H Q E h=>?_) (fun f cdv A outer s H vs Q E hr h=>?_)
 ·obtain ⟨fl,t,pl,d,tl,ks,nds,ps,ls,prs,us,cols,trs,rfl,_⟩:=h
  rfl
 ·obtain ⟨fl,t,pl,d,tl,ks,nds,ps,ls,prs,us,cols,trs,rfl,hT,o,hpl,aP,hin,hfl,hcl,hpw,hmem,htl,ht3,htr,q⟩:=h
  refine ⟨_,(J2 (J04 (J30 (J1X (Js J4C rfl tx.JK J0I (J0 (pv 0) (J0 (J8i tx.J1m J0t) J3))))) (J9 (Jl J0W)) Jw)
   (J2 (JQ PassesOwn.never rfl (Jy rfl tx.JE (J0 (Js (JM (K:=K) rfl) rfl tx.J0Z PySem.boot_len (J0 (pv 0) J3)) J3)) (Jd (i:=5) J1I.nd rfl (Or.inl rfl)) (J2 (J04 (PW.pt (J6H (J30 (J1X (Js J4C rfl tx.JK J0I (J0 (Jx (Ju (K:=K) rfl) (pv 0) (pv 5) (fun _ _=>rfl)) (J0 (J8i tx.J5k J6T) J3))))) (J4U (Ji J3H (Js J1b rfl tx.J0Z PySem.boot_len (J0 (Jx (Ju (K:=K) rfl) (pv 0) (pv 5) (fun _ _=>rfl)) J3)) (Js (JM (K:=K) rfl) rfl tx.J0Z PySem.boot_len (J0 (Jx (J1J (K:=K) rfl) (pv 1) J7 (fun _ _=>rfl)) J3)) (Jr _))))) (J9 (Jl J0W)) Jw)
   (J9 (J04 (PW.pt (J6H (PW.pt (J1n (Ji J2L (pv 5) J7 (Jr _)) (J1g (Ji J9I (Jx (Ju (K:=K) rfl) (pv 0) (Je J6e (pv 5) J7) (fun _ _=>rfl)) (Jx (Ju (K:=K) rfl) (pv 0) (pv 5) (fun _ _=>rfl)) (Jr _))))) (J4U (J30 (J1X (JY J1U (hr.mono (by decide)) (J0 (pv 1) (J0 (pv 2) (J0 (pv 3) (J0 (Jx (Ju (K:=K) rfl) (pv 0) (pv 5) (fun _ _=>rfl)) J3)))))))))) (J9 (Jl J0W)) Jw))))
   (J2 (JQ PassesOwn.never rfl (J03 (K:=K) rfl (pv 4)) (Jd (i:=6) J1I.nd rfl (Or.inl rfl)) (J9 (J04 (Ji J3H (J4Y (J7t (K:=K) rfl) (pv 6) (pv 0) rfl) (JY J1U (hr.mono (by decide)) (J0 (pv 1) (J0 (pv 2) (J0 (pv 3) (J0 (pv 6) J3))))) (Jr _)) (J9 (Jl J0W)) Jw)))
   (J9 (Jl J0W))))),?_⟩
  walk_at "st"
  clear J1U
  have hT0:=hT
  obtain ⟨a1,a2,a3,a4,xs,zs,h0,h1,h2,h3,h4,h5,h6⟩:=hT0
  have hcl' : (cols.map T).length ≤ 256:=by rw [List.length_map]; exact hcl
  have hp8:=o.p8
  walk_at "rd"
  refine J05 (n:=(cols.map T).length) (fun i σ H2=>Here (∃ v1,σ = [some (.ref fl),some (.ref t),some (.ref pl),some (.int d),some (.ref tl),v1,none] ∧ Same H H2)) (Here.mk ⟨none,rfl,Same.refl _⟩) ?_ ?_
  ·rintro i σ H2 hi hv
   obtain ⟨v1,rfl,s2⟩:=hv.out
   rw [List.length_map] at hi
   have hfl2:=s2 _ _ hfl
   have hT2:=hT.same s2
   have h02:=s2 _ _ h0
   have h32:=s2 _ _ h3
   have hpl2:=s2 _ _ hpl
   have aP2:=aP.imp fun a y=>PqT.keeps a y _ _ s2.keeps
   have ci : cols[i]? = some (cols[i]'hi):=List.getElem?_eq_getElem hi
   have gi : atI (cols.map T) (0 + (i : Int)) = some (T (cols[i]'hi)):=by rw [Int.zero_add]; exact J0K (by rw [List.getElem?_map,ci]; rfl)
   have hmi:=(hmem (cols[i]'hi)).mp (List.getElem_mem _)
   have hli:=((J3i o).mp hmi).1
   have hprev : ∀ j : Nat,i = j + 1 → ∃ c,atI (cols.map T) (0 + (i : Int) - 1) = some (T c) ∧ c < cols[i]'hi ∧ c.length ≤ 8:=fun j e=>by
    have hj : j < cols.length:=by omega
    refine ⟨cols[j]'hj,?_,List.pairwise_iff_getElem.mp hpw j i hj hi (by omega),?_⟩
    ·rw [show 0 + (i : Int) - 1 = (j : Int) by omega]
     exact J0K (by rw [List.getElem?_map,List.getElem?_eq_getElem hj]; rfl)
    ·have:=((J3i o).mp ((hmem (cols[j]'hj)).mp (List.getElem_mem _))).1
     omega
   generalize cols[i]'hi = c at ci gi hmi hli hprev
   have hli' : c.length ≤ 8:=by omega
   have hnl : ((ps.map (·.nm)).map T).length = ps.length:=by rw [List.length_map,List.length_map]
   have b2 : atI [T ks,V.ref a1,V.ref a2,V.ref a3,V.ref a4] 2 = some (.ref a2):=by simp [atI,ixN]
   have hs4 : ∀ H3,Same H2 H3 → Here (∃ v1,[some (V.ref fl),some (.ref t),some (.ref pl),some (.int d),some (.ref tl),some (V.int (0 + (i : Int))),none] = [some (V.ref fl),some (.ref t),some (.ref pl),some (.int d),some (.ref tl),v1,none] ∧ Same H H3):=fun H3 s3=>Here.mk ⟨_,rfl,s2.trans s3⟩
   walk_at "rd"
   refine ite2 (fun z=>?_) (fun z=>?_)
   ·rw [hnl,hli] at z
    simp at z
   clear z
   walk_at "rd"
   refine ite2 (fun z=>?_) (fun z=>?_)
   ·have z':=of_decide_eq_true z
    obtain ⟨c',gp,hlt,hl8⟩:=hprev (i - 1) (by omega)
    walk_at "rd"
    refine ite2 (fun y=>?_) (fun y=>?_)
    ·rw [decide_eq_true hlt] at y
     cases y
    walk_at "rd"
    intro H3 b s3 hb
    have hb' : b = true:=hb.mpr hmi
    subst hb'
    walk_at "rd"
    exact hs4 H3 s3
   ·walk_at "rd"
    intro H3 b s3 hb
    have hb' : b = true:=hb.mpr hmi
    subst hb'
    walk_at "rd"
    exact hs4 H3 s3
  ·rintro σ H2 hv
   obtain ⟨v1,rfl,s2⟩:=hv.out
   have hfl2:=s2 _ _ hfl
   have htl2:=s2 _ _ htl
   have ht3' : (trs.map T).length ≤ 3:=by rw [List.length_map]; exact ht3
   walk_at "rd"
   refine J16 (K:=K) (xs:=trs.map T) (fun i σ H3=>Here (∃ v2,σ = [some (.ref fl),some (.ref t),some (.ref pl),some (.int d),some (.ref tl),v1,v2] ∧ Same H H3)) (Here.mk ⟨none,rfl,s2⟩) (fun i σ H3 _ hv=>by obtain ⟨_,_,s3⟩:=hv.out; exact SqL.of (s3 _ _ htl)) ?_ ?_
   ·rintro i x σ H3 hx hv
    obtain ⟨v2,rfl,s3⟩:=hv.out
    obtain ⟨c,hc,rfl⟩:=J5F hx
    have hcl3:=htr c (List.mem_of_getElem? hc)
    have hfl3:=s3 _ _ hfl
    have hT3:=hT.same s3
    have hpl3:=s3 _ _ hpl
    have aP3:=aP.imp fun a y=>PqT.keeps a y _ _ s3.keeps
    have hfv : (cols.map T).all JZ = true:=by rw [List.all_eq_true]; intro x hx; obtain ⟨y,_,rfl⟩:=List.mem_map.mp hx; rfl
    walk_at "rd"
    intro H4 b s4 hb
    walk_at "rd"
    have e1 : (if false = true then !inV (T c) (cols.map T) else inV (T c) (cols.map T)) = b:=by
     show inV (T c) (cols.map T) = b
     rw [J8a]
     cases b with
     | true=>exact decide_eq_true ((hmem c).mpr (hb.mp rfl))
     | false=>exact decide_eq_false fun z=>by have:=hb.mpr ((hmem c).mp z); cases this
    refine ite2 (fun z=>?_) (fun z=>?_)
    ·rw [e1] at z
     simp at z
    exact Here.mk ⟨_,rfl,s3.trans s4⟩
   ·rintro σ H3 hv
    obtain ⟨v2,rfl,s3⟩:=hv.out
    walk_at "rd"
    exact q H3 s3
end
theorem J9k (ns : List Int) (lo hi : Option Int) : cutV (ns.map V.int) lo hi = (cutN ns lo hi).map V.int:=by
 unfold cutV cutN
 rw [List.length_map,List.map_take,List.map_drop]
theorem cut4 (ns : List Int) : (cutN ns (some 10) (some 14)).length ≤ 4:=by
 have : cutV (ns.map V.int) (some 10) (some 14) = (cutN ns (some 10) (some 14)).map V.int:=J9k ns _ _
 have h2 : (cutN ns (some 10) (some 14)).length = (cutV (ns.map V.int) (some 10) (some 14)).length:=by rw [this,List.length_map]
 rw [h2]
 unfold cutV
 rw [List.length_take]
 refine Nat.le_trans (Nat.min_le_left _ _) ?_
 unfold HT.sIx
 simp only
 (repeat' split) <;> omega
theorem J3f : ∀ {l : List V},l.all JZ = true → eqVs l l = true
 | [],_=>rfl
 | v :: l,h=>by
  rw [List.all_cons,Bool.and_eq_true] at h
  show (eqV v v && eqVs l l) = true
  rw [J7L h.1,J3f h.2]
  rfl
theorem J5N {n : Nat} : ∀ {ys : List V},(∀ y ∈ ys,∃ sk : List Nat,y = T sk ∧ sk.length ≤ n) → ∃ sks : List (List Nat),ys = sks.map T ∧ ∀ s ∈ sks,s.length ≤ n
 | [],_=>⟨[],rfl,fun _ h=>by cases h⟩
 | y :: ys,h=>by
  obtain ⟨l,rfl,hl⟩:=h _ (List.mem_cons_self ..)
  obtain ⟨ls,rfl,hls⟩:=J5N (ys:=ys) fun z hz=>h z (List.mem_cons_of_mem _ hz)
  refine ⟨l :: ls,rfl,fun s hs=>?_⟩
  rcases List.mem_cons.mp hs with z | z
  ·rw [z]; exact hl
  ·exact hls s z
theorem J5v {n : Nat} : ∀ {ys : List V},(∀ y ∈ ys,∃ sk : List Nat,y = T sk ∧ sk.length = n) → ∃ sks : List (List Nat),ys = sks.map T ∧ ∀ s ∈ sks,s.length = n
 | [],_=>⟨[],rfl,fun _ h=>by cases h⟩
 | y :: ys,h=>by
  obtain ⟨l,rfl,hl⟩:=h _ (List.mem_cons_self ..)
  obtain ⟨ls,rfl,hls⟩:=J5v (ys:=ys) fun z hz=>h z (List.mem_cons_of_mem _ hz)
  refine ⟨l :: ls,rfl,fun s hs=>?_⟩
  rcases List.mem_cons.mp hs with z | z
  ·rw [z]; exact hl
  ·exact hls s z
noncomputable def psF (nms sks : List (List Nat)) : List Ps:=(nms.zip sks).map fun p=>⟨p.1,p.2,3,0,[]⟩
theorem Ja5 {nms sks : List (List Nat)} (h : nms.length = sks.length) : (psF nms sks).map (·.nm) = nms:=by
 unfold psF
 rw [List.map_map]
 exact List.map_fst_zip (by omega)
theorem J9K {nms sks : List (List Nat)} (h : nms.length = sks.length) : (psF nms sks).map (·.sk) = sks:=by
 unfold psF
 rw [List.map_map]
 exact List.map_snd_zip (by omega)
theorem J8U {nms sks : List (List Nat)} (h : nms.length = sks.length) : (psF nms sks).length = nms.length:=by
 unfold psF
 rw [List.length_map,List.length_zip]
 omega
theorem J7w {nms sks : List (List Nat)} {i : Nat} {p : Ps} (h : (psF nms sks)[i]? = some p) : nms[i]? = some p.nm ∧ sks[i]? = some p.sk ∧ p.most = 3 ∧ p.car = 0 ∧ p.past = []:=by
 unfold psF at h
 rw [List.getElem?_map] at h
 cases hz : (nms.zip sks)[i]? with
 | none=>rw [hz] at h; cases h
 | some q =>
  rw [hz] at h
  cases h
  obtain ⟨h1,h2⟩:=List.getElem?_zip_eq_some.mp hz
  exact ⟨h1,h2,rfl,rfl,rfl⟩
structure NdG (ks : List Nat) (i : Nat) (nds : List Nd) : Prop where
 u : nds.Pairwise J3U
 k : ∀ n ∈ nds,n.kind ∈ ks ∧ n.day < (i : Int)
 l : nds.length ≤ 4 * i
theorem NdG.nil (ks : List Nat) : NdG ks 0 []:=⟨List.Pairwise.nil,fun n h=>(by cases h),Nat.le_refl _⟩
theorem NdG.app {ks : List Nat} {i : Nat} {nds new : List Nd} (h : NdG ks i nds) (g : DayN ks (i : Int) ks.length new) (h4 : ks.length ≤ 4) : NdG ks (i + 1) (nds ++ new):=by
 refine ⟨?_,fun n hn=>?_,by rw [List.length_append]; have:=h.l; have:=g.l; omega⟩
 ·rw [List.pairwise_append]
  refine ⟨h.u,g.u,fun n hn m hm=>?_⟩
  rintro ⟨e,_⟩
  have:=(h.k n hn).2
  have:=(g.k m hm).1
  omega
 ·rcases List.mem_append.mp hn with hn | hn
  ·have:=h.k n hn
   exact ⟨this.1,by omega⟩
  ·obtain ⟨a,j,_,b⟩:=g.k n hn
   exact ⟨List.mem_of_getElem? b,by omega⟩
theorem J7M {ss : List Str} {l : List (List Nat)} (hp : ss.Perm (l.map mkS)) (hs : PyProof.Rows.sortedS ss = true) (hn : l.Nodup) : ∃ cols : List (List Nat),ss.map V.str = cols.map T ∧ cols.length = l.length ∧ (cols.Pairwise fun a b=>a < b) ∧ ∀ c,c ∈ cols ↔ c ∈ l:=by
 have hp2 : (ss.map fun s=>s.cps.toList).Perm l:=by
  have:=hp.map fun s : Str=>s.cps.toList
  rw [List.map_map] at this
  have e : l.map ((fun s : Str=>s.cps.toList) ∘ mkS) = l:=by
   refine (List.map_congr_left fun a _=>?_).trans (List.map_id l)
   rfl
  rw [e] at this
  exact this
 refine ⟨ss.map fun s=>s.cps.toList,?_,hp2.length_eq,?_,fun c=>hp2.mem_iff⟩
 ·rw [List.map_map]
  refine List.map_congr_left fun s _=>?_
  rfl
 ·have h1:=J2W hs
  have h2 : (ss.map fun s=>s.cps.toList).Pairwise fun a b=>¬ b < a:=by
   rw [List.pairwise_map]
   refine h1.imp fun {a b} z=>?_
   rw [PyProof.Rows.ltCps_eq] at z
   exact of_decide_eq_false z
  have h3 : (ss.map fun s=>s.cps.toList).Nodup:=hp2.nodup_iff.mpr hn
  refine (h2.and h3).imp fun {a b} z=>?_
  rcases Decidable.em (a < b) with y | y
  ·exact y
  ·exact absurd (List.le_antisymm (List.not_lt.mp z.1) (List.not_lt.mp y)) z.2
theorem J7b {ks : List Nat} {nds : List Nd} {ps : List Ps} {ls : List (List Nat × Int)} (o : Ok61 ks nds ps ls) (prs : List Pq) (d : Int) : (colF ks nds ls ps prs d).Nodup:=by
 unfold colF
 exact List.Sublist.nodup List.filter_sublist (J6l (J7Y o.kd o.k45))
section
variable {P : Program} {w : World} {K : PySem.W.Frag} {mg : Str → Option Value} {base : Heap} {J6 J1 J8 Jf Jh J5 : Addr}
theorem J9x {f : Addr} {fd : FuncData} (tx : Tx K mg J6 J1 J8 Jf Jh J5) (F : Fun K "law" "law" J1t f fd) : FnOk P w K mg base CX0 14 f fd ["_law_script"] (sp_law K):=by
 have JD:=J2j (P:=P) (w:=w) (base:=base) tx
 have JF:=J1w (P:=P) (w:=w) (base:=base) tx
 have J36:=J5j (P:=P) (w:=w) (base:=base) tx
 have J39:=J5m (P:=P) (w:=w) (base:=base) tx
 have J2A:=J4F (P:=P) (w:=w) (base:=base) tx
 have J1E:=J4G (P:=P) (w:=w) (base:=base) tx
 have J35:=J5r (P:=P) (w:=w) (base:=base) tx
 have J38:=J5g (P:=P) (w:=w) (base:=base) tx
 have J37:=J5a (P:=P) (w:=w) (base:=base) tx
 have J1B:=J4i (P:=P) (w:=w) (base:=base) tx
 have J34:=J5f (P:=P) (w:=w) (base:=base) tx
 have J2h:=J48 (P:=P) (w:=w) (base:=base) tx
 have J1q:=J4j (P:=P) (w:=w) (base:=base) tx
 have J59:=tx.J0X.g (J4d (P:=P) (w:=w) (base:=base) tx)
 have J6o:=tx.JL.g (J4H (P:=P) (w:=w) (base:=base) tx)
 refine F.ok JJ (fun vs H Q E h=>?_) (fun cdv A outer s H vs Q E hr h=>?_)
 ·obtain ⟨a,ns,rfl,_⟩:=h
  rfl
 ·obtain ⟨sc,ns,rfl,hS,hns,q⟩:=h
  refine ⟨_,(J2 (Jj (i:=1) JJ.nd rfl (Or.inl rfl) (JY JD (hr.mono (by decide)) (J0 (pv 0) (J0 J7 J3))))
   (J2 (Jj (i:=2) JJ.nd rfl (Or.inr rfl) (JY J36 (hr.mono (by decide)) (J0 (pv 1) J3)))
   (J2 (Jj (i:=3) JJ.nd rfl (Or.inl rfl) (Je J0A J7 (Je JH (Je J00 (pv 1) J7) J7)))
   (J2 (Jj (i:=4) JJ.nd rfl (Or.inl rfl) (Je JH (Je J00 (pv 1) J7) J7))
   (J2 (J9N (J04 (Ji J1x (Je JH (Je J00 (pv 1) J7) J7) J7 (Jr _)) (J9 (Jj (i:=4) JJ.nd rfl (Or.inl rfl) (Je JH (Je J00 (pv 1) J7) J7))) Jw))
   (J2 (Jj (i:=5) JJ.nd rfl (Or.inr rfl) (JY J39 (hr.mono (by decide)) (J0 (JY JD (hr.mono (by decide)) (J0 (pv 0) (J0 J7 J3))) (J0 (pv 4) J3))))
   (J2 (Jj (i:=6) JJ.nd rfl (Or.inr rfl) (J1p (osc:=J4 J1t) (ON:=["_law_script","_law_cell","_law_kinds_here","_law_days","_law_many","_law_names_here","_law_skills_here","_law_drawn","_law_needs_here","_law_day","_law_leave_here","_law_pairs_here","_law_persons","_law_house","_law_house_of","_law_other","_law_ways","_law_p","_law_found","_law_kept"]) (N:=["_law_p","_law_kinds_here","_law_script"]) (js:=[none,some 2,some 0]) ⟨rfl,by decide +kernel,by decide +kernel,by decide +kernel,rfl,by decide +kernel⟩ rfl rfl rfl (Jy rfl tx.JE (J0 (pv 4) J3)) (fun _ _ _ _ _=>Jd (i:=0) (show List.Nodup (["_law_p","_law_kinds_here","_law_script"] : List Str) from by decide +kernel) rfl (Or.inl rfl)) (fun _ _ _ _ _=>J1i) (fun _ _ _ _ _=>(JY J2A (hr.mono (by decide)) (J0 (JY JF (hr.mono (by decide)) (J0 (JY JD (hr.mono (by decide)) (J0 (pv 2) (J0 J7 J3))) (J0 (pv 0) J3))) (J0 (pv 1) J3))))))
   (J2 (J3m (k:=7) (osc:=J4 J1t) (ON:=["_law_script","_law_cell","_law_kinds_here","_law_days","_law_many","_law_names_here","_law_skills_here","_law_drawn","_law_needs_here","_law_day","_law_leave_here","_law_pairs_here","_law_persons","_law_house","_law_house_of","_law_other","_law_ways","_law_p","_law_found","_law_kept"]) (N:=["_law_day","_law_script","_law_skills_here"]) (js:=[none,some 0,some 6]) JJ.nd rfl (Or.inl rfl) ⟨rfl,by decide +kernel,by decide +kernel,by decide +kernel,rfl,by decide +kernel⟩ rfl rfl rfl (Jy rfl tx.JE (J0 (pv 3) J3)) (fun _ _ _ _ _=>Jd (i:=0) (show List.Nodup (["_law_day","_law_script","_law_skills_here"] : List Str) from by decide +kernel) rfl (Or.inl rfl)) (fun _ _ _ _ _=>J1i) (fun _ _ _ _ _=>(JY J1E (hr.mono (by decide)) (J0 (pv 1) (J0 (Je J0A J7 (pv 0)) (J0 (pv 2) J3))))))
   (J2 (Jj (i:=8) JJ.nd rfl (Or.inl rfl) (J14 J3))
   (J2 (JQ PassesOwn.never rfl (Jy rfl tx.JE (J0 (pv 3) J3)) (Jd (i:=9) JJ.nd rfl (Or.inl rfl)) (J9 (Jj (i:=8) JJ.nd rfl (Or.inl rfl) (Je J9V (pv 8) (JY J35 (hr.mono (by decide)) (J0 (JY JD (hr.mono (by decide)) (J0 (pv 0) (J0 J7 J3))) (J0 (pv 9) (J0 (pv 2) (J0 (Jx (Ju (K:=K) rfl) (pv 7) (pv 9) (fun _ _=>rfl)) J3)))))))))
   (J2 (Jj (i:=10) JJ.nd rfl (Or.inl rfl) (JY J37 (hr.mono (by decide)) (J0 (J3T (J7x (K:=K) rfl) (pv 0) (J3j J7) (J3j J7)) (J0 (pv 5) (J0 (pv 3) J3)))))
   (J2 (Jj (i:=11) JJ.nd rfl (Or.inl rfl) (JY J38 (hr.mono (by decide)) (J0 (JY JD (hr.mono (by decide)) (J0 (pv 0) (J0 J7 J3))) (J0 (pv 5) J3))))
   (J2 (J3m (k:=12) (osc:=J4 J1t) (ON:=["_law_script","_law_cell","_law_kinds_here","_law_days","_law_many","_law_names_here","_law_skills_here","_law_drawn","_law_needs_here","_law_day","_law_leave_here","_law_pairs_here","_law_persons","_law_house","_law_house_of","_law_other","_law_ways","_law_p","_law_found","_law_kept"]) (N:=["_law_p","_law_names_here","_law_skills_here"]) (js:=[none,some 5,some 6]) JJ.nd rfl (Or.inl rfl) ⟨rfl,by decide +kernel,by decide +kernel,by decide +kernel,rfl,by decide +kernel⟩ rfl rfl rfl (Jy rfl tx.JE (J0 (pv 4) J3)) (fun _ _ _ _ _=>Jd (i:=0) (show List.Nodup (["_law_p","_law_names_here","_law_skills_here"] : List Str) from by decide +kernel) rfl (Or.inl rfl)) (fun _ _ _ _ _=>J1i) (fun _ _ _ _ _=>(J7H (r:=rPer J6) J59 (hr.mono (by decide)) J9T (J0 (Jx (Ju (K:=K) rfl) (pv 1) (pv 0) (fun _ _=>rfl)) (J0 (Jx (Ju (K:=K) rfl) (pv 2) (pv 0) (fun _ _=>rfl)) (J0 J7 (J0 J7 (J0 (JA (l:=[]) (by decide +kernel)) J3))))))))
   (J2 (Jj (i:=13) JJ.nd rfl (Or.inl rfl) (J7H (r:=rHou J1) J6o (hr.mono (by decide)) J9s (J0 (pv 3) (J0 (pv 2) (J0 (pv 8) (J0 (pv 12) (J0 (pv 10) (J0 (J14 J3) (J0 (J14 J3) (J0 (pv 11) J3))))))))))
   (J2 (Jj (i:=14) JJ.nd rfl (Or.inl rfl) (J1W (J0 (pv 2) (J0 (pv 8) (J0 (pv 5) (J0 (pv 6) (J0 (pv 10) J3)))))))
   (J2 (Jj (i:=15) JJ.nd rfl (Or.inl rfl) (JY J1E (hr.mono (by decide)) (J0 (pv 0) (J0 J7 (J0 (J1p (osc:=J4 J1t) (ON:=["_law_script","_law_cell","_law_kinds_here","_law_days","_law_many","_law_names_here","_law_skills_here","_law_drawn","_law_needs_here","_law_day","_law_leave_here","_law_pairs_here","_law_persons","_law_house","_law_house_of","_law_other","_law_ways","_law_p","_law_found","_law_kept"]) (N:=["_law_name","_law_kinds_here"]) (js:=[none,some 2]) ⟨rfl,by decide +kernel,by decide +kernel,by decide +kernel,rfl,by decide +kernel⟩ rfl rfl rfl (J03 (K:=K) rfl (pv 5)) (fun _ _ _ _ _=>Jd (i:=0) (show List.Nodup (["_law_name","_law_kinds_here"] : List Str) from by decide +kernel) rfl (Or.inl rfl)) (fun _ _ _ _ _=>J1i) (fun _ _ _ _ _=>(Je J0J (Je J0J (Je J0J (JA (l:=[45]) (by decide +kernel)) (pv 1)) (pv 1)) (JA (l:=[90]) (by decide +kernel))))) J3)))))
   (J2 (JQ PassesOwn.never rfl (Jy rfl tx.JE (J0 (pv 3) J3)) (Jd (i:=9) JJ.nd rfl (Or.inl rfl)) (J2 (Jj (i:=16) JJ.nd rfl (Or.inl rfl) J7)
   (J2 (JQ PassesOwn.never rfl (Jy rfl tx.JE (J0 (pv 4) J3)) (Jd (i:=17) JJ.nd rfl (Or.inl rfl)) (J9 (Jj (i:=16) JJ.nd rfl (Or.inl rfl) (Je J1Z (pv 16) (Je J0A J7 (Js J1b rfl tx.J0Z PySem.boot_len (J0 (JY J1B (hr.mono (by decide)) (J0 (pv 14) (J0 (pv 17) (J0 (pv 9) J3)))) J3)))))))
   (J9 (J04 (Ji J2L (pv 16) J7 (Jr _)) (J9 (J04 (J30 (J1X (JY J2h (hr.mono (by decide)) (J0 (pv 13) (J0 (pv 9) J3))))) (J9 (Jl J0W)) Jw)) (J2 (Jj (i:=18) JJ.nd rfl (Or.inl rfl) (J8s J1q (hr.mono (by decide)) J7I (J0 (pv 13) (J0 (pv 9) J3))))
   (J2 (J04 (J30 (J1X (JY J34 (hr.mono (by decide)) (J0 (pv 18) (J0 (pv 14) (J0 (pv 11) (J0 (pv 9) (J0 (J14 (J0 (Jx (Ju (K:=K) rfl) (pv 7) (pv 9) (fun _ _=>rfl)) (J0 (pv 15) (J0 (Je J74 (JA (l:=[45]) (by decide +kernel)) (pv 4)) J3)))) J3)))))))) (J9 (Jl J0W)) Jw)
   (J2 (Jj (i:=19) JJ.nd rfl (Or.inl rfl) (J1a J0b rfl tx.J1m J0t (J0 (pv 18) J3)))
   (J2 (J3h (J3e PySem.F.plainAttrs_list PySem.F.slot_list_append PySem.F.type_list_append J1s (pv 18) (J0 (JA (l:=[]) (by decide +kernel)) J3)))
   (J9 (J04 (Ji (J82 (K:=K) rfl hr.units0) (J8s J1q (hr.mono (by decide)) J7I (J0 (pv 13) (J0 (pv 9) J3))) (pv 19) (Jr _)) (J9 (Jl J0W)) Jw)))))))))))
   (J9 (Jl J0W))))))))))))))))))),?_⟩
  walk_at "st"
  clear JD JF J36 J39 J2A J1E J35 J38 J37 J1B J34 J2h J1q J59 J6o
  have hns' : (ns.map V.int).length ≤ 63:=by rw [List.length_map]; exact hns
  walk_at "rd"
  generalize J4t ns 0 = c0
  intro ks H1 s1 hk4 hkd hk45
  have hS1:=s1.seq hS
  walk_at "rd"
  refine tCut.mk (fun σ' H'=>Here (∃ m : Int,0 ≤ m ∧ m ≤ 8 ∧ σ' = [some (.ref sc),some (.int c0),some (T ks),some (.int (1 + c0 / 104 % 3)),some (.int m),none,none,none,none,none,none,none,none,none,none,none,none,none,none,none] ∧ H' = H1)) ?_ ?_
  ·have a0:=Int.emod_nonneg (c0 / 312) (show (5 : Int) ≠ 0 by decide)
   have a1:=Int.emod_lt_of_pos (c0 / 312) (show (0 : Int) < 5 by decide)
   have b0:=Int.emod_nonneg (c0 / 9360) (show (9 : Int) ≠ 0 by decide)
   have b1:=Int.emod_lt_of_pos (c0 / 9360) (show (0 : Int) < 9 by decide)
   walk_at "rd"
   refine ite2 (fun _=>?_) (fun _=>?_)
   ·walk_at "rd"
    exact Here.mk ⟨_,b0,by omega,rfl,rfl⟩
   ·exact Here.mk ⟨_,a0,by omega,rfl,rfl⟩
  intro σ' H' hv
  obtain ⟨m,m0,m8,rfl,eH⟩:=hv.out
  rw [eH]
  clear hv eH H'
  have dd0:=Int.emod_nonneg (c0 / 104) (show (3 : Int) ≠ 0 by decide)
  have dd1:=Int.emod_lt_of_pos (c0 / 104) (show (0 : Int) < 3 by decide)
  generalize hdd : 1 + c0 / 104 % 3 = days
  have d1 : 1 ≤ days:=by omega
  have d3 : days ≤ 3:=by omega
  clear dd0 dd1
  walk_at "rd"
  intro nl H2 nms s2 nnl hnl hnm hinj
  have hS2:=s2.seq hS1
  walk_at "rd"
  refine JP (List.range m.toNat) (fun _=>true) (fun (_ : Nat) y _=>∃ sk : List Nat,y = T sk ∧ sk.length ≤ 4) (fun σ=>∃ v,σ = [v,some (T ks),some (.ref sc)]) (J0V 0 _) (by rw [List.length_map]) (by rw [List.length_range]; omega) ⟨_,rfl⟩ (fun _ _ _ _ _ z=>z) (fun i a v σ H' ha hv hσ s' Rf Rt _ hR=>?_) (fun sl H3 ys nsl s3 hys hsl=>?_)
  ·obtain ⟨w1,rfl⟩:=hσ
   rw [List.getElem?_map,ha] at hv
   cases hv
   have hS':=s'.seq hS2
   walk_at "rd"
   intro r r0 r1
   walk_at "rd"
   intro sk H4 s4 hsk
   exact hR _ _ _ rfl ⟨_,rfl⟩ s4 ⟨sk,rfl,hsk⟩
  have hyl:=hys.len
  rw [List.filter_eq_self.mpr fun _ _=>rfl] at hyl hys
  rw [List.length_range] at hyl
  obtain ⟨sks,rfl,hsk4⟩:=J5N (n:=4) (ys:=ys) fun y hy=>by
   obtain ⟨j,hj⟩:=List.getElem?_of_mem hy
   obtain ⟨_,_,z⟩:=hys.back hj
   exact z
  rw [List.length_map] at hyl
  clear hys
  have hlen : nms.length = sks.length:=by omega
  have hS3:=s3.seq hS2
  have hnl3:=s3 _ _ hnl
  walk_at "rd"
  refine JP (List.range days.toNat) (fun _=>true) (fun (_ : Nat) y _=>∃ col : List Nat,y = T col ∧ col.length = sks.length) (fun σ=>∃ v,σ = [v,some (.ref sc),some (.ref sl)]) (J0V 0 _) (by rw [List.length_map]) (by rw [List.length_range]; omega) ⟨_,rfl⟩ (fun _ _ _ _ _ z=>z) (fun i a v σ H' ha hv hσ s' Rf Rt _ hR=>?_) (fun dl H4 ys nDl s4 hys hdl=>?_)
  ·obtain ⟨w1,rfl⟩:=hσ
   rw [List.getElem?_map,ha] at hv
   cases hv
   have hS':=s'.seq hS3
   have hsl':=s' _ _ hsl
   have h20 : ∀ s ∈ sks,s.length ≤ 20:=fun s hs=>by have:=hsk4 s hs; omega
   have h8 : sks.length ≤ 8:=by omega
   walk_at "rd"
   intro col hcol
   exact hR _ _ _ rfl ⟨_,rfl⟩ (Same.refl _) ⟨col,rfl,hcol⟩
  have hyl2:=hys.len
  rw [List.filter_eq_self.mpr fun _ _=>rfl] at hyl2 hys
  rw [List.length_range] at hyl2
  obtain ⟨drs,rfl,hdr⟩:=J5v (n:=sks.length) (ys:=ys) fun y hy=>by
   obtain ⟨j,hj⟩:=List.getElem?_of_mem hy
   obtain ⟨_,_,z⟩:=hys.back hj
   exact z
  rw [List.length_map] at hyl2
  clear hys
  have S4:=((s1.trans s2).trans s3).trans s4
  have hS4:=s4.seq hS3
  have hnl4:=s4 _ _ hnl3
  have hsl4:=s4 _ _ hsl
  walk_at "rd"
  intro n0 f0
  obtain ⟨H5,e5,y5,s5⟩:=newl (xs:=[]) f0
  rw [← e5]
  have hdl5:=s5 _ _ hdl
  walk_at "rd"
  refine J05 (n:=days.toNat) (fun i σ H6=>Here (∃ (v9 : Option V) (na : Addr) (nds : List Nd) (xs : List V),σ = [some (.ref sc),some (.int c0),some (T ks),some (.int days),some (.int m),some (.ref nl),some (.ref sl),some (.ref dl),some (.ref na),v9,none,none,none,none,none,none,none,none,none,none] ∧ Same H5 H6 ∧ H6 na = some (.lst xs) ∧ All2 NdAt H6 nds xs ∧ NdG ks i nds)) (Here.mk ⟨none,n0,[],[],rfl,Same.refl _,y5,trivial,NdG.nil ks⟩) ?_ ?_
  ·rintro i σ H6 hi hv
   obtain ⟨v9,na,nds,xs,rfl,s6,hna,aN,hG⟩:=hv.out
   have hdl6:=s6 _ _ hdl5
   have hS6:=s6.seq (s5.seq hS4)
   have hil : i < drs.length:=by omega
   have hdi : drs[i]? = some (drs[i]'hil):=List.getElem?_eq_getElem hil
   have gd : atI (drs.map T) (0 + (i : Int)) = some (T (drs[i]'hil)):=by rw [Int.zero_add]; exact J0K (by rw [List.getElem?_map,hdi]; rfl)
   have hcl:=hdr (drs[i]'hil) (List.getElem_mem _)
   generalize drs[i]'hil = col at gd hcl hdi
   have hcl' : col.length ≤ 8:=by omega
   have hdl8 : (drs.map T).length ≤ 8:=by rw [List.length_map]; omega
   walk_at "rd"
   intro nb H7 new zs s7 nnb hnb aN2 hD
   have hna7:=s7 _ _ hna
   have hGl:=hG.l
   have hDl:=hD.l
   have hx1:=aN.len
   have hx2:=aN2.len
   have hxl : xs.length ≤ 100:=by omega
   have hzl : zs.length ≤ 100:=by omega
   walk_at "rd"
   intro nc fc
   obtain ⟨H8,e8,y8,s8⟩:=newl (xs:=xs ++ zs) fc
   rw [← e8]
   have hD' : DayN ks (i : Int) ks.length new:=by rw [Int.zero_add] at hD; exact hD
   exact Here.mk ⟨_,nc,nds ++ new,xs ++ zs,rfl,(s6.trans s7).trans s8,y8,All2.app (aN.imp fun a y=>NdAt.keeps a y _ _ (s7.trans s8).keeps) (aN2.imp fun a y=>NdAt.keeps a y _ _ s8.keeps),hG.app hD' hk4⟩
  rintro σ H6 hv
  obtain ⟨v9,na,nds,xs,rfl,s6,hna,aN,hG⟩:=hv.out
  clear hv
  have S6:=(S4.trans s5).trans s6
  have hS6:=s6.seq (s5.seq hS4)
  have hnl6:=(s5.trans s6) _ _ hnl4
  have hsl6:=(s5.trans s6) _ _ hsl4
  have hdl6:=s6 _ _ hdl5
  have hn8 : nms.length ≤ 8:=by omega
  walk_at "rd"
  intro cl fcl
  rw [J9k]
  have hcs:=cut4 ns
  generalize cutN ns (some 10) (some 14) = cs at hcs
  obtain ⟨H7,e7,y7,s7⟩:=newl (xs:=cs.map V.int) fcl
  rw [← e7]
  have hnl7:=s7 _ _ hnl6
  walk_at "rd"
  intro la H8 ls zs s8 fla hla aL hLl
  have S8:=s7.trans s8
  have hS8:=S8.seq hS6
  have hnl8:=S8 _ _ hnl6
  walk_at "rd"
  intro pa H9 prs us s9 fpa hpa aP hin hP3
  have S9:=S8.trans s9
  have hS9:=S9.seq hS6
  have hnl9:=S9 _ _ hnl6
  have hsl9:=S9 _ _ hsl6
  have hpl:=J8U hlen
  have hnl8' : (nms.map T).length ≤ 8:=by rw [List.length_map]; exact hn8
  have hsl8' : (sks.map T).length ≤ 8:=by rw [List.length_map]; omega
  walk_at "rd"
  refine JP (psF nms sks) (fun _=>true) (PsO J6) (fun σ=>∃ v,σ = [v,some (.ref nl),some (.ref sl)]) (J0V 0 _) (by rw [List.length_map,List.length_range,hpl]; omega) (by omega) ⟨_,rfl⟩ (fun a y Ha Hb k z=>PsO.keeps a y Ha Hb k z) (fun i a v σ H' ha hv hσ s' Rf Rt _ hR=>?_) (fun ra H10 ys fra s10 hys hra=>?_)
  ·obtain ⟨w1,rfl⟩:=hσ
   have hil:=(List.getElem?_eq_some_iff.mp ha).1
   rw [List.getElem?_map,List.getElem?_range (by omega)] at hv
   cases hv
   obtain ⟨p1,p2,p3,p4,p5⟩:=J7w ha
   have hnl':=s' _ _ hnl9
   have hsl':=s' _ _ hsl9
   have g1 : atI (nms.map T) (0 + (i : Int)) = some (T a.nm):=by rw [Int.zero_add]; exact J0K (by rw [List.getElem?_map,p1]; rfl)
   have g2 : atI (sks.map T) (0 + (i : Int)) = some (T a.sk):=by rw [Int.zero_add]; exact J0K (by rw [List.getElem?_map,p2]; rfl)
   walk_at "rd"
   intro p H11 s11 np hp
   exact hR _ _ _ rfl ⟨_,rfl⟩ s11 ⟨p,rfl,by rw [p3,p4,p5]; exact hp⟩
  rw [List.filter_eq_self.mpr fun _ _=>rfl] at hys
  have hna10:=(S9.trans s10) _ _ hna
  have hla10:=(s9.trans s10) _ _ hla
  have hpa10:=s10 _ _ hpa
  walk_at "rd"
  intro l1 f1
  obtain ⟨H11,e11,y11,s11⟩:=newl (xs:=[]) f1
  rw [← e11]
  walk_at "rd"
  intro l2 f2
  obtain ⟨H12,e12,y12,s12⟩:=newl (xs:=[]) f2
  rw [← e12]
  have S12:=s11.trans s12
  have hna12:=S12 _ _ hna10
  have hla12:=S12 _ _ hla10
  have hpa12:=S12 _ _ hpa10
  have hra12:=S12 _ _ hra
  have y112:=s12 _ _ y11
  walk_at "rd"
  intro h H13 b1 b2 b3 b4 b5 b6 s13 hh z1 z2 z3 z4 z5 z6 _ _ _ _ _ _
  have S13:=S12.trans s13
  have T13:=(S9.trans s10).trans S13
  have aN13:=aN.imp fun a y=>NdAt.keeps a y _ _ T13.keeps
  have aL13:=aL.imp fun a y=>LvT.keeps a y _ _ ((s9.trans s10).trans S13).keeps
  have aP13:=aP.imp fun a y=>PqT.keeps a y _ _ (s10.trans S13).keeps
  have aS13:=hys.imp fun a y=>PsO.keeps a y _ _ S13.keeps
  have hz : Hz J6 J1 H13 h days ks nds (psF nms sks) ls prs:=⟨b1,b2,b3,b4,b5,b6,xs,ys,zs,[],us,hh,z1,aN13,z2,aS13,z3,aL13,z4,z6,aP13⟩
  have hna13:=s13 _ _ hna12
  have hla13:=s13 _ _ hla12
  have hpa13:=s13 _ _ hpa12
  have hnl13:=(s10.trans S13) _ _ hnl9
  have hsl13:=(s10.trans S13) _ _ hsl9
  have hdl13:=T13 _ _ hdl6
  have hS13:=T13.seq hS6
  walk_at "rd"
  intro t ft
  obtain ⟨H14,e14,y14,s14⟩:=newt (xs:=[T ks,.ref na,.ref nl,.ref sl,.ref la]) ft
  rw [← e14]
  have enm:=Ja5 hlen
  have esk:=J9K hlen
  have hT : HoT H14 t ks nds (psF nms sks) ls:=⟨na,nl,sl,la,xs,zs,y14,s14 _ _ hna13,aN13.imp fun a y=>NdAt.keeps a y _ _ s14.keeps,by rw [enm]; exact s14 _ _ hnl13,by rw [esk]; exact s14 _ _ hsl13,s14 _ _ hla13,aL13.imp fun a y=>LvT.keeps a y _ _ s14.keeps⟩
  have hz14:=hz.same s14
  have hpa14:=s14 _ _ hpa13
  have aP14:=aP13.imp fun a y=>PqT.keeps a y _ _ s14.keeps
  have hnl14:=s14 _ _ hnl13
  have hdl14:=s14 _ _ hdl13
  have hS14:=s14.seq hS13
  have hGl:=hG.l
  have o : Ok61 ks nds (psF nms sks) ls:=⟨hG.u,fun n hn=>(hG.k n hn).1,hkd,hk45,hk4,by omega,by omega,fun p hp=>by
   obtain ⟨j,hj⟩:=List.getElem?_of_mem hp
   exact hsk4 _ (List.mem_of_getElem? (J7w hj).2.1)⟩
  have hin' : ∀ p ∈ prs,PqIn ((psF nms sks).map (·.nm)) p:=by rw [enm]; exact hin
  clear hys aS13 aN13 aL13 aP13 hna13 hla13 hpa13 hnl13 hsl13 hdl13 hS13 z1 z2 z3 z4 z5 z6 hh hz aN aL aP
  walk_at "rd"
  refine JP nms (fun _=>true) (fun _ y _=>y = T ([45] ++ ks ++ ks ++ [90])) (fun σ=>∃ v,σ = [v,some (T ks)]) (J1L (SqL.of hnl14)) (by rw [List.length_map]) (by omega) ⟨_,rfl⟩ (fun _ _ _ _ _ z=>z) (fun i a v σ H' ha hv hσ s' Rf Rt _ hR=>?_) (fun oa H15 ys2 foa s15 hys2 hoa=>?_)
  ·obtain ⟨w1,rfl⟩:=hσ
   rw [List.getElem?_map,ha] at hv
   cases hv
   walk_at "rd"
   exact hR _ _ _ rfl ⟨_,rfl⟩ (Same.refl _) rfl
  rw [List.filter_eq_self.mpr fun _ _=>rfl] at hys2
  have eo : ys2 = (nms.map fun _=>[45] ++ ks ++ ks ++ [90]).map T:=by
   rw [List.map_map]
   exact hys2.eqmap fun a y h=>h
  rw [eo] at hoa
  clear hys2 eo
  have hS15:=s15.seq hS14
  have ho8 : (nms.map fun _=>[45] ++ ks ++ ks ++ [90]).length ≤ 8:=by rw [List.length_map]; exact hn8
  have ho20 : ∀ s ∈ (nms.map fun _=>[45] ++ ks ++ ks ++ [90]),s.length ≤ 20:=fun s hs=>by
   obtain ⟨_,_,rfl⟩:=List.mem_map.mp hs
   simp only [List.length_append,List.length_singleton]
   omega
  walk_at "rd"
  intro oc hoc
  rw [List.length_map] at hoc
  have hT15:=hT.same s15
  have hz15:=hz14.same s15
  have hpa15:=s15 _ _ hpa14
  have aP15:=aP14.imp fun a y=>PqT.keeps a y _ _ s15.keeps
  have hdl15:=s15 _ _ hdl14
  clear hT hz14 hpa14 aP14 hdl14 hS14 hnl14
  generalize hps : psF nms sks = ps at hT15 hz15 o hin' hpl
  have hpm : (ps.length : Int) = m:=by omega
  have hp8:=o.p8
  walk_at "rd"
  refine J05 (n:=days.toNat) (fun i σ H16=>Here (∃ (v9 v16 v17 v18 v19 : Option V),σ = [some (.ref sc),some (.int c0),some (T ks),some (.int days),some (.int m),some (.ref nl),some (.ref sl),some (.ref dl),some (.ref na),v9,some (.ref la),some (.ref pa),some (.ref ra),some (.ref h),some (.ref t),some (T oc),v16,v17,v18,v19] ∧ Same H15 H16)) (Here.mk ⟨_,none,none,none,none,rfl,Same.refl _⟩) ?_ ?_
  ·rintro i σ H16 hi hv
   obtain ⟨v9',v16,v17,v18,v19,rfl,s16⟩:=hv.out
   clear hv
   have hT16:=hT15.same s16
   have hz16:=hz15.same s16
   have gd : ∃ col,atI (drs.map T) (0 + (i : Int)) = some (T col) ∧ col.length = ps.length:=by
    have hil : i < drs.length:=by omega
    refine ⟨drs[i]'hil,?_,?_⟩
    ·rw [Int.zero_add]
     exact J0K (by rw [List.getElem?_map,List.getElem?_eq_getElem hil]; rfl)
    ·have:=hdr (drs[i]'hil) (List.getElem_mem _)
     omega
   obtain ⟨dc,gd,hdc⟩:=gd
   have hdl8 : (drs.map T).length ≤ 8:=by rw [List.length_map]; omega
   walk_at "rd"
   generalize 0 + (i : Int) = d at gd
   have hchl : (chF ks nds ls ps d).length = ps.length:=by unfold chF; rw [List.length_map]
   refine J05 (n:=m.toNat) (fun j σ H17=>Here (∃ (v17 : Option V),σ = [some (.ref sc),some (.int c0),some (T ks),some (.int days),some (.int m),some (.ref nl),some (.ref sl),some (.ref dl),some (.ref na),some (.int d),some (.ref la),some (.ref pa),some (.ref ra),some (.ref h),some (.ref t),some (T oc),some (.int (prdF ((chF ks nds ls ps d).take j) : Nat)),v17,v18,v19] ∧ Same H16 H17)) (Here.mk ⟨_,rfl,Same.refl _⟩) ?_ ?_
   ·rintro j σ H17 hj hv
    obtain ⟨v17',rfl,s17⟩:=hv.out
    clear hv
    have hT17:=hT16.same s17
    have hjl : j < ps.length:=by omega
    have hpj : ps[j]? = some (ps[j]'hjl):=List.getElem?_eq_getElem hjl
    have hpj' : ps[((0 : Int) + (j : Int)).toNat]? = some (ps[j]'hjl):=by rw [show ((0 : Int) + (j : Int)).toNat = j by omega]; exact hpj
    generalize ps[j]'hjl = n at hpj hpj'
    have hml:=(J2M ks nds ls n d).length_le
    have eP : prdF ((chF ks nds ls ps d).take (j + 1)) = prdF ((chF ks nds ls ps d).take j) * (mayP ks nds ls n d ++ [45]).length:=J32 _ _ _ (J7r hpj)
    rw [List.length_append,List.length_singleton] at eP
    walk_at "rd"
    intro H18 s18
    walk_at "rd"
    refine Here.mk ⟨some (.int (0 + (j : Int))),?_,s17.trans s18⟩
    rw [eP,Int.natCast_mul,Int.natCast_add,Int.add_comm]
    rfl
   rintro σ H17 hv
   obtain ⟨v17',rfl,s17⟩:=hv.out
   clear hv
   have hT17:=hT16.same s17
   have hz17:=hz16.same s17
   have S17:=s16.trans s17
   rw [List.take_of_length_le (by omega)]
   walk_at "rd"
   refine ite2 (fun z=>?_) (fun z=>?_)
   ·have z' : 256 < prdF (chF ks nds ls ps d):=by have:=of_decide_eq_true z; omega
    walk_at "rd"
    intro H18 s18
    walk_at "rd"
    exact Here.mk ⟨_,_,_,_,_,rfl,S17.trans s18⟩
   have z' : prdF (chF ks nds ls ps d) ≤ 256:=by have:=of_decide_eq_false (Bool.eq_false_iff.mpr z); omega
   walk_at "rd"
   refine ⟨fun y=>absurd y (by omega),fun _ fa H18 ss s18 nfa hperm hsort hfa=>?_⟩
   obtain ⟨cols,ec,hcn,hcp,hcm⟩:=J7M hperm hsort (J7b o prs d)
   rw [ec] at hfa
   have hc256 : cols.length ≤ 256:=by
    have h1 : (colF ks nds ls ps prs d).length ≤ (J15 (chF ks nds ls ps d)).length:=List.length_filter_le _ _
    have h2:=J2C (chF ks nds ls ps d) [[]] 1 rfl
    unfold prdF at z'
    unfold J15 at h1
    omega
   have S18:=S17.trans s18
   have hdl18:=S18 _ _ hdl15
   walk_at "rd"
   intro tl ftl
   generalize e19 : upd H18 tl _ = H19
   obtain ⟨y19,s19⟩:=J5S ftl e19
   have S19:=S18.trans s19
   have hT19:=hT15.same S19
   have hpa19:=S19 _ _ hpa15
   have aP19:=aP15.imp fun a y=>PqT.keeps a y _ _ S19.keeps
   have hfa19:=s19 _ _ hfa
   have y19' : H19 tl = some (.lst ([dc,oc,List.replicate m.toNat 45].map T)):=y19
   clear y19
   have htr : ∀ c ∈ [dc,oc,List.replicate m.toNat 45],c.length = ps.length:=fun c hc=>by
    simp only [List.mem_cons,List.not_mem_nil,or_false] at hc
    rcases hc with e | e | e
    ·rw [e]; exact hdc
    ·rw [e]; omega
    ·rw [e,List.length_replicate]; omega
   have htr3 : [dc,oc,List.replicate m.toNat 45].length ≤ 3:=Nat.le_refl _
   walk_at "rd"
   intro H20 s20
   have S20:=S19.trans s20
   have hfa20:=s20 _ _ hfa19
   have hcl' : (cols.map T).length ≤ 256:=by rw [List.length_map]; exact hc256
   walk_at "rd"
   intro ka fka
   obtain ⟨H21,e21,y21,s21⟩:=newl (xs:=cols.map T) fka
   rw [← e21]
   have S21:=S20.trans s21
   have hfa21:=s21 _ _ hfa20
   have nfa15 : H15 fa = none:=S17.free nfa
   have S22 : Same H15 (upd H21 fa (.lst (cols.map T ++ [T []]))):=S21.upd nfa15
   have hz22:=hz15.same S22
   have hne : ka ≠ fa:=(Ja hfa20 fka).symm
   have hka22 : upd H21 fa (.lst (cols.map T ++ [T []])) ka = some (.lst (cols.map T)):=(Jc hne).trans y21
   walk_at "rd"
   refine ⟨fun y=>absurd y (by omega),fun _ fb H23 ss2 s23 nfb hperm2 hsort2 hfb=>?_⟩
   have ess : ss2 = ss:=J5A (hperm2.trans hperm.symm) hsort2 hsort
   rw [ess,ec] at hfb
   have hka23:=s23 _ _ hka22
   have hfv : (cols.map T).all JZ = true:=by rw [List.all_eq_true]; intro x hx; obtain ⟨y,_,rfl⟩:=List.mem_map.mp hx; rfl
   walk_at "rd"
   refine ite2 (fun y=>?_) (fun y=>?_)
   ·have e0 : eqVs (cols.map T) (cols.map T) = true:=J3f hfv
    rw [e0] at y
    cases y
   exact Here.mk ⟨_,_,_,_,_,rfl,S22.trans s23⟩
  ·rintro σ H16 hv
   obtain ⟨v9',v16,v17,v18,v19,rfl,s16⟩:=hv.out
   walk_at "rd"
   exact q _
end
open PySem.W in
theorem all_mk {l : OpenLaw} {w : World} {K : Frag} {h : Heap} {mg : Str → Option Value} {fa J6 J1 J8 Jf Jh J5 q1 q2 q3 q4 q5 q6 q7 q8 q9 q10 q11 q12 q13 q14 q15 q16 q17 q18 q19 q20 q21 q22 q23 q24 : Addr} (X : K.In h) (G : h.Ns mainGlobals mg) (hfa : mg "law" = some (.ref fa))
  {od1 an1 od2 an2 od3 an3 od4 an4 od5 an5 od6 an6 od7 an7 od8 an8 od9 an9 od10 an10 od11 an11 od12 an12 od13 an13 od14 an14 od15 an15 od16 an16 od17 an17 od18 an18 od19 an19 od20 an20 od21 an21 od22 an22 od23 an23 od24 an24 : Option Addr} {sl1 sl2 sl3 sl4 sl5 sl6 sl7 sl8 sl9 sl10 sl11 sl12 sl13 sl14 sl15 sl16 sl17 sl18 sl19 sl20 sl21 sl22 sl23 sl24 : Array (Option Value)} {oc1 kV1 dc1 pm1 cd1 ct1 oc2 kV2 dc2 pm2 cd2 ct2 oc3 kV3 dc3 pm3 cd3 ct3 oc4 kV4 dc4 pm4 cd4 ct4 oc5 kV5 dc5 pm5 cd5 ct5 oc6 kV6 dc6 pm6 cd6 ct6 oc7 kV7 dc7 pm7 cd7 ct7 oc8 kV8 dc8 pm8 cd8 ct8 oc9 kV9 dc9 pm9 cd9 ct9 oc10 kV10 dc10 pm10 cd10 ct10 oc11 kV11 dc11 pm11 cd11 ct11 oc12 kV12 dc12 pm12 cd12 ct12 oc13 kV13 dc13 pm13 cd13 ct13 oc14 kV14 dc14 pm14 cd14 ct14 oc15 kV15 dc15 pm15 cd15 ct15 oc16 kV16 dc16 pm16 cd16 ct16 oc17 kV17 dc17 pm17 cd17 ct17 oc18 kV18 dc18 pm18 cd18 ct18 oc19 kV19 dc19 pm19 cd19 ct19 oc20 kV20 dc20 pm20 cd20 ct20 oc21 kV21 dc21 pm21 cd21 ct21 oc22 kV22 dc22 pm22 cd22 ct22 oc23 kV23 dc23 pm23 cd23 ct23 oc24 kV24 dc24 pm24 cd24 ct24 : Value}
  {tk_MOST_COLUMNS : Tok}
  (J3v : nsIn K mainGlobals "Person" = some (some (.ref J6)))
  (J4J : nsIn K mainGlobals "House" = some (some (.ref J1)))
  (J1T : nsIn K mainGlobals "RotaError" = some (some (.ref J8)))
  (J3B : nsIn K mainGlobals "NoName" = some (some (.ref Jf)))
  (J4N : nsIn K mainGlobals "NoDay" = some (some (.ref Jh)))
  (J2U : nsIn K mainGlobals "TooWide" = some (some (.ref J5)))
  (a1 : findIn K (.ref J6) "__init__" = some (some (.ref q1)))
  (i1 : isFn K (.ref q1) = true)
  (l1 : K.lookup q1 = some ⟨oc1,od1,.func (fnOf "__init__" "Person.__init__" (Jn J0k) (Jk J0k) (J4 J0k) .none kV1 dc1 pm1 an1 cd1 ct1),sl1⟩)
  (c1 : codeIn K cd1 "Person.__init__" = true)
  (k1 : keepIn K (.ref q1) = true)
  (a2 : findIn K (.ref J1) "__init__" = some (some (.ref q2)))
  (i2 : isFn K (.ref q2) = true)
  (l2 : K.lookup q2 = some ⟨oc2,od2,.func (fnOf "__init__" "House.__init__" (Jn J0y) (Jk J0y) (J4 J0y) .none kV2 dc2 pm2 an2 cd2 ct2),sl2⟩)
  (c2 : codeIn K cd2 "House.__init__" = true)
  (k2 : keepIn K (.ref q2) = true)
  (a3 : findIn K (.ref J1) "need" = some (some (.ref q3)))
  (i3 : isFn K (.ref q3) = true)
  (l3 : K.lookup q3 = some ⟨oc3,od3,.func (fnOf "need" "House.need" (Jn J0x) (Jk J0x) (J4 J0x) .none kV3 dc3 pm3 an3 cd3 ct3),sl3⟩)
  (c3 : codeIn K cd3 "House.need" = true)
  (k3 : keepIn K (.ref q3) = true)
  (a4 : findIn K (.ref J1) "may" = some (some (.ref q4)))
  (i4 : isFn K (.ref q4) = true)
  (l4 : K.lookup q4 = some ⟨oc4,od4,.func (fnOf "may" "House.may" (Jn J06) (Jk J06) (J4 J06) .none kV4 dc4 pm4 an4 cd4 ct4),sl4⟩)
  (c4 : codeIn K cd4 "House.may" = true)
  (k4 : keepIn K (.ref q4) = true)
  (a5 : findIn K (.ref J1) "place_of" = some (some (.ref q5)))
  (i5 : isFn K (.ref q5) = true)
  (l5 : K.lookup q5 = some ⟨oc5,od5,.func (fnOf "place_of" "House.place_of" (Jn JN) (Jk JN) (J4 JN) .none kV5 dc5 pm5 an5 cd5 ct5),sl5⟩)
  (c5 : codeIn K cd5 "House.place_of" = true)
  (k5 : keepIn K (.ref q5) = true)
  (a6 : nsIn K mainGlobals "breaks_pair" = some (some (.ref q6)))
  (l6 : K.lookup q6 = some ⟨oc6,od6,.func (fnOf "breaks_pair" "breaks_pair" (Jn J0j) (Jk J0j) (J4 J0j) .none kV6 dc6 pm6 an6 cd6 ct6),sl6⟩)
  (c6 : codeIn K cd6 "breaks_pair" = true)
  (k6 : keepIn K (.ref q6) = true)
  (a7 : nsIn K mainGlobals "longer_rows" = some (some (.ref q7)))
  (l7 : K.lookup q7 = some ⟨oc7,od7,.func (fnOf "longer_rows" "longer_rows" (Jn JW) (Jk JW) (J4 JW) .none kV7 dc7 pm7 an7 cd7 ct7),sl7⟩)
  (c7 : codeIn K cd7 "longer_rows" = true)
  (k7 : keepIn K (.ref q7) = true)
  (a8 : nsIn K mainGlobals "meets_needs" = some (some (.ref q8)))
  (l8 : K.lookup q8 = some ⟨oc8,od8,.func (fnOf "meets_needs" "meets_needs" (Jn J0h) (Jk J0h) (J4 J0h) .none kV8 dc8 pm8 an8 cd8 ct8),sl8⟩)
  (c8 : codeIn K cd8 "meets_needs" = true)
  (k8 : keepIn K (.ref q8) = true)
  (a9 : nsIn K mainGlobals "keeps_pairs" = some (some (.ref q9)))
  (l9 : K.lookup q9 = some ⟨oc9,od9,.func (fnOf "keeps_pairs" "keeps_pairs" (Jn J0i) (Jk J0i) (J4 J0i) .none kV9 dc9 pm9 an9 cd9 ct9),sl9⟩)
  (c9 : codeIn K cd9 "keeps_pairs" = true)
  (k9 : keepIn K (.ref q9) = true)
  (a10 : nsIn K mainGlobals "columns" = some (some (.ref q10)))
  (l10 : K.lookup q10 = some ⟨oc10,od10,.func (fnOf "columns" "columns" (Jn J0T) (Jk J0T) (J4 J0T) .none kV10 dc10 pm10 an10 cd10 ct10),sl10⟩)
  (c10 : codeIn K cd10 "columns" = true)
  (k10 : keepIn K (.ref q10) = true)
  (a11 : nsIn K mainGlobals "_law_cell_at" = some (some (.ref q11)))
  (l11 : K.lookup q11 = some ⟨oc11,od11,.func (fnOf "_law_cell_at" "_law_cell_at" (Jn J0d) (Jk J0d) (J4 J0d) .none kV11 dc11 pm11 an11 cd11 ct11),sl11⟩)
  (c11 : codeIn K cd11 "_law_cell_at" = true)
  (k11 : keepIn K (.ref q11) = true)
  (a12 : nsIn K mainGlobals "_law_mixed" = some (some (.ref q12)))
  (l12 : K.lookup q12 = some ⟨oc12,od12,.func (fnOf "_law_mixed" "_law_mixed" (Jn J0N) (Jk J0N) (J4 J0N) .none kV12 dc12 pm12 an12 cd12 ct12),sl12⟩)
  (c12 : codeIn K cd12 "_law_mixed" = true)
  (k12 : keepIn K (.ref q12) = true)
  (a13 : nsIn K mainGlobals "_law_kinds" = some (some (.ref q13)))
  (l13 : K.lookup q13 = some ⟨oc13,od13,.func (fnOf "_law_kinds" "_law_kinds" (Jn J0p) (Jk J0p) (J4 J0p) .none kV13 dc13 pm13 an13 cd13 ct13),sl13⟩)
  (c13 : codeIn K cd13 "_law_kinds" = true)
  (k13 : keepIn K (.ref q13) = true)
  (a14 : nsIn K mainGlobals "_law_names" = some (some (.ref q14)))
  (l14 : K.lookup q14 = some ⟨oc14,od14,.func (fnOf "_law_names" "_law_names" (Jn J0o) (Jk J0o) (J4 J0o) .none kV14 dc14 pm14 an14 cd14 ct14),sl14⟩)
  (c14 : codeIn K cd14 "_law_names" = true)
  (k14 : keepIn K (.ref q14) = true)
  (a15 : nsIn K mainGlobals "_law_skills" = some (some (.ref q15)))
  (l15 : K.lookup q15 = some ⟨oc15,od15,.func (fnOf "_law_skills" "_law_skills" (Jn J0w) (Jk J0w) (J4 J0w) .none kV15 dc15 pm15 an15 cd15 ct15),sl15⟩)
  (c15 : codeIn K cd15 "_law_skills" = true)
  (k15 : keepIn K (.ref q15) = true)
  (a16 : nsIn K mainGlobals "_law_column" = some (some (.ref q16)))
  (l16 : K.lookup q16 = some ⟨oc16,od16,.func (fnOf "_law_column" "_law_column" (Jn J0v) (Jk J0v) (J4 J0v) .none kV16 dc16 pm16 an16 cd16 ct16),sl16⟩)
  (c16 : codeIn K cd16 "_law_column" = true)
  (k16 : keepIn K (.ref q16) = true)
  (a17 : nsIn K mainGlobals "_law_needs" = some (some (.ref q17)))
  (l17 : K.lookup q17 = some ⟨oc17,od17,.func (fnOf "_law_needs" "_law_needs" (Jn J0O) (Jk J0O) (J4 J0O) .none kV17 dc17 pm17 an17 cd17 ct17),sl17⟩)
  (c17 : codeIn K cd17 "_law_needs" = true)
  (k17 : keepIn K (.ref q17) = true)
  (a18 : nsIn K mainGlobals "_law_pairs" = some (some (.ref q18)))
  (l18 : K.lookup q18 = some ⟨oc18,od18,.func (fnOf "_law_pairs" "_law_pairs" (Jn J0R) (Jk J0R) (J4 J0R) .none kV18 dc18 pm18 an18 cd18 ct18),sl18⟩)
  (c18 : codeIn K cd18 "_law_pairs" = true)
  (k18 : keepIn K (.ref q18) = true)
  (a19 : nsIn K mainGlobals "_law_leave" = some (some (.ref q19)))
  (l19 : K.lookup q19 = some ⟨oc19,od19,.func (fnOf "_law_leave" "_law_leave" (Jn J0P) (Jk J0P) (J4 J0P) .none kV19 dc19 pm19 an19 cd19 ct19),sl19⟩)
  (c19 : codeIn K cd19 "_law_leave" = true)
  (k19 : keepIn K (.ref q19) = true)
  (a20 : nsIn K mainGlobals "_law_may" = some (some (.ref q20)))
  (l20 : K.lookup q20 = some ⟨oc20,od20,.func (fnOf "_law_may" "_law_may" (Jn J0Q) (Jk J0Q) (J4 J0Q) .none kV20 dc20 pm20 an20 cd20 ct20),sl20⟩)
  (c20 : codeIn K cd20 "_law_may" = true)
  (k20 : keepIn K (.ref q20) = true)
  (a21 : nsIn K mainGlobals "_law_holds" = some (some (.ref q21)))
  (l21 : K.lookup q21 = some ⟨oc21,od21,.func (fnOf "_law_holds" "_law_holds" (Jn J0U) (Jk J0U) (J4 J0U) .none kV21 dc21 pm21 an21 cd21 ct21),sl21⟩)
  (c21 : codeIn K cd21 "_law_holds" = true)
  (k21 : keepIn K (.ref q21) = true)
  (a22 : nsIn K mainGlobals "_law_refused" = some (some (.ref q22)))
  (l22 : K.lookup q22 = some ⟨oc22,od22,.func (fnOf "_law_refused" "_law_refused" (Jn J0g) (Jk J0g) (J4 J0g) .none kV22 dc22 pm22 an22 cd22 ct22),sl22⟩)
  (c22 : codeIn K cd22 "_law_refused" = true)
  (k22 : keepIn K (.ref q22) = true)
  (a23 : nsIn K mainGlobals "_law_right" = some (some (.ref q23)))
  (l23 : K.lookup q23 = some ⟨oc23,od23,.func (fnOf "_law_right" "_law_right" (Jn J0S) (Jk J0S) (J4 J0S) .none kV23 dc23 pm23 an23 cd23 ct23),sl23⟩)
  (c23 : codeIn K cd23 "_law_right" = true)
  (k23 : keepIn K (.ref q23) = true)
  (a24 : nsIn K mainGlobals "law" = some (some (.ref q24)))
  (l24 : K.lookup q24 = some ⟨oc24,od24,.func (fnOf "law" "law" (Jn J1t) (Jk J1t) (J4 J1t) .none kV24 dc24 pm24 an24 cd24 ct24),sl24⟩)
  (c24 : codeIn K cd24 "law" = true)
  (k24 : keepIn K (.ref q24) = true)
  (J2T : plainGet K J6 Str.empty = true)
  (J2Q : hasDictIn K J6 = true)
  (J2V : plainOver K J6 = true)
  (J2O : findIn K (.ref J6) "__setattr__" = some (some (.builtin "object.__setattr__")))
  (J2S : makesIn K J6 = true)
  (J2P : keepIn K (.ref J6) = true)
  (J3A : plainGet K J1 Str.empty = true)
  (J3w : hasDictIn K J1 = true)
  (J3s : plainOver K J1 = true)
  (J3y : findIn K (.ref J1) "__setattr__" = some (some (.builtin "object.__setattr__")))
  (J3q : makesIn K J1 = true)
  (J3z : keepIn K (.ref J1) = true)
  (J1v : excIn K J5 J69 "ValueError.__new__" = true)
  (J2t : findIn K (.ref J5) "__getattribute__" = some (some (.builtin "BaseException.__getattribute__")))
  (J2p : findIn K (.ref J5) "__getattr__" = some none)
  (J2q : findIn K (.ref J5) "__class__" = some (some (.builtin "object.__class__")))
  (J1F : mroIn K J5 (.type "object") = some true)
  (J2s : mroIn K J5 (.type "BaseException") = some true)
  (JG : exmOne K (.ref J5) (.ref J8) = some true)
  (JB : kitOne K (.ref J5) (.type "ValueError") = some true)
  (JO : kitOne K (.ref J5) (.ref J5) = some true)
  (J01 : kitOne K (.ref J5) (.ref Jh) = some false)
  (JX : findIn K (.ref J6) "name" = some none)
  (JR : findIn K (.ref J6) "skills" = some none)
  (J0E : findIn K (.ref J6) "most" = some none)
  (J02 : findIn K (.ref J6) "carried" = some none)
  (J0C : findIn K (.ref J6) "past" = some none)
  (J12 : findIn K (.ref J1) "days" = some none)
  (JV : findIn K (.ref J1) "kinds" = some none)
  (J0f : findIn K (.ref J1) "needs" = some none)
  (Jz : findIn K (.ref J1) "persons" = some none)
  (J0e : findIn K (.ref J1) "leave" = some none)
  (J0r : findIn K (.ref J1) "wishes" = some none)
  (J0F : findIn K (.ref J1) "rules" = some none)
  (J0c : findIn K (.ref J1) "pairs" = some none)
  (J10 : nsIn K mainGlobals "ValueError" = some none)
  (J1h : nsIn K mainGlobals "enumerate" = some none)
  (JK : nsIn K mainGlobals "isinstance" = some none)
  (J0Z : nsIn K mainGlobals "len" = some none)
  (J1m : nsIn K mainGlobals "list" = some none)
  (J5n : nsIn K mainGlobals "max" = some none)
  (J5o : nsIn K mainGlobals "min" = some none)
  (JE : nsIn K mainGlobals "range" = some none)
  (J1S : nsIn K mainGlobals "sorted" = some none)
  (J5k : nsIn K mainGlobals "str" = some none)
  (J0q : nsIn K mainGlobals "MOST_COLUMNS" = some (some (.int 256 tk_MOST_COLUMNS)))
  : ∃ fd : FuncData,(∀ (s : Shared) (v : Value),BindsTo s fd ⟨[v],[]⟩ [("_law_script",v)]) ∧ ∀ base : Heap,K.In base → base.Ns mainGlobals mg → FnOk l.prog w K mg base CX0 14 fa fd ["_law_script"] (sp_law K):=by
 have e:=hfa.symm.trans (mg_of X G a24)
 cases e
 have T : Tx K mg J6 J1 J8 Jf Jh J5:=⟨⟨_,_,JI (st:=J0k) l1 c1 k1,⟨a1,i1,k1⟩⟩,
  ⟨_,_,JI (st:=J0y) l2 c2 k2,⟨a2,i2,k2⟩⟩,
  ⟨_,_,JI (st:=J0x) l3 c3 k3,⟨a3,i3,k3⟩⟩,
  ⟨_,_,JI (st:=J06) l4 c4 k4,⟨a4,i4,k4⟩⟩,
  ⟨_,_,JI (st:=JN) l5 c5 k5,⟨a5,i5,k5⟩⟩,
  ⟨_,_,JI (st:=J0j) l6 c6 k6,mg_of X G a6⟩,
  ⟨_,_,JI (st:=JW) l7 c7 k7,mg_of X G a7⟩,
  ⟨_,_,JI (st:=J0h) l8 c8 k8,mg_of X G a8⟩,
  ⟨_,_,JI (st:=J0i) l9 c9 k9,mg_of X G a9⟩,
  ⟨_,_,JI (st:=J0T) l10 c10 k10,mg_of X G a10⟩,
  ⟨_,_,JI (st:=J0d) l11 c11 k11,mg_of X G a11⟩,
  ⟨_,_,JI (st:=J0N) l12 c12 k12,mg_of X G a12⟩,
  ⟨_,_,JI (st:=J0p) l13 c13 k13,mg_of X G a13⟩,
  ⟨_,_,JI (st:=J0o) l14 c14 k14,mg_of X G a14⟩,
  ⟨_,_,JI (st:=J0w) l15 c15 k15,mg_of X G a15⟩,
  ⟨_,_,JI (st:=J0v) l16 c16 k16,mg_of X G a16⟩,
  ⟨_,_,JI (st:=J0O) l17 c17 k17,mg_of X G a17⟩,
  ⟨_,_,JI (st:=J0R) l18 c18 k18,mg_of X G a18⟩,
  ⟨_,_,JI (st:=J0P) l19 c19 k19,mg_of X G a19⟩,
  ⟨_,_,JI (st:=J0Q) l20 c20 k20,mg_of X G a20⟩,
  ⟨_,_,JI (st:=J0U) l21 c21 k21,mg_of X G a21⟩,
  ⟨_,_,JI (st:=J0g) l22 c22 k22,mg_of X G a22⟩,
  ⟨_,_,JI (st:=J0S) l23 c23 k23,mg_of X G a23⟩,
  ⟨_,_,JI (st:=J1t) l24 c24 k24,mg_of X G a24⟩,
  ⟨⟨J2T,J2Q,J2V,J2O⟩,mg_of X G J3v,J2S,J2P⟩,
  ⟨⟨J3A,J3w,J3s,J3y⟩,mg_of X G J4J,J3q,J3z⟩,
  mg_of X G J1T,
  mg_of X G J3B,
  mg_of X G J4N,
  mg_of X G J2U,
  J1v,
  ⟨⟨J2t,J2p,J2q,J1F,J2s⟩,J6c J1F⟩,
  JG,
  JB,
  JO,
  J01,
  JX,
  JR,
  J0E,
  J02,
  J0C,
  J12,
  JV,
  J0f,
  Jz,
  J0e,
  J0r,
  J0F,
  J0c,
  mg_none_of X G J10,
  mg_none_of X G J1h,
  mg_none_of X G JK,
  mg_none_of X G J0Z,
  mg_none_of X G J1m,
  mg_none_of X G J5n,
  mg_none_of X G J5o,
  mg_none_of X G JE,
  mg_none_of X G J1S,
  mg_none_of X G J5k,
  ⟨_,mg_of X G J0q⟩⟩
 refine ⟨fnOf "law" "law" (Jn J1t) (Jk J1t) (J4 J1t) .none kV24 dc24 pm24 an24 cd24 ct24,fun s v=>.of_eq rfl,fun base _ _=>?_⟩
 exact J9x T (JI (st:=J1t) l24 c24 k24)
theorem walk {l : PySem.W.OpenLaw} {q : Program} {loose : List Str} {XP : (Str → Option Value) → Heap → Prop} {YP : World → Heap → Prop} {d : DefRec} {K : Params → PySem.W.Frag} (hn : l.most = some 63) (hdf : d.params.defaults = [])
  (hY : ∀ (w : World) (h : Heap),YP w h → (K w.params).In h)
  (F : ∀ (w : World) (mg : Str → Option Value) (fa : Addr) (h : Heap),(K w.params).In h → h.Ns mainGlobals mg → mg d.name = some (.ref fa) →
   ∃ fd : FuncData,(∀ (s : Shared) (u : Value),BindsTo s fd ⟨[u],[]⟩ [("_law_script",u)]) ∧ ∀ base : Heap,(K w.params).In base → base.Ns mainGlobals mg → FnOk l.prog w (K w.params) mg base CX0 14 fa fd ["_law_script"] (sp_law (K w.params))) :
  PySem.W.WalkO q loose XP YP l.row.toRowW d [] (fun f vs=>PySem.call f vs) :=
 L2.walk_of (n:=63) (k:=14) (x:="_law_script") (CX:=fun _=>CX0) (sp:=fun w=>sp_law (K w.params)) hn (by decide) hdf ⟨rfl,by decide,by decide⟩ hY F (fun _ _ a ns hl _ hS=>⟨a,ns,rfl,hS,hl,fun _=>rfl⟩) fun _ _ _ _ _ z=>z
theorem walkX {q : Program} {loose : List Str} {XP : (Str → Option Value) → Heap → Prop} {K : Params → PySem.W.Frag} {as : List Addr} {n t : Nat} {r : PySem.W.RowW} {d : DefRec} {kwd : List (Str × Expr)} {run : Value → List Value → Sem Value} (e : ∀ P,as = (K P).map (·.1))
  (h : PySem.W.WalkO q loose XP (fun w hp=>(K w.params).In hp) r d kwd run) : PySem.W.WalkX q loose XP (PySem.W.X.obsZ as) (PySem.W.X.valZ K n t) r d kwd run:=by
 intro w s₀ s₁ mg mb G Y a o pm cd doc dV kV h1 h2 h3 h4 h5 h6 args vals as' L p1 p2 p3 p4 p5
 exact h w s₀ s₁ mg mb G (PySem.W.InK.keeps w _ _ (PySem.W.X.z_facts e Y).2.1 L.keeps) a o pm cd doc dV kV h1 h2 h3 h4 h5 h6 args vals as' p1 p2 p3 p4 p5
end K61
namespace PySem.W.Fast
def tw750974007870814462:=()
def tw15189649001941803004:=()
def tw944897286749354805:=()
def tw13658070722744896271:=()
def tw7533378963711785352:=()
def tw2469248411193521228:=()
def tw17378211485320079797:=()
def tw6384698784806693319:=()
def tw6950744924910694999:=()
def tw8207542787385220519:=()
def tw11380069305218399207:=()
def tw7934367974149749633:=()
def tw16103922326947692109:=()
def tw2424250400314453133:=()
def tw9879076319947338364:=()
def tw13844950249362936851:=()
def tw16879207400970824996:=()
def tw18199801338151123204:=()
def tw8211014175592435364:=()
def tw10866310781454031330:=()
def tw10376692711084872758:=()
def tw16091333809903112250:=()
def tw11225067570553508223:=()
def tw14084836601443796742:=()
def tw11005324722038097605:=()
def tw3208804598817510644:=()
def tw3156065455533463574:=()
def tw12894010895557616994:=()
def tw15087182480543323781:=()
def tw991030704425106357:=()
def tw12741402445725928734:=()
def tw8690154434924977573:=()
def tw7685887459554811324:=()
def tw18002015629062190624:=()
def tw8541789509529282011:=()
def tw44224917412236863:=()
def tw14044543022710911216:=()
def tw17448485609361367034:=()
def tw7056981452360826462:=()
def tw3939145470627602600:=()
def tw3390653642947683270:=()
def tw3709948630899515906:=()
def tw6830994968261414034:=()
def tw18140934700361643669:=()
def tw11773814541261795057:=()
def tw18201599501819201475:=()
def tw16325901625253989928:=()
def tw6979861709211421388:=()
def tw15671394130678317967:=()
def tw10949640946919009151:=()
def tw1592507634755810129:=()
def tw3657653816025202779:=()
def tw16300433873246399798:=()
def tw9283519107360131243:=()
def tw13481293323133958665:=()
def tw15482178219221902395:=()
def tw5073356673549019472:=()
def tw12688053237868280895:=()
def tw5791251269033693114:=()
def tw2648645475133194831:=()
def tw9988146691465158166:=()
def tw9942907568479608514:=()
def tw1175609282093832387:=()
def tw12998041717996244643:=()
def tw1878554917712792090:=()
def tw5390499326677370227:=()
def tw1364010375206780927:=()
def tw14725564888678625326:=()
def tw18162064803503681900:=()
def tw17935416678210225437:=()
def tw17954168592064833065:=()
def tw17143363527350622106:=()
def tw1710254883608769635:=()
def tw7185067789140107686:=()
def tw3471902211591432667:=()
def tw9431182263568422632:=()
def tw9187846915625596683:=()
def tw17581241035589210016:=()
def tw14636367375439178029:=()
def tw15755919187750727110:=()
def tw14810390866056654006:=()
def tw3294434407328099166:=()
def tw9293505457531128604:=()
def tw7575518791147213630:=()
def tw10427194664581752361:=()
def tw17424077072806929061:=()
def tw14347978474264279700:=()
def tw13492426365771343480:=()
def tw11649849779309966060:=()
def tw270579089065915233:=()
def tw1062488597143086812:=()
def tw6375406456714769703:=()
def tw3756073020749235345:=()
def tw7872725723524433057:=()
def tw8315706286178310351:=()
def tw9461300397898833254:=()
def tw14321398559932792573:=()
def tw15291225667363248898:=()
def tw15468387865657567505:=()
def tw807149697652379630:=()
def tw4775397914229932771:=()
def tw11604445009989966029:=()
def tw362229620249683112:=()
def tw15757394554273253781:=()
def tw16725637625606345689:=()
def tw16265882362040502003:=()
def tw4672249106212519800:=()
def tw18067292341641618703:=()
def tw3043024717722197166:=()
def tw12708156038734038274:=()
def tw1525228049616096139:=()
def tw6025274780633430715:=()
def tw8491951226519320733:=()
def tw17277985417504064214:=()
def tw5260588083661108567:=()
def tw15326846451451606666:=()
def tw2054615389249678079:=()
def tw3946302914258897396:=()
def tw9286927218603004672:=()
def tw869679957924212210:=()
def tw16236492138877983070:=()
def tw8584583033389407522:=()
def tw17618068403807864517:=()
def tw17833730747718263994:=()
def tw13835765872239803005:=()
def tw7077473334211987858:=()
def tw5607218085795857066:=()
def tw6569449943738978683:=()
def tw10914276415041357232:=()
def tw17643181156415819721:=()
def tw17959189022122092002:=()
def tw3492687604196716862:=()
def tw10864760354157531306:=()
def tw14303596047252922541:=()
def tw7395888099901257358:=()
def tw5767568406819013966:=()
def tw18021113826675297454:=()
def tw16646665933702824396:=()
def tw2972767474313894255:=()
def tw13899079699547916547:=()
def tw16581260639028352289:=()
def tw17132255300410396538:=()
def tw14263248816060633160:=()
def tw1582045066227752571:=()
def tw11013017675468060651:=()
def tw3388073008542839014:=()
def tw12985605673209583190:=()
def tw3499794008868486400:=()
def tw16751775896630046692:=()
def tw5773483601221702469:=()
def tw16377679627504175792:=()
def tw9952696961317139280:=()
def tw5364199920530382366:=()
def tw15583981218228711783:=()
def tw11669175659265988688:=()
def tw16682155879156758952:=()
def tw15738729263624576659:=()
def tw17885718982640145031:=()
def tw18420039940020598744:=()
def tw12598388004503093663:=()
def tw1934029395011085966:=()
def tw14275321769773500177:=()
def tw13411168366557621558:=()
def tw15330865825858647445:=()
def tw3999692487646826647:=()
def tw10406128967166705041:=()
def tw10289179670087053117:=()
def tw8400416643281820263:=()
def tw4995337938194928357:=()
def tw17646629882852925585:=()
def tw9803587280356100350:=()
def tw18277489392705340947:=()
def tw17249076199459120090:=()
def tw17581125081550650156:=()
def tw1855221427711544121:=()
def tw2225233892348480502:=()
def tw10281543609716843451:=()
def tw16435846298834733905:=()
def tw6255907400494669319:=()
def tw9754215294667473345:=()
def tw1957010085563442434:=()
def tw9884469437072951993:=()
def tw10671559876546750370:=()
def tw13720992852036028672:=()
def tw12720510706713600679:=()
def tw13839738786008880185:=()
def tw15815385615809983148:=()
def tw9931124073171960854:=()
def tw9531568559699958757:=()
def tw3059677824688897087:=()
def tw10112615520327181917:=()
def tw9458314090780249045:=()
def tw7801776321577447885:=()
def tw5251276594168413755:=()
def tw13063602578749918849:=()
def tw1299770703288359897:=()
def tw7695623845869998140:=()
def tw18101601152325748055:=()
def tw5158676910173524123:=()
def tw10789268698696344900:=()
def tw9791169676306492769:=()
def tw17677999537808805939:=()
def tw11629304265703981267:=()
def tw1668987626550625208:=()
def tw8794108248170902307:=()
def tw4720982896958814339:=()
def tw3846386638980845413:=()
def tw8543087611946093818:=()
def tw2891709588194648098:=()
def tw3955750550681517476:=()
def tw5973196252590344551:=()
def tw5776582290671268585:=()
def tw14259031923961626065:=()
def tw8793366248252667129:=()
def tw15884637825767509645:=()
def tw1966570350285964090:=()
def tw1122813509214671170:=()
def tw3526169104719517050:=()
def tw13623984502110542327:=()
def tw14096668143831453274:=()
def tw11270697039133836956:=()
def tw14160927750542276931:=()
def tw18019863980143946759:=()
def tw1837646582902943448:=()
def tw12475117202135919258:=()
def tw7785344912355110528:=()
def tw17031700252128988943:=()
def tw11266117371682479284:=()
def tw11605064134435112698:=()
def tw12612937034715027501:=()
def tw9974917868604785863:=()
def tw2114896210925571754:=()
def tw8841856080925469306:=()
def tw15863883912864658804:=()
def tw14266023785885462686:=()
def tw11918554982008607321:=()
def tw14885230308197331017:=()
def tw5479875560583360884:=()
def tw15690519465390493737:=()
def tw13022270293336982266:=()
def tw5015869302510117367:=()
def tw3085589250731376555:=()
def tw5355790964412032875:=()
def tw13868884918649397211:=()
def tw5355105357392265460:=()
def tw3688796600750605659:=()
def tw5249190627136715576:=()
def tw13250291062122128028:=()
def tw15984674633379082163:=()
def tw8736323523201035913:=()
def tw16217805585788433052:=()
def tw17095509775160789781:=()
def tw17483633132214465152:=()
def tw1874738434272204197:=()
def tw6106531617279507985:=()
def tw8008653064922599554:=()
def tw1402705358394088594:=()
def tw4989861366770937643:=()
def tw9315299578436768907:=()
def tw17355037522434474584:=()
def tw6221176220430282614:=()
def tw13632475460788237928:=()
end PySem.W.Fast
open PySem PySem.W PyProof.Rows
set_option maxRecDepth 100000 in
set_option maxHeartbeats 0 in
theorem PySem.Challenge.cw_rotafair_k61_columns_holds : PySem.Challenge.rw_rotafair_k61_columns.Holds := by
 w_on; o_law; z_head; (case hw=>w_witness2)
 k_fill
 refine K61.walkX (fun _=>rfl) ?_
 refine K61.walk (l:=PySem.Challenge.rw_rotafair_k61_columns) rfl rfl (fun w h Y=>Y) ?F
 case F =>
  intro w mg fa h KX G hmg
  refine' K61.all_mk KX G hmg ?J3v ?J4J ?J1T ?J3B ?J4N ?J2U ?a1 ?i1 ?l1 ?c1 ?k1 ?a2 ?i2 ?l2 ?c2 ?k2 ?a3 ?i3 ?l3 ?c3 ?k3 ?a4 ?i4 ?l4 ?c4 ?k4 ?a5 ?i5 ?l5 ?c5 ?k5 ?a6 ?l6 ?c6 ?k6 ?a7 ?l7 ?c7 ?k7 ?a8 ?l8 ?c8 ?k8 ?a9 ?l9 ?c9 ?k9 ?a10 ?l10 ?c10 ?k10 ?a11 ?l11 ?c11 ?k11 ?a12 ?l12 ?c12 ?k12 ?a13 ?l13 ?c13 ?k13 ?a14 ?l14 ?c14 ?k14 ?a15 ?l15 ?c15 ?k15 ?a16 ?l16 ?c16 ?k16 ?a17 ?l17 ?c17 ?k17 ?a18 ?l18 ?c18 ?k18 ?a19 ?l19 ?c19 ?k19 ?a20 ?l20 ?c20 ?k20 ?a21 ?l21 ?c21 ?k21 ?a22 ?l22 ?c22 ?k22 ?a23 ?l23 ?c23 ?k23 ?a24 ?l24 ?c24 ?k24 ?J2T ?J2Q ?J2V ?J2O ?J2S ?J2P ?J3A ?J3w ?J3s ?J3y ?J3q ?J3z ?J1v ?J2t ?J2p ?J2q ?J1F ?J2s ?JG ?JB ?JO ?J01 ?JX ?JR ?J0E ?J02 ?J0C ?J12 ?JV ?J0f ?Jz ?J0e ?J0r ?J0F ?J0c ?J10 ?J1h ?JK ?J0Z ?J1m ?J5n ?J5o ?JE ?J1S ?J5k ?J0q
  (case J3v=>k_is)
  (case J4J=>k_is)
  (case J1T=>k_is)
  (case J3B=>k_is)
  (case J4N=>k_is)
  (case J2U=>k_is)
  (case a1=>k_is)
  (case i1=>k_is)
  (case l1=>k_is)
  (case c1=>k_is)
  (case k1=>k_is)
  (case a2=>k_is)
  (case i2=>k_is)
  (case l2=>k_is)
  (case c2=>k_is)
  (case k2=>k_is)
  (case a3=>k_is)
  (case i3=>k_is)
  (case l3=>k_is)
  (case c3=>k_is)
  (case k3=>k_is)
  (case a4=>k_is)
  (case i4=>k_is)
  (case l4=>k_is)
  (case c4=>k_is)
  (case k4=>k_is)
  (case a5=>k_is)
  (case i5=>k_is)
  (case l5=>k_is)
  (case c5=>k_is)
  (case k5=>k_is)
  (case a6=>k_is)
  (case l6=>k_is)
  (case c6=>k_is)
  (case k6=>k_is)
  (case a7=>k_is)
  (case l7=>k_is)
  (case c7=>k_is)
  (case k7=>k_is)
  (case a8=>k_is)
  (case l8=>k_is)
  (case c8=>k_is)
  (case k8=>k_is)
  (case a9=>k_is)
  (case l9=>k_is)
  (case c9=>k_is)
  (case k9=>k_is)
  (case a10=>k_is)
  (case l10=>k_is)
  (case c10=>k_is)
  (case k10=>k_is)
  (case a11=>k_is)
  (case l11=>k_is)
  (case c11=>k_is)
  (case k11=>k_is)
  (case a12=>k_is)
  (case l12=>k_is)
  (case c12=>k_is)
  (case k12=>k_is)
  (case a13=>k_is)
  (case l13=>k_is)
  (case c13=>k_is)
  (case k13=>k_is)
  (case a14=>k_is)
  (case l14=>k_is)
  (case c14=>k_is)
  (case k14=>k_is)
  (case a15=>k_is)
  (case l15=>k_is)
  (case c15=>k_is)
  (case k15=>k_is)
  (case a16=>k_is)
  (case l16=>k_is)
  (case c16=>k_is)
  (case k16=>k_is)
  (case a17=>k_is)
  (case l17=>k_is)
  (case c17=>k_is)
  (case k17=>k_is)
  (case a18=>k_is)
  (case l18=>k_is)
  (case c18=>k_is)
  (case k18=>k_is)
  (case a19=>k_is)
  (case l19=>k_is)
  (case c19=>k_is)
  (case k19=>k_is)
  (case a20=>k_is)
  (case l20=>k_is)
  (case c20=>k_is)
  (case k20=>k_is)
  (case a21=>k_is)
  (case l21=>k_is)
  (case c21=>k_is)
  (case k21=>k_is)
  (case a22=>k_is)
  (case l22=>k_is)
  (case c22=>k_is)
  (case k22=>k_is)
  (case a23=>k_is)
  (case l23=>k_is)
  (case c23=>k_is)
  (case k23=>k_is)
  (case a24=>k_is)
  (case l24=>k_is)
  (case c24=>k_is)
  (case k24=>k_is)
  (case J2T=>k_is)
  (case J2Q=>k_is)
  (case J2V=>k_is)
  (case J2O=>k_is)
  (case J2S=>k_is)
  (case J2P=>k_is)
  (case J3A=>k_is)
  (case J3w=>k_is)
  (case J3s=>k_is)
  (case J3y=>k_is)
  (case J3q=>k_is)
  (case J3z=>k_is)
  (case J1v=>k_exc)
  (case J2t=>k_is)
  (case J2p=>k_is)
  (case J2q=>k_is)
  (case J1F=>k_is)
  (case J2s=>k_is)
  (case JG=>kts_exm)
  (case JB=>kit_is)
  (case JO=>kit_is)
  (case J01=>kit_is)
  (case JX=>k_is)
  (case JR=>k_is)
  (case J0E=>k_is)
  (case J02=>k_is)
  (case J0C=>k_is)
  (case J12=>k_is)
  (case JV=>k_is)
  (case J0f=>k_is)
  (case Jz=>k_is)
  (case J0e=>k_is)
  (case J0r=>k_is)
  (case J0F=>k_is)
  (case J0c=>k_is)
  (case J10=>k_is)
  (case J1h=>k_is)
  (case JK=>k_is)
  (case J0Z=>k_is)
  (case J1m=>k_is)
  (case J5n=>k_is)
  (case J5o=>k_is)
  (case JE=>k_is)
  (case J1S=>k_is)
  (case J5k=>k_is)
  (case J0q=>k_is)
#print axioms PySem.Challenge.cw_rotafair_k61_columns_holds
