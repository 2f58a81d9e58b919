import PyProof.Rows.All
import Wide.All
import OpenK.AllK
import Wide.FinOn
import Lean
import PyProof.EqAt
import PyProof.EqKinds
import PyProof.TupleCall
import KE.KIntText
import PyProof.ListRange
import PySem.Challenge.RW_rotafair_k25_a_house_shown
set_option Elab.async false
set_option linter.all false
set_option maxRecDepth 100000
namespace L2
open PySem PySem.Spec PyProof.Rows
noncomputable abbrev Key:=Sum Int Str
noncomputable def JfP : Key → Value → Bool
 | .inl k,v=>Value.isInt k v
 | .inr x,v=>Value.isStrOf x v
noncomputable def keyH (w : World) : Key → Int
 | .inl k=>hashInt k
 | .inr x=>hashStr w x
theorem J0D : ∀ {k : Key} {v : Value},JfP k v = true → (∃ i t,k = Sum.inl i ∧ v = Value.int i t) ∨ (∃ x t,k = Sum.inr x ∧ v = Value.str x t)
 | .inl i,v,h=>by
  obtain ⟨t,e⟩:=Value.isInt_shape (k:=i) (v:=v) h
  exact .inl ⟨i,t,rfl,e⟩
 | .inr x,v,h=>by
  obtain ⟨t,e⟩:=Value.isStrOf_shape (x:=x) (v:=v) h
  exact .inr ⟨x,t,rfl,e⟩
theorem Jgr (a b : Int) : decide ((Sum.inl a : Key) = Sum.inl b) = (a == b):=by
 by_cases e : a = b
 ·subst e; simp
 ·have h : ¬ (Sum.inl a : Key) = Sum.inl b:=fun q=>e (Sum.inl.inj q)
  rw [decide_eq_false h]
  exact (beq_eq_false_iff_ne.mpr e).symm
theorem JgH (a b : Str) : decide ((Sum.inr a : Key) = Sum.inr b) = decide (a = b):=by
 by_cases e : a = b
 ·subst e; simp
 ·have h : ¬ (Sum.inr a : Key) = Sum.inr b:=fun q=>e (Sum.inr.inj q)
  rw [decide_eq_false h,decide_eq_false e]
theorem Jge (a : Int) (b : Str) : decide ((Sum.inl a : Key) = Sum.inr b) = false:=decide_eq_false (fun q=>nomatch q)
theorem Jgs (a : Str) (b : Int) : decide ((Sum.inr a : Key) = Sum.inl b) = false:=decide_eq_false (fun q=>nomatch q)
noncomputable def J9F (prog : Program) (w : World) : PySem.KeyKind prog w Key where
 is:=JfP
 hash:=keyH w
 inj:=fun v a b ha hb=>by
  rcases J0D ha with ⟨i,t,rfl,rfl⟩ | ⟨x,t,rfl,rfl⟩
  ·rcases J0D hb with ⟨j,u,rfl,e⟩ | ⟨y,u,rfl,e⟩
   ·injection e with e1 _; rw [e1]
   ·exact nomatch e
  ·rcases J0D hb with ⟨j,u,rfl,e⟩ | ⟨y,u,rfl,e⟩
   ·exact nomatch e
   ·injection e with e1 _; rw [e1]
 byValue:=fun k v h=>by
  rcases J0D h with ⟨i,t,rfl,rfl⟩ | ⟨x,t,rfl,rfl⟩ <;> rfl
 pyHash:=fun hv h=>by
  rcases J0D hv with ⟨i,t,rfl,rfl⟩ | ⟨x,t,rfl,rfl⟩
  ·exact wpAny_pyHash_int h
  ·exact wpAny_pyHash_str h
 eqBool:=fun hu hv h=>by
  rcases J0D hu with ⟨i,t,rfl,rfl⟩ | ⟨x,t,rfl,rfl⟩
  ·rcases J0D hv with ⟨j,u,rfl,rfl⟩ | ⟨y,u,rfl,rfl⟩
   ·rw [Jgr] at h; exact wpAny_eqBool_int h
   ·rw [Jge] at h; exact SeqAt.EqAt.int_str i t y u _ _ _ _ h
  ·rcases J0D hv with ⟨j,u,rfl,rfl⟩ | ⟨y,u,rfl,rfl⟩
   ·rw [Jgs] at h; exact SeqAt.EqAt.str_int x t j u _ _ _ _ h
   ·rw [JgH] at h; exact wpAny_eqBool_str h
 «strs»:=fun k x t v h=>by
  rcases J0D h with ⟨i,u,rfl,e⟩ | ⟨y,u,rfl,e⟩
  ·exact nomatch e
  ·injection e with e1 _
   subst e1
   cases v <;> rfl
end L2
namespace L2
open PySem PySem.Spec PyProof.Rows
inductive V where
 | non | bl (b : Bool) | int (i : Int) | str (x : Str) | byt (b : Array UInt8) | flt (b : UInt64) | ref (a : Addr) | ty (n : String)
 deriving DecidableEq
noncomputable def RelV : V → Value → Prop
 | .non,u=>u = Value.none
 | .bl b,u=>u = Value.bool b
 | .int i,u=>∃ t,u = Value.int i t
 | .str x,u=>∃ t,u = Value.str x t
 | .byt b,u=>∃ t,u = Value.bytes b t
 | .flt b,u=>∃ t,u = Value.float b t
 | .ref a,u=>u = Value.ref a
 | .ty n,u=>u = Value.type n
noncomputable abbrev Vals : List V → List Value → Prop:=Paired RelV
theorem Vals.length {xs : List V} {us : List Value} (r : Vals xs us) : xs.length = us.length:=Paired.length r
theorem Vals.get : ∀ {xs : List V} {us : List Value} {i : Nat} {x : V},Vals xs us → xs[i]? = some x → ∃ u,us[i]? = some u ∧ RelV x u
 | _,_,_,_,.nil,e=>by simp at e
 | _,_,0,_,.cons r _,e=>by simp at e; subst e; exact ⟨_,rfl,r⟩
 | _,_,i + 1,x,.cons _ t,e=>by
  obtain ⟨u,h1,h2⟩:=Vals.get (i:=i) (x:=x) t (by simpa using e)
  exact ⟨u,by simpa using h1,h2⟩
theorem Vals.append : ∀ {xs ys : List V} {us ws : List Value},Vals xs us → Vals ys ws → Vals (xs ++ ys) (us ++ ws)
 | _,_,_,_,.nil,s=>s
 | _,_,_,_,.cons r t,s=>.cons r (Vals.append t s)
theorem Vals.take : ∀ {xs : List V} {us : List Value} (n : Nat),Vals xs us → Vals (xs.take n) (us.take n)
 | _,_,0,_=>.nil
 | _,_,_ + 1,.nil=>.nil
 | _,_,n + 1,.cons r t=>.cons r (Vals.take n t)
theorem Vals.drop : ∀ {xs : List V} {us : List Value} (n : Nat),Vals xs us → Vals (xs.drop n) (us.drop n)
 | _,_,0,r=>r
 | _,_,_ + 1,.nil=>.nil
 | _,_,n + 1,.cons _ t=>Vals.drop n t
noncomputable def RelO : Option V → Option Value → Prop
 | some v,some u=>RelV v u
 | none,none=>True
 | _,_=>False
noncomputable def KV {κ : Type} : List (κ × V) → List (κ × Value) → Prop:=Paired fun (p : κ × V) (q : κ × Value)=>p.1 = q.1 ∧ RelV p.2 q.2
noncomputable def kV : Key → V
 | .inl i=>.int i
 | .inr x=>.str x
inductive HO where
 | lst (xs : List V)
 | tup (xs : List V)
 | dK (kvs : List (Key × V)) | dT (kvs : List (List Key × V))
 | set (S : Int → Bool) (n : Nat)
 | ins (C dx : Addr) (fs : List (Str × V))
 | own (x : Addr)
 | xd (fs : List (Str × V))
 | met (f x : Addr)
 | rng (lo hi : Int)
 | frz (o : Obj) (u : HO)
 | tbl (ps : Array Value)
 | ext (φ : Heap → Prop)
noncomputable abbrev Hp:=Addr → Option HO
noncomputable def upd (H : Hp) (a : Addr) (o : HO) : Hp:=fun b=>if b = a then some o else H b
theorem Je {H : Hp} {a : Addr} {o : HO} : upd H a o a = some o:=by unfold upd; rw [if_pos rfl]
theorem Jj {H : Hp} {a b : Addr} {o : HO} (h : b ≠ a) : upd H a o b = H b:=by unfold upd; rw [if_neg h]
theorem Jh6 {H : Hp} {a b : Addr} {o u : HO} (h : H a = some o) (h' : H b = some u) (d : o ≠ u) : a ≠ b:=by
 intro e; subst e; rw [h] at h'; exact d (Option.some.inj h')
theorem Jc {H : Hp} {a b : Addr} {o : HO} (h : H a = some o) (h' : H b = none) : a ≠ b:=by
 intro e; subst e; rw [h] at h'; cases h'
section
variable (P : Program) (w : World)
noncomputable def J2t (H : Hp) (h : Heap) (a : Addr) : HO → Prop
 | .lst xs=>xs.length ≤ sizeLine ∧ ∃ (its : List Value) (n : Nat),Vals xs its ∧ h.get? a = some { cls:=.type "list",data:=.seq its.toArray n }
 | .tup xs=>xs.length ≤ sizeLine ∧ ∃ its : List Value,Vals xs its ∧ IsTup h a its.toArray
 | .dK kvs=>kvs.length ≤ sizeLine ∧ (a == sysModules) = false ∧ ∃ vs,KV kvs vs ∧ h.DictOf (J9F P w) a vs
 | .dT kvs=>kvs.length ≤ sizeLine ∧ (a == sysModules) = false ∧ ∃ xs : List (List Key × Addr × Value),
   Paired (fun (p : List Key × V) (q : List Key × Addr × Value)=>p.1 = q.1 ∧ H q.2.1 = some (.tup (p.1.map kV)) ∧ RelV p.2 q.2.2) kvs xs ∧
   ∃ o es ep,h.get? a = some o ∧ o.ExactDict ∧ o.data = .dict es ep ∧ es.toList = xs.map (entryOfKey (tupleKind (J9F P w))) ∧ (xs.map (·.1)).Nodup
 | .set S n=>h.SetOf (intKind P w) a S n
 | .ins C dx fs=>H dx = some (.own a) ∧ fs.length ≤ 1000 ∧ dx ≠ a ∧ h.get? a = some (PySem.W.instObj C dx) ∧
   ∃ mA,h.Ns1 dx mA ∧ (∀ f,RelO (fs.lookup f) (mA f)) ∧ PySem.Within mA (fs.map (·.1))
 | .own _=>∃ o,h.get? a = some o
 | .xd fs=>∃ mA,h.Ns1 a mA ∧ ∀ f,RelO (fs.lookup f) (mA f)
 | .rng lo hi=>∃ t u v,h.get? a = some { cls:=.type "range",data:=.fields #[.int lo t,.int hi u,.int 1 v] }
 | .frz o u=>h.get? a = some o ∧ J2t H h a u
 | .tbl ps=>h.get? a = some { cls:=.none,data:=.fields ps }
 | .met f x=>h.get? a = some (PySem.W.methodObj (.ref f) (.ref x))
 | .ext φ=>φ h ∧ (∃ o,h.get? a = some o) ∧ ∀ h1 h2 : Heap,φ h1 → (∀ o,h1.get? a = some o → h2.get? a = some o) → φ h2
noncomputable def HOk (H : Hp) (h : Heap) : Prop:=∀ a o,H a = some o → J2t P w H h a o
end
section
variable {P : Program} {w : World} {H H' : Hp} {h h' : Heap} {a : Addr} {o : HO}
theorem J2t.lt (x : J2t P w H h a o) : a < h.objs.size:=by
 cases o with
 | lst xs=>obtain ⟨_,_,_,_,e⟩:=x; exact Heap.lt_size e
 | tup xs=>obtain ⟨_,_,_,p⟩:=x; exact p.lt
 | dK kvs=>obtain ⟨_,_,_,_,o,_,_,e,_⟩:=x; exact Heap.lt_size e
 | dT kvs=>obtain ⟨_,_,_,_,o,_,_,e,_⟩:=x; exact Heap.lt_size e
 | set S n=>obtain ⟨o,_,_,_,e,_⟩:=x; exact Heap.lt_size e
 | ins C dx fs=>obtain ⟨_,_,_,e,_⟩:=x; exact Heap.lt_size e
 | own y=>obtain ⟨_,e⟩:=x; exact Heap.lt_size e
 | xd fs=>obtain ⟨_,⟨_,_,_,e,_⟩,_⟩:=x; exact Heap.lt_size e
 | rng lo hi=>obtain ⟨_,_,_,e⟩:=x; exact Heap.lt_size e
 | frz ob u=>obtain ⟨e,_⟩:=x; exact Heap.lt_size e
 | tbl ps=>exact Heap.lt_size (show h.get? a = some _ from x)
 | met f y=>exact Heap.lt_size (show h.get? a = some _ from x)
 | ext φ=>obtain ⟨_,⟨_,e⟩,_⟩:=x; exact Heap.lt_size e
theorem Paired.mapP {α β : Type} {F G : α → β → Prop} : ∀ {l₁ : List α} {l₂ : List β},Paired F l₁ l₂ → (∀ a b,F a b → G a b) → Paired G l₁ l₂
 | _,_,.nil,_=>.nil
 | _,_,.cons r t,f=>.cons (f _ _ r) (Paired.mapP t f)
theorem J2t.stay (x : J2t P w H h a o) (k : ∀ b u,(b = a ∨ H b = some (.own a)) → h.get? b = some u → h'.get? b = some u)
  (ho : ∀ b,H b = some (.own a) → H' b = some (.own a)) (ht : ∀ b xs,H b = some (.tup xs) → H' b = some (.tup xs)) : J2t P w H' h' a o:=by
 induction o with
 | lst xs=>obtain ⟨z,its,n,r,e⟩:=x; exact ⟨z,its,n,r,k _ _ (.inl rfl) e⟩
 | tup xs=>obtain ⟨z,its,r,ob,e,c⟩:=x; exact ⟨z,its,r,ob,k _ _ (.inl rfl) e,c⟩
 | dK kvs=>obtain ⟨z,y,vs,r,ob,es,ep,e,c⟩:=x; exact ⟨z,y,vs,r,ob,es,ep,k _ _ (.inl rfl) e,c⟩
 | dT kvs =>
  obtain ⟨z,y,xs,r,ob,es,ep,e,c⟩:=x
  exact ⟨z,y,xs,Paired.mapP r fun p q z=>⟨z.1,ht _ _ z.2.1,z.2.2⟩,ob,es,ep,k _ _ (.inl rfl) e,c⟩
 | set S n=>obtain ⟨ob,es,ep,t,e,c⟩:=x; exact ⟨ob,es,ep,t,k _ _ (.inl rfl) e,c⟩
 | ins C dx fs =>
  obtain ⟨d,z,ne,e,mA,⟨od,es,ep,e2,c⟩,r⟩:=x
  exact ⟨ho _ d,z,ne,k _ _ (.inl rfl) e,mA,⟨od,es,ep,k _ _ (.inr d) e2,c⟩,r⟩
 | own y=>obtain ⟨ob,e⟩:=x; exact ⟨ob,k _ _ (.inl rfl) e⟩
 | xd fs=>obtain ⟨mA,⟨od,es,ep,e,c⟩,r⟩:=x; exact ⟨mA,⟨od,es,ep,k _ _ (.inl rfl) e,c⟩,r⟩
 | rng lo hi=>obtain ⟨t,u,v,e⟩:=x; exact ⟨t,u,v,k _ _ (.inl rfl) e⟩
 | frz ob u ih=>obtain ⟨e,q⟩:=x; exact ⟨k _ _ (.inl rfl) e,ih q⟩
 | tbl ps =>
  have e : h.get? a = some { cls:=.none,data:=.fields ps }:=x
  show h'.get? a = some { cls:=.none,data:=.fields ps }
  exact k a _ (.inl rfl) e
 | met f y =>
  have e : h.get? a = some (PySem.W.methodObj (.ref f) (.ref y)):=x
  show h'.get? a = some (PySem.W.methodObj (.ref f) (.ref y))
  exact k a _ (.inl rfl) e
 | ext φ=>obtain ⟨p,⟨o,e⟩,st⟩:=x; exact ⟨st _ _ p fun o q=>k _ _ (.inl rfl) q,⟨o,k _ _ (.inl rfl) e⟩,st⟩
theorem HOk.lt (x : HOk P w H h) (e : H a = some o) : a < h.objs.size:=(x a o e).lt
theorem HOk.fresh (x : HOk P w H h) (e : h.objs.size ≤ a) : H a = none:=by
 cases q : H a with
 | none=>rfl
 | some u=>exact absurd (Nat.lt_of_lt_of_le (x.lt q) e) (Nat.lt_irrefl _)
theorem HOk.kept (x : HOk P w H h) (k : ∀ b u,h.get? b = some u → h'.get? b = some u) : HOk P w H h':=fun a o e =>
 (x a o e).stay (fun b u _ q=>k b u q) (fun _ q=>q) fun _ _ q=>q
theorem HOk.laid (x : HOk P w H h) (k : ∀ b u,h.get? b = some u → h'.get? b = some u) (hp : h.objs.size ≤ a) (new : J2t P w (upd H a o) h' a o) : HOk P w (upd H a o) h':=fun b u e=>by
 have hn:=x.fresh hp
 by_cases hb : b = a
 ·subst hb; rw [Je] at e; cases e; exact new
 ·rw [Jj hb] at e
  exact (x b u e).stay (fun c v _ q=>k c v q) (fun c q=>by rw [Jj (Jc q hn)]; exact q) fun c xs q=>by rw [Jj (Jc q hn)]; exact q
end
noncomputable def Rd (H : Hp) (a : Addr) (u : HO) : Prop:=H a = some u ∨ ∃ o,H a = some (.frz o u)
theorem Rd.ok {P : Program} {w : World} {H : Hp} {h : Heap} {a : Addr} {u : HO} (r : Rd H a u) (x : HOk P w H h) : J2t P w H h a u:=by
 rcases r with r | ⟨o,r⟩
 ·exact x a u r
 ·obtain ⟨_,q⟩:=x a _ r
  exact q
noncomputable def Mut : Option HO → Prop
 | some (.lst _)=>True
 | some (.dK _)=>True
 | some (.dT _)=>True
 | some (.set _ _)=>True
 | some (.ins _ _ _)=>True
 | some (.ext _)=>True
 | _=>False
section
variable {P : Program} {w : World} {H : Hp} {h h' : Heap} {x e : Addr} {o' : HO}
theorem HOk.write (ok : HOk P w H h) (mu : Mut (H x)) (he : e = x ∨ H e = some (.own x)) (k : ∀ b u,b ≠ e → h.get? b = some u → h'.get? b = some u) (heo : ∃ u,h'.get? e = some u)
  (new : J2t P w (upd H x o') h' x o') : HOk P w (upd H x o') h':=fun b u q=>by
 have nown : ∀ c y,H c = some (.own y) → c ≠ x:=fun c y r z=>by subst z; rw [r] at mu; exact mu
 have ntup : ∀ c xs,H c = some (.tup xs) → c ≠ x:=fun c xs r z=>by subst z; rw [r] at mu; exact mu
 by_cases hb : b = x
 ·subst hb; rw [Je] at q; cases q; exact new
 ·rw [Jj hb] at q
  by_cases hbe : b = e
  ·have q' : H b = some (.own x):=by
    rcases he with z | z
    ·exact absurd (hbe.trans z) hb
    ·rw [hbe]; exact z
   rw [q] at q'; cases q'
   obtain ⟨v,hv⟩:=heo
   exact ⟨v,by rw [hbe]; exact hv⟩
  ·refine (ok b u q).stay (fun c v hc r=>k c v ?_ r) (fun c r=>by rw [Jj (nown c b r)]; exact r) fun c xs r=>by rw [Jj (ntup c xs r)]; exact r
   rcases hc with rfl | hc
   ·exact hbe
   ·rintro rfl
    rcases he with z | z
    ·exact nown c b hc z
    ·rw [hc] at z; cases z; exact hb rfl
end
structure Un (fs ex : List Addr) (H H' : Hp) (h h' : Heap) : Prop where
 keep : ∀ b o,h.get? b = some o → H b = none → b ∉ fs → b ∉ ex → h'.get? b = some o
 slot : ∀ b o,h.get? b = some o → H b = none → b ∈ fs → b ∉ ex → ∃ sl,h'.get? b = some { o with slots:=sl }
 free : ∀ b o,h.get? b = some o → H b = none → b ∉ ex → H' b = none
 there : ∀ b o,h.get? b = some o → b ∉ ex → ∃ o',h'.get? b = some o'
 tups : ∀ b xs,H b = some (.tup xs) → H' b = some (.tup xs)
 frzs : ∀ b o u,H b = some (.frz o u) → H' b = some (.frz o u)
 tbls : ∀ b ps,H b = some (.tbl ps) → ∃ more,H' b = some (.tbl (ps ++ more))
section
variable {fs fs' ex ex' : List Addr} {H H1 H2 : Hp} {h h1 h2 h' : Heap} {a x e : Addr} {o : HO}
theorem Un.any (u : Un fs ex H H1 h h1) {b : Addr} {ob : Obj} (q : h.get? b = some ob) (n : H b = none) (hx : b ∉ ex) : ∃ sl,h1.get? b = some { ob with slots:=sl }:=by
 by_cases hb : b ∈ fs
 ·exact u.slot b ob q n hb hx
 ·exact ⟨ob.slots,u.keep b ob q n hb hx⟩
theorem Un.kept (k : ∀ b u,h.get? b = some u → h'.get? b = some u) : Un fs ex H H h h' :=
 ⟨fun b ob q _ _ _=>k b ob q,fun b ob q _ _ _=>⟨ob.slots,k b ob q⟩,fun _ _ _ n _=>n,fun b ob q _=>⟨ob,k b ob q⟩,fun _ _ q=>q,fun _ _ _ q=>q,fun _ ps q=>⟨#[],by rw [q]; simp⟩⟩
theorem Un.refl : Un fs ex H H h h:=Un.kept fun _ _ q=>q
theorem Un.laid (k : ∀ b u,h.get? b = some u → h'.get? b = some u) (hp : h.objs.size ≤ a) (hn : H a = none) : Un fs ex H (upd H a o) h h' where
 keep:=fun b u q _ _ _=>k b u q
 slot:=fun b u q _ _ _=>⟨u.slots,k b u q⟩
 free:=fun b u q n _=>by rw [Jj (Nat.ne_of_lt (Nat.lt_of_lt_of_le (Heap.lt_size q) hp))]; exact n
 there:=fun b u q _=>⟨u,k b u q⟩
 tups:=fun b xs q=>by rw [Jj (Jc q hn)]; exact q
 frzs:=fun b u xs q=>by rw [Jj (Jc q hn)]; exact q
 tbls:=fun b ps q=>⟨#[],by rw [Jj (Jc q hn),q]; simp⟩
theorem Un.write (mu : Mut (H x)) (he : e = x ∨ H e = some (.own x)) (k : ∀ b u,b ≠ e → h.get? b = some u → h'.get? b = some u) (heo : ∃ u,h'.get? e = some u) : Un fs ex H (upd H x o) h h':=by
 have hx : ∀ b,H b = none → b ≠ x:=fun b n z=>by subst z; rw [n] at mu; exact mu
 have hb : ∀ b,H b = none → b ≠ e:=fun b n z=>by
  subst z
  rcases he with r | r
  ·exact hx b n r
  ·rw [n] at r; cases r
 have hm : ∀ b u,H b = some u → ¬ Mut (some u) → b ≠ x:=fun b u q nm z=>by subst z; rw [q] at mu; exact nm mu
 refine ⟨fun b u q n _ _=>k b u (hb b n) q,fun b u q n _ _=>⟨u.slots,k b u (hb b n) q⟩,fun b u q n _=>by rw [Jj (hx b n)]; exact n,fun b u q _=>?_,
  fun b xs q=>by rw [Jj (hm b _ q fun z=>z)]; exact q,fun b u xs q=>by rw [Jj (hm b _ q fun z=>z)]; exact q,fun b ps q=>⟨#[],by rw [Jj (hm b _ q fun z=>z),q]; simp⟩⟩
 by_cases hbe : b = e
 ·subst hbe; exact heo
 ·exact ⟨u,k b u hbe q⟩
end
noncomputable def trk (h : Heap) (H : Hp) : List Addr:=(List.range h.objs.size).filter fun a=>(H a).isSome
noncomputable def hidT (h : Heap) (H : Hp) : Heap:=PySem.W.hideAll h (trk h H)
theorem JcO (h : Heap) (H : Hp) : (hidT h H).objs.size = h.objs.size:=PySem.W.hideAll_size _ _
theorem JeC {h : Heap} {H : Hp} {b : Addr} {o : Obj} (e : h.get? b = some o) (n : H b = none) : (hidT h H).get? b = some o :=
 PySem.W.hideAll_get _ e fun hm=>by
  have q : (H b).isSome = true:=(List.mem_filter.mp hm).2
  rw [n] at q; simp at q
theorem Jfh {h : Heap} {H : Hp} {b : Addr} {o : Obj} (e : (hidT h H).get? b = some o) : h.get? b = some o ∧ H b = none:=by
 have e' : h.get? b = some o:=PySem.W.of_hideAll (trk h H) e
 refine ⟨e',?_⟩
 cases q : H b with
 | none=>rfl
 | some x =>
  have hm : b ∈ trk h H:=List.mem_filter.mpr ⟨List.mem_range.mpr (Heap.lt_size e'),by simp [q]⟩
  have z : (hidT h H).get? b = none:=PySem.W.hideAll_none (trk h H) hm
  rw [z] at e; cases e
end L2
namespace L2
open PySem PySem.Spec PyProof.Rows
structure Mod (K : PySem.W.Frag) (mg : Str → Option Value) (base : Heap) : Prop where
 kin : K.In base
 glob : base.Ns mainGlobals mg
 blt : ∃ mb,base.Ns builtinsNs mb ∧ ∀ x : Str,x ≠ "__name__" → mb x = bootBuiltins x
 nolimit : base.NoLimit
structure Cx where
 prog : Program
 w : World
 K : PySem.W.Frag
 mg : Str → Option Value
 base : Heap
 A : Around
 N : List Str
 s₀ : Shared
 H₀ : Hp
 env : Env
 outer : List Env
 stack : List Env
 ex : List Addr
 fn : Str → Bool
 calm : Bool
 pn : List (Addr × Obj)
 xe : Value → Shared → Prop
noncomputable def frs (l : List Env) : List Addr:=l.filterMap (·.frame)
noncomputable abbrev Cx.fs (X : Cx) : List Addr:=frs X.outer
noncomputable def Vis (sc : Scope) (x : Str) : Prop:=sc.names.lookup x = some .local ∨ sc.names.lookup x = some .cell ∨ sc.names.lookup x = some .free
noncomputable def Loc (sc : Scope) (x : Str) : Prop:=sc.names.lookup x = some .local ∨ sc.names.lookup x = some .cell
noncomputable def Look (env : Env) (h : Heap) (m : Str → Option Value) (x : Str) (u : Value) : Prop :=
 (env.kindOf x = some .local ∧ m x = some u) ∨ ((env.kindOf x = some .cell ∨ env.kindOf x = some .free) ∧ ∃ c,env.cells.lookup x = some c ∧ h.IsCell c (some u))
structure Cx.Ok (X : Cx) : Prop where
 mod : Mod X.K X.mg X.base
 kind : X.env.scope.kind = .function
 glob : X.env.globals = mainGlobals
 blt : X.env.builtins = builtinsNs
 above : X.s₀.heap.objs.size ≤ X.env.locals
 inj : ∀ x y c,X.env.cells.lookup x = some c → X.env.cells.lookup y = some c → x = y
 has : ∀ x,(X.env.kindOf x = some .cell ∨ X.env.kindOf x = some .free) → ∃ c,X.env.cells.lookup x = some c
 cab : ∀ x c,X.fn x = true → X.env.cells.lookup x = some c → X.s₀.heap.objs.size ≤ c
 hd : X.calm = true → X.A.handled = none
 frames : X.A.frames = some X.stack
 stk : X.stack = X.outer ∨ (X.stack = X.env :: X.outer ∧ X.env.frame = some X.env.locals)
 exf : ∀ b ∈ X.ex,b ≠ X.env.locals ∧ ∀ x c,X.env.cells.lookup x = some c → c ≠ b
 bs : ∀ b o,X.base.get? b = some o → X.s₀.heap.get? b = some o ∧ X.H₀ b = none
 bsz : X.base.objs.size ≤ X.s₀.heap.objs.size
 noex : ∀ b o,X.base.get? b = some o → b ∉ X.ex
 exfs : ∀ b ∈ X.ex,b ∉ X.fs
 funs : X.s₀.heap.FunFrames X.base X.outer
 frf : ∀ b ∈ X.fs,X.H₀ b = none
structure Inv (X : Cx) (pins : List (Addr × Obj)) (σ : List (Option V)) (H : Hp) (s : Shared) : Prop where
 ok : X.Ok
 os : s.os = X.s₀.os
 bare : AllBare s.gens
 base : Un X.fs X.ex X.H₀ H X.s₀.heap s.heap
 loc : ∃ m,s.heap.Ns X.env.locals m ∧ ∀ (i : Nat) (x : Str) (v : V),X.N[i]? = some x → σ[i]? = some (some v) → Vis X.env.scope x → ∃ u,RelV v u ∧ Look X.env s.heap m x u
 cell : ∀ x c,X.env.cells.lookup x = some c → ∃ v,s.heap.IsCell c v
 free : H X.env.locals = none
 freeC : ∀ x c,X.env.cells.lookup x = some c → H c = none
 pin : ∀ p ∈ X.pn ++ pins,s.heap.get? p.1 = some p.2 ∧ H p.1 = none ∧ p.1 ≠ X.env.locals ∧ p.1 ∉ X.fs ∧ ∀ v,p.2.data ≠ .cell v
 hok : HOk X.prog X.w H s.heap
 len : σ.length = X.N.length
section
variable {X : Cx} {pins : List (Addr × Obj)} {σ : List (Option V)} {H H' : Hp} {s : Shared} {h' : Heap}
theorem Cx.Ok.nofr (ok : X.Ok) {b : Addr} {o : Obj} (e : X.base.get? b = some o) : b ∉ X.fs:=fun hb=>by
 have:=(ok.funs.mem hb).1
 rw [e] at this; cases this
theorem Inv.bs (I : Inv X pins σ H s) : ∀ b o,X.base.get? b = some o → s.heap.get? b = some o ∧ H b = none:=fun b o e =>
 ⟨I.base.keep b o (I.ok.bs b o e).1 (I.ok.bs b o e).2 (I.ok.nofr e) (I.ok.noex b o e),I.base.free b o (I.ok.bs b o e).1 (I.ok.bs b o e).2 (I.ok.noex b o e)⟩
theorem Inv.bk (I : Inv X pins σ H s) : ∀ b o,X.base.get? b = some o → s.heap.get? b = some o:=fun b o e=>(I.bs b o e).1
theorem Inv.mod (I : Inv X pins σ H s) : Mod X.K X.mg X.base:=I.ok.mod
theorem Inv.kIn (I : Inv X pins σ H s) : X.K.In s.heap:=I.ok.mod.kin.keeps I.bk
theorem Inv.lt (I : Inv X pins σ H s) : X.env.locals < s.heap.objs.size:=let ⟨_,hn,_⟩:=I.loc; hn.lt
theorem Inv.sz (I : Inv X pins σ H s) : X.s₀.heap.objs.size ≤ s.heap.objs.size:=Nat.le_trans I.ok.above (Nat.le_of_lt I.lt)
theorem Inv.nofs (I : Inv X pins σ H s) {a : Addr} (h : s.heap.objs.size ≤ a) : a ∉ X.fs:=fun hb=>by
 obtain ⟨_,o,ho,_⟩:=I.ok.funs.mem hb
 exact absurd (Nat.lt_of_lt_of_le (Heap.lt_size ho) (Nat.le_trans I.sz h)) (Nat.lt_irrefl _)
theorem Inv.cne (I : Inv X pins σ H s) : ∀ x c,X.env.cells.lookup x = some c → c ≠ X.env.locals:=fun x c e z=>by
 obtain ⟨v,o,ho,hd⟩:=I.cell x c e
 obtain ⟨m,⟨o',es,ep,ho',hd',_⟩,_⟩:=I.loc
 rw [z,ho'] at ho; cases ho; rw [hd'] at hd; cases hd
theorem Inv.funs (I : Inv X pins σ H s) : s.heap.FunFrames X.base X.outer:=by
 have all : ∀ (l : List Env),(∀ b ∈ frs l,b ∈ X.fs) → X.s₀.heap.FunFrames X.base l → s.heap.FunFrames X.base l:=by
  intro l
  induction l with
  | nil=>intro _ _; trivial
  | cons env r ih =>
   intro hs hl
   obtain ⟨hk,⟨L,o,hf,hn,ho,hd⟩,hr⟩:=hl
   have hL : L ∈ X.fs:=hs L (by unfold frs; rw [List.filterMap_cons,hf]; exact List.mem_cons_self)
   obtain ⟨sl,e⟩:=I.base.slot L o ho (I.ok.frf L hL) hL fun z=>I.ok.exfs L z hL
   exact ⟨hk,⟨L,_,hf,hn,e,hd⟩,ih (fun b hb=>hs b (by unfold frs; rw [List.filterMap_cons,hf]; exact List.mem_cons_of_mem _ hb)) hr⟩
 exact all X.outer (fun _ hb=>hb) I.ok.funs
theorem Inv.stack (I : Inv X pins σ H s) : s.heap.FunFrames X.base X.stack:=by
 rcases I.ok.stk with e | ⟨e,hf⟩
 ·rw [e]; exact I.funs
 ·rw [e]
  obtain ⟨m,hn,_⟩:=I.loc
  refine .cons (by rw [I.ok.kind]; decide) hf hn ?_ I.funs
  exact Heap.get?_none_of_le (Nat.le_trans I.ok.bsz I.ok.above)
theorem Inv.stkSub (I : Inv X pins σ H s) : ∀ b ∈ frs X.stack,b ∈ X.env.locals :: X.fs:=fun b hb=>by
 rcases I.ok.stk with e | ⟨e,hf⟩
 ·rw [e] at hb; exact List.mem_cons_of_mem _ hb
 ·rw [e] at hb
  unfold frs at hb
  rw [List.filterMap_cons,hf] at hb
  exact hb
theorem Inv.stkFree (I : Inv X pins σ H s) : ∀ b ∈ frs X.stack,H b = none:=fun b hb=>by
 rcases List.mem_cons.mp (I.stkSub b hb) with e | hb
 ·rw [e]; exact I.free
 ·obtain ⟨_,o,ho,_⟩:=I.ok.funs.mem hb
  exact I.base.free b o ho (I.ok.frf b hb) fun z=>I.ok.exfs b z hb
theorem Inv.step {g' : Array GenState} {t' : Nat} {d' : Drawn} {ch : List Addr} (I : Inv X pins σ H s)
  (hch : ∀ b ∈ ch,(b ∈ X.ex ∨ X.s₀.heap.objs.size ≤ b) ∧ b ≠ X.env.locals ∧ (∀ x c,X.env.cells.lookup x = some c → c ≠ b) ∧ ∀ p ∈ X.pn ++ pins,p.1 ≠ b)
  (keep : ∀ b o,b ≠ X.env.locals → b ∉ X.fs → b ∉ ch → s.heap.get? b = some o → H b = none → h'.get? b = some o)
  (slot : ∀ b o,b ≠ X.env.locals → b ∈ X.fs → b ∉ ch → s.heap.get? b = some o → H b = none → ∃ sl,h'.get? b = some { o with slots:=sl }) (free : ∀ b o,b ∉ ch → s.heap.get? b = some o → H b = none → H' b = none)
  (there : ∀ b o,b ∉ ch → s.heap.get? b = some o → ∃ o',h'.get? b = some o')
  (tups : ∀ b xs,H b = some (.tup xs) → H' b = some (.tup xs)) (frzs : ∀ b o u,H b = some (.frz o u) → H' b = some (.frz o u)) (tbls : ∀ b ps,H b = some (.tbl ps) → ∃ more,H' b = some (.tbl (ps ++ more)))
  (ns : ∀ m,s.heap.Ns X.env.locals m → h'.Ns X.env.locals m) (hok : HOk X.prog X.w H' h') (hg : AllBare g') :
  Inv X pins σ H' { s with heap:=h',gens:=g',drawn:=d',toks:=t' }:=by
 have neL : ∀ b o,X.s₀.heap.get? b = some o → b ≠ X.env.locals:=fun b o e=>Nat.ne_of_lt (Nat.lt_of_lt_of_le (Heap.lt_size e) I.ok.above)
 have neC : ∀ b o,X.s₀.heap.get? b = some o → b ∉ X.ex → b ∉ ch:=fun b o e hx hb=>by
  rcases (hch b hb).1 with z | z
  ·exact hx z
  ·exact absurd (Nat.lt_of_lt_of_le (Heap.lt_size e) z) (Nat.lt_irrefl _)
 have cellK : ∀ x c,X.env.cells.lookup x = some c → ∀ v,s.heap.IsCell c v → h'.IsCell c v:=fun x c e v ⟨o,ho,hd⟩=>by
  have nch : c ∉ ch:=fun z=>(hch c z).2.2.1 x c e rfl
  by_cases hc : c ∈ X.fs
  ·obtain ⟨sl,q⟩:=slot c o (I.cne x c e) hc nch ho (I.freeC x c e)
   exact ⟨_,q,hd⟩
  ·exact ⟨o,keep c o (I.cne x c e) hc nch ho (I.freeC x c e),hd⟩
 refine ⟨I.ok,I.os,hg,⟨fun b o e n hb hx=>?_,fun b o e n hb hx=>?_,fun b o e n hx=>?_,fun b o e hx=>?_,fun b xs e=>tups b xs (I.base.tups b xs e),fun b o xs e=>frzs b o xs (I.base.frzs b o xs e),fun b ps e=>?_⟩,?_,fun x c e=>?_,?_,fun x c e=>?_,fun p hp=>?_,hok,I.len⟩
 ·exact keep b o (neL b o e) hb (neC b o e hx) (I.base.keep b o e n hb hx) (I.base.free b o e n hx)
 ·obtain ⟨sl,e1⟩:=I.base.slot b o e n hb hx
  obtain ⟨sl',e2⟩:=slot b _ (neL b o e) hb (neC b o e hx) e1 (I.base.free b o e n hx)
  exact ⟨sl',e2⟩
 ·obtain ⟨o',e1⟩:=I.base.there b o e hx
  exact free b o' (neC b o e hx) e1 (I.base.free b o e n hx)
 ·obtain ⟨o',e1⟩:=I.base.there b o e hx
  exact there b o' (neC b o e hx) e1
 ·obtain ⟨m1,e1⟩:=I.base.tbls b ps e
  obtain ⟨m2,e2⟩:=tbls b _ e1
  exact ⟨m1 ++ m2,by rw [e2,Array.append_assoc]⟩
 ·obtain ⟨m,hn,hl⟩:=I.loc
  refine ⟨m,ns m hn,fun i x v e1 e2 e3=>?_⟩
  obtain ⟨u,r,l⟩:=hl i x v e1 e2 e3
  refine ⟨u,r,?_⟩
  rcases l with l | ⟨k,c,e,z⟩
  ·exact .inl l
  ·exact .inr ⟨k,c,e,cellK x c e _ z⟩
 ·obtain ⟨v,z⟩:=I.cell x c e
  exact ⟨v,cellK x c e v z⟩
 ·obtain ⟨m,⟨o,_,_,ho,_⟩,_⟩:=I.loc
  exact free _ o (fun z=>(hch _ z).2.1 rfl) ho I.free
 ·obtain ⟨v,o,ho,hd⟩:=I.cell x c e
  exact free c o (fun z=>(hch c z).2.2.1 x c e rfl) ho (I.freeC x c e)
 ·obtain ⟨e,n,ne,nf,d⟩:=I.pin p hp
  have nch : p.1 ∉ ch:=fun z=>(hch p.1 z).2.2.2 p hp rfl
  exact ⟨keep p.1 p.2 ne nf nch e n,free p.1 p.2 nch e n,ne,nf,d⟩
theorem Inv.un {t' : Nat} (I : Inv X pins σ H s) (u : Un X.fs [] H H' s.heap h') (hok : HOk X.prog X.w H' h') : Inv X pins σ H' { s with heap:=h',toks:=t' }:=by
 obtain ⟨m,⟨o,es,ep,ho,r⟩,_⟩:=id I.loc
 obtain ⟨sl,hL⟩:=u.any ho I.free (by simp)
 exact I.step (g':=s.gens) (d':=s.drawn) (ch:=[]) (fun _ z=>nomatch z) (fun b o _ hb _ e n=>u.keep b o e n hb (by simp)) (fun b o _ hb _ e n=>u.slot b o e n hb (by simp)) (fun b o _ e n=>u.free b o e n (by simp)) (fun b o _ e=>u.there b o e (by simp)) u.tups u.frzs u.tbls (fun m' hm=>by
  obtain ⟨o',es',ep',ho',r'⟩:=hm
  rw [ho] at ho'; cases ho'
  exact ⟨_,es',ep',hL,r'⟩) hok I.bare
theorem Inv.call {g' : Array GenState} {t' : Nat} {d' : Drawn} {ch : List Addr} (I : Inv X pins σ H s) (u : Un (frs X.stack) ch H H' s.heap h') (hok : HOk X.prog X.w H' h') (hg : AllBare g')
  (hch : ∀ b ∈ ch,(b ∈ X.ex ∨ X.s₀.heap.objs.size ≤ b) ∧ b ≠ X.env.locals ∧ (∀ x c,X.env.cells.lookup x = some c → c ≠ b) ∧ ∀ p ∈ X.pn ++ pins,p.1 ≠ b) :
  Inv X pins σ H' { s with heap:=h',gens:=g',drawn:=d',toks:=t' }:=by
 obtain ⟨m,⟨o,es,ep,ho,r⟩,_⟩:=id I.loc
 obtain ⟨sl,hL⟩:=u.any ho I.free fun z=>(hch _ z).2.1 rfl
 exact I.step (ch:=ch) hch (fun b o hL hb hc e n=>u.keep b o e n (fun z=>(List.mem_cons.mp (I.stkSub b z)).elim hL hb) hc) (fun b o _ _ hc e n=>u.any e n hc) (fun b o hc e n=>u.free b o e n hc) (fun b o hc e=>u.there b o e hc) u.tups u.frzs u.tbls (fun m' hm=>by
  obtain ⟨o',es',ep',ho',r'⟩:=hm
  rw [ho] at ho'; cases ho'
  exact ⟨_,es',ep',hL,r'⟩) hok hg
theorem Inv.turned {t' : Nat} {it : Addr} (I : Inv X pins σ H s) (k : ∀ b o,b ≠ it → s.heap.get? b = some o → h'.get? b = some o) (hn : H it = none) (hL : it ≠ X.env.locals)
  (h1 : it ∈ X.ex ∨ X.s₀.heap.objs.size ≤ it) (h2 : ∀ x c,X.env.cells.lookup x = some c → c ≠ it) (h3 : ∀ p ∈ X.pn ++ pins,p.1 ≠ it) : Inv X pins σ H { s with heap:=h',toks:=t' }:=by
 have nit : ∀ b u,H b = some u → b ≠ it:=fun b u e z=>by rw [z,hn] at e; cases e
 refine I.step (g':=s.gens) (d':=s.drawn) (ch:=[it]) (fun b hb=>?_) (fun b o _ _ hc e _=>k b o (fun z=>hc (by simp [z])) e) (fun b o _ _ hc e _=>⟨o.slots,k b o (fun z=>hc (by simp [z])) e⟩) (fun _ _ _ _ n=>n)
  (fun b o hc e=>⟨o,k b o (fun z=>hc (by simp [z])) e⟩) (fun _ _ e=>e) (fun _ _ _ e=>e) (fun b ps e=>⟨#[],by rw [e]; simp⟩) (fun m hm=>?_) (fun b u e=>?_) I.bare
 ·have e : b = it:=by simpa using hb
  subst e
  exact ⟨h1,hL,h2,h3⟩
 ·obtain ⟨o,es,ep,ho,r⟩:=hm
  exact ⟨o,es,ep,k _ o (Ne.symm hL) ho,r⟩
 ·refine (I.hok b u e).stay (fun c v hc q=>k c v ?_ q) (fun _ q=>q) fun _ _ q=>q
  rcases hc with z | z
  ·rw [z]; exact nit b u e
  ·exact nit c _ z
theorem Inv.tok (I : Inv X pins σ H s) (t : Nat) : Inv X pins σ H { s with toks:=t }:=I.un (h':=s.heap) (t':=t) Un.refl I.hok
theorem Inv.kept {t' : Nat} (I : Inv X pins σ H s) (k : ∀ b u,s.heap.get? b = some u → h'.get? b = some u) : Inv X pins σ H { s with heap:=h',toks:=t' }:=I.un (Un.kept k) (I.hok.kept k)
theorem Inv.laid {a : Addr} {o : HO} {t' : Nat} (I : Inv X pins σ H s) (k : ∀ b u,s.heap.get? b = some u → h'.get? b = some u) (hp : s.heap.objs.size ≤ a) (new : J2t X.prog X.w (upd H a o) h' a o) :
  Inv X pins σ (upd H a o) { s with heap:=h',toks:=t' }:=I.un (Un.laid k hp (I.hok.fresh hp)) (I.hok.laid k hp new)
theorem Inv.write {x e : Addr} {o : HO} {t' : Nat} (I : Inv X pins σ H s) (mu : Mut (H x)) (he : e = x ∨ H e = some (.own x)) (k : ∀ b u,b ≠ e → s.heap.get? b = some u → h'.get? b = some u) (heo : ∃ u,h'.get? e = some u)
  (new : J2t X.prog X.w (upd H x o) h' x o) : Inv X pins σ (upd H x o) { s with heap:=h',toks:=t' }:=I.un (Un.write mu he k heo) (I.hok.write mu he k heo new)
theorem Inv.pins_of {pins' : List (Addr × Obj)} (I : Inv X pins σ H s) (h : ∀ p ∈ pins',s.heap.get? p.1 = some p.2 ∧ H p.1 = none ∧ p.1 ≠ X.env.locals ∧ p.1 ∉ X.fs ∧ ∀ v,p.2.data ≠ .cell v) : Inv X pins' σ H s :=
 ⟨I.ok,I.os,I.bare,I.base,I.loc,I.cell,I.free,I.freeC,fun p hp=>(List.mem_append.mp hp).elim (fun z=>I.pin p (List.mem_append_left _ z)) (h p),I.hok,I.len⟩
theorem JaQ {N : List Str} (hN : N.Nodup) {i j : Nat} {x : Str} (a : N[i]? = some x) (b : N[j]? = some x) : i = j:=by
 obtain ⟨h1,e1⟩:=List.getElem?_eq_some_iff.mp a
 obtain ⟨h2,e2⟩:=List.getElem?_eq_some_iff.mp b
 exact (List.getElem_inj hN).mp (e1.trans e2.symm)
theorem JcF {M : Model} {A : Around} {E : Value → Shared → Prop} {i : Nat} {x : Str} {v : V} {u : Value} {Q : Unit → Shared → Prop} (I : Inv X pins σ H s) (hN : X.N.Nodup) (hi : X.N[i]? = some x) (hx : Loc X.env.scope x) (r : RelV v u)
  (h : ∀ s',Inv X pins (σ.set i (some v)) H s' → (∃ a,Heap.SameBut a s.heap s'.heap ∧ (a = X.env.locals ∨ X.env.cells.lookup x = some a)) → Q () s') (hf : X.fn x = true ∨ X.env.scope.names.lookup x = some .local:=by first | exact .inl rfl | exact .inr rfl | assumption) : wpAny M A (storeName X.env x u) Q E s:=by
 obtain ⟨m,hn,hl⟩:=id I.loc
 have hcls : (X.env.scope.kind == .class || (X.env.scope.kind == .module && X.env.locals != X.env.globals)) = false:=by rw [I.ok.kind]; rfl
 have hiσ : i < σ.length:=by rw [I.len]; exact (List.getElem?_eq_some_iff.mp hi).1
 have cne:=I.cne
 have tracked : ∀ {a : Addr} {h' : Heap},(∃ o,s.heap.get? a = some o ∧ H a = none) → Heap.SameBut a s.heap h' → HOk X.prog X.w H h':=fun {a h'} ha hs b ob e=>by
  obtain ⟨_,_,hfree⟩:=ha
  refine (I.hok b ob e).stay (fun c w' hc q=>(hs.2 c ?_).trans q) (fun _ q=>q) fun _ _ q=>q
  rintro rfl
  rcases hc with rfl | hc
  ·rw [hfree] at e; cases e
  ·rw [hfree] at hc; cases hc
 rcases hx with hk | hk
 ·refine wpAny_storeName_local hk hn (fun h' hn' hs=>?_) hcls
  obtain ⟨oL,_,_,hoL,_⟩:=id hn
  refine h _ ⟨I.ok,I.os,I.bare,⟨fun b o e n hb hx=>?_,fun b o e n hb hx=>?_,I.base.free,fun b o e hx=>?_,I.base.tups,I.base.frzs,I.base.tbls⟩,⟨_,hn',fun j y v' e1 e2 e3=>?_⟩,fun y c e=>?_,I.free,I.freeC,fun p hp=>?_,tracked ⟨oL,hoL,I.free⟩ hs,by simpa using I.len⟩ ⟨_,hs,.inl rfl⟩
  ·exact (hs.2 b (Nat.ne_of_lt (Nat.lt_of_lt_of_le (Heap.lt_size e) I.ok.above))).trans (I.base.keep b o e n hb hx)
  ·obtain ⟨sl,e1⟩:=I.base.slot b o e n hb hx
   exact ⟨sl,(hs.2 b (Nat.ne_of_lt (Nat.lt_of_lt_of_le (Heap.lt_size e) I.ok.above))).trans e1⟩
  ·obtain ⟨o',e1⟩:=I.base.there b o e hx
   exact ⟨o',(hs.2 b (Nat.ne_of_lt (Nat.lt_of_lt_of_le (Heap.lt_size e) I.ok.above))).trans e1⟩
  ·by_cases hj : j = i
   ·subst hj
    rw [hi] at e1; cases e1
    rw [List.getElem?_set_self hiσ] at e2
    cases e2
    exact ⟨u,r,.inl ⟨hk,by simp⟩⟩
   ·rw [List.getElem?_set_ne (Ne.symm hj)] at e2
    obtain ⟨u',r',q⟩:=hl j y v' e1 e2 e3
    refine ⟨u',r',?_⟩
    rcases q with ⟨k,e⟩ | ⟨k,c,e,z⟩
    ·refine .inl ⟨k,?_⟩
     have : y ≠ x:=fun e=>hj (JaQ hN e1 (e ▸ hi))
     simp [this,e]
    ·exact .inr ⟨k,c,e,z.sameBut hs (cne y c e)⟩
  ·obtain ⟨w',z⟩:=I.cell y c e
   exact ⟨w',z.sameBut hs (cne y c e)⟩
  ·obtain ⟨e,n,ne,nf,d⟩:=I.pin p hp
   exact ⟨(hs.2 p.1 ne).trans e,n,ne,nf,d⟩
 ·have hfn : X.fn x = true:=by
   rcases hf with z | z
   ·exact z
   ·rw [z] at hk; cases hk
  obtain ⟨c,hc⟩:=I.ok.has x (.inl hk)
  obtain ⟨w',z⟩:=I.cell x c hc
  refine wpAny_storeName_cell I.ok.kind hk hc z (fun h' hc' hs=>?_)
  obtain ⟨oc,hoc,hocd⟩:=id z
  refine h { s with heap:=h' } ⟨I.ok,I.os,I.bare,⟨fun b o e n hb hx=>?_,fun b o e n hb hx=>?_,I.base.free,fun b o e hx=>?_,I.base.tups,I.base.frzs,I.base.tbls⟩,⟨m,hn.sameBut hs (Ne.symm (cne x c hc)),fun j y v' e1 e2 e3=>?_⟩,fun y c' e=>?_,I.free,I.freeC,fun p hp=>?_,tracked ⟨oc,hoc,I.freeC x c hc⟩ hs,by simpa using I.len⟩ ⟨c,hs,.inr hc⟩
  ·exact (hs.2 b (Nat.ne_of_lt (Nat.lt_of_lt_of_le (Heap.lt_size e) (I.ok.cab x c hfn hc)))).trans (I.base.keep b o e n hb hx)
  ·obtain ⟨sl,e1⟩:=I.base.slot b o e n hb hx
   exact ⟨sl,(hs.2 b (Nat.ne_of_lt (Nat.lt_of_lt_of_le (Heap.lt_size e) (I.ok.cab x c hfn hc)))).trans e1⟩
  ·obtain ⟨o',e1⟩:=I.base.there b o e hx
   exact ⟨o',(hs.2 b (Nat.ne_of_lt (Nat.lt_of_lt_of_le (Heap.lt_size e) (I.ok.cab x c hfn hc)))).trans e1⟩
  ·by_cases hj : j = i
   ·subst hj
    rw [hi] at e1; cases e1
    rw [List.getElem?_set_self hiσ] at e2
    cases e2
    exact ⟨u,r,.inr ⟨.inl hk,c,hc,hc'⟩⟩
   ·rw [List.getElem?_set_ne (Ne.symm hj)] at e2
    obtain ⟨u',r',q⟩:=hl j y v' e1 e2 e3
    refine ⟨u',r',?_⟩
    rcases q with q | ⟨k,c',e,z'⟩
    ·exact .inl q
    ·refine .inr ⟨k,c',e,z'.sameBut hs ?_⟩
     rintro rfl
     exact hj (JaQ hN e1 (I.ok.inj _ _ _ e hc ▸ hi))
  ·by_cases hcc : c' = c
   ·subst hcc; exact ⟨_,hc'⟩
   ·obtain ⟨w2,z2⟩:=I.cell y c' e
    exact ⟨w2,z2.sameBut hs hcc⟩
  ·obtain ⟨e,n,ne,nf,d⟩:=I.pin p hp
   refine ⟨(hs.2 p.1 ?_).trans e,n,ne,nf,d⟩
   intro q
   rw [q,hoc] at e
   have q' : oc = p.2:=Option.some.inj e
   exact d w' (by rw [← q']; exact hocd)
theorem J5K {M : Model} {A : Around} {E : Value → Shared → Prop} {i : Nat} {x : Str} {v : V} {u : Value} {Q : Unit → Shared → Prop} (I : Inv X pins σ H s) (hN : X.N.Nodup) (hi : X.N[i]? = some x) (hx : Loc X.env.scope x) (r : RelV v u)
  (h : ∀ s',Inv X pins (σ.set i (some v)) H s' → Q () s') (hf : X.fn x = true ∨ X.env.scope.names.lookup x = some .local:=by first | exact .inl rfl | exact .inr rfl | assumption) : wpAny M A (storeName X.env x u) Q E s :=
 JcF I hN hi hx r (fun s' I' _=>h s' I') hf
theorem Inv.call' {s' : Shared} {ch : List Addr} (I : Inv X pins σ H s) (ho : s'.os = s.os) (u : Un (frs X.stack) ch H H' s.heap s'.heap) (hok : HOk X.prog X.w H' s'.heap) (hg : AllBare s'.gens)
  (hch : ∀ b ∈ ch,(b ∈ X.ex ∨ X.s₀.heap.objs.size ≤ b) ∧ b ≠ X.env.locals ∧ (∀ x c,X.env.cells.lookup x = some c → c ≠ b) ∧ ∀ p ∈ X.pn ++ pins,p.1 ≠ b) : Inv X pins σ H' s':=by
 obtain ⟨h',g',d',t',o'⟩:=s'
 have e : o' = s.os:=ho
 subst e
 exact I.call (g':=g') (t':=t') (d':=d') u hok hg hch
end
noncomputable abbrev XK:=Value → Option Addr → Hp → Prop
noncomputable abbrev St:=List (Option V)
noncomputable abbrev VK:=V → Hp → Prop
noncomputable abbrev TE:=St → Hp → VK → Prop
noncomputable abbrev TT:=St → Hp → (Bool → Hp → Prop) → Prop
noncomputable abbrev TA:=St → Hp → (List V → Hp → Prop) → Prop
structure Ends where
 nx : St → Hp → Prop
 rt : VK
 bk : St → Hp → Prop:=fun _ _=>False
 ct : St → Hp → Prop:=fun _ _=>False
noncomputable abbrev TS:=Ends → St → Hp → Prop
noncomputable def EP (X : Cx) (pins : List (Addr × Obj)) (σ : St) (Q : VK) (u : Value) (s' : Shared) : Prop:=∃ v H',Inv X pins σ H' s' ∧ RelV v u ∧ Q v H'
noncomputable def TP (X : Cx) (pins : List (Addr × Obj)) (σ : St) (Q : Bool → Hp → Prop) (b : Bool) (s' : Shared) : Prop:=∃ H',Inv X pins σ H' s' ∧ Q b H'
noncomputable def AP (X : Cx) (pins : List (Addr × Obj)) (σ : St) (Q : List V → Hp → Prop) (us : List Value) (s' : Shared) : Prop:=∃ vs H',Inv X pins σ H' s' ∧ Vals vs us ∧ Q vs H'
noncomputable def SP (X : Cx) (pins : List (Addr × Obj)) (D : Ends) (f : Flow) (s' : Shared) : Prop :=
 match f with
 | .next=>∃ σ' H',Inv X pins σ' H' s' ∧ D.nx σ' H'
 | .brk=>∃ σ' H',Inv X pins σ' H' s' ∧ D.bk σ' H'
 | .cont=>∃ σ' H',Inv X pins σ' H' s' ∧ D.ct σ' H'
 | .ret u=>∃ v σ' H',Inv X pins σ' H' s' ∧ RelV v u ∧ D.rt v H'
noncomputable def PE (X : Cx) (e : Expr) (t : TE) : Prop :=
 ∀ (pins : List (Addr × Obj)) (s : Shared) (σ : St) (H : Hp) (Q : VK),Inv X pins σ H s → t σ H Q → wpAny (model X.prog X.w) X.A (eval e X.env) (EP X pins σ Q) X.xe s
noncomputable def PT (X : Cx) (e : Expr) (t : TT) : Prop :=
 ∀ (pins : List (Addr × Obj)) (s : Shared) (σ : St) (H : Hp) (Q : Bool → Hp → Prop),Inv X pins σ H s → t σ H Q → wpAny (model X.prog X.w) X.A (isTrue e X.env (eval e X.env)) (TP X pins σ Q) X.xe s
noncomputable def PW (X : Cx) (e : Expr) (t : TT) : Prop :=
 ∀ (whole : Sem Value) (pins : List (Addr × Obj)) (s : Shared) (σ : St) (H : Hp) (Q : Bool → Hp → Prop),Inv X pins σ H s → t σ H Q → wpAny (model X.prog X.w) X.A (isTrue e X.env whole) (TP X pins σ Q) X.xe s
theorem PW.pt {X : Cx} {e : Expr} {t : TT} (h : PW X e t) : PT X e t:=h _
noncomputable def PA (X : Cx) (es : List Expr) (t : TA) : Prop :=
 ∀ (pos : Pos) (pins : List (Addr × Obj)) (s : Shared) (σ : St) (H : Hp) (Q : List V → Hp → Prop),Inv X pins σ H s → t σ H Q → wpAny (model X.prog X.w) X.A (spliced (backTo pos (starEach es X.env))) (AP X pins σ Q) X.xe s
noncomputable def PS (X : Cx) (st : Stmt) (t : TS) : Prop :=
 ∀ (pins : List (Addr × Obj)) (s : Shared) (σ : St) (H : Hp) (D : Ends),Inv X pins σ H s → t D σ H → wpAny (model X.prog X.w) X.A (exec st X.env) (SP X pins D) X.xe s
noncomputable def PSs (X : Cx) (st : List Stmt) (t : TS) : Prop :=
 ∀ (pins : List (Addr × Obj)) (s : Shared) (σ : St) (H : Hp) (D : Ends),Inv X pins σ H s → t D σ H → wpAny (model X.prog X.w) X.A (execs st X.env) (SP X pins D) X.xe s
theorem thn {α : Type} {t : Sem α} {Q Q' : α → Shared → Prop} {M : Model} {A : Around} {E : Value → Shared → Prop} {s : Shared} (h : wpAny M A t Q E s) (hQ : ∀ a s,Q a s → Q' a s) : wpAny M A t Q' E s:=wpAny_mono h hQ fun _ _ x=>x
end L2
namespace L2
open PySem PySem.Spec PyProof.Rows
section
variable {X : Cx}
noncomputable def tVar (i : Nat) : TE:=fun σ H Q=>∃ v,σ[i]? = some (some v) ∧ Q v H
noncomputable def tC (v : V) : TE:=fun _ H Q=>Q v H
theorem Jgc {i : Nat} {x : Str} {pos : Pos} (hN : X.N[i]? = some x) (hv : Vis X.env.scope x) (hd : (x == ("__debug__" : Str)) = false:=by decide) (hcd : (x == ("__classdict__" : Str)) = false:=by decide) : PE X (.Name x pos) (tVar i):=by
 intro pins s σ H Q I h
 obtain ⟨v,e,h⟩:=h
 obtain ⟨m,hn,hl⟩:=I.loc
 obtain ⟨u,r,l⟩:=hl i x v hN e hv
 have fin : EP X pins σ Q u s:=⟨v,H,I,r,h⟩
 rcases l with ⟨hk,hm⟩ | ⟨hk,c,hc,hcell⟩
 ·exact wpAny_Name (wpAny_loadName_local I.ok.kind hk hn hm fin) hd
 ·rcases hk with hk | hk
  ·exact wpAny_Name (wpAny_loadName_cell I.ok.kind hk hc hcell fin) hd
  ·exact wpAny_Name (wpAny_loadName_free I.ok.kind hk hc hcell fin hcd) hd
theorem J3 {i j pos} : PE X (.Constant (.int i) j pos) (tC (.int i)):=fun _ _ _ H _ I h=>wpAny_Constant_int ⟨.int i,H,I.tok _,⟨_,rfl⟩,h⟩
theorem J1c {b j pos} : PE X (.Constant (.bool b) j pos) (tC (.bl b)):=fun _ _ _ H _ I h=>Constant_bool ⟨.bl b,H,I,rfl,h⟩
theorem Jgz {x j pos} : PE X (.Constant (.str x) j pos) (tC (.str x)):=fun _ _ _ H _ I h=>Calls.Constant_str ⟨.str x,H,I.tok _,⟨_,rfl⟩,h⟩
noncomputable def Gl (X : Cx) (x : Str) : Prop:=X.env.kindOf x = some .globalImplicit
theorem J9J {E : Value → Shared → Prop} {pins : List (Addr × Obj)} {s : Shared} {σ : St} {H : Hp} {x : Str} {u : Value} {pos : Pos} {Q : Value → Shared → Prop} (I : Inv X pins σ H s) (hg : Gl X x) (hm : X.mg x = some u) (h : Q u s)
  (hd : (x == ("__debug__" : Str)) = false:=by decide) : wpAny (model X.prog X.w) X.A (eval (.Name x pos) X.env) Q E s :=
 Calls.Name_function_global I.ok.kind hg (Calls.loadGlobal_global (by rw [I.ok.glob]; exact I.mod.glob.keeps I.bk) hm h) hd
theorem J6h {E : Value → Shared → Prop} {pins : List (Addr × Obj)} {s : Shared} {σ : St} {H : Hp} {x : Str} {u : Value} {pos : Pos} {Q : Value → Shared → Prop} (I : Inv X pins σ H s) (hg : Gl X x) (hm : X.mg x = none) (hv : bootBuiltins x = some u) (h : Q u s)
  (hn : x ≠ "__name__":=by decide) (hd : (x == ("__debug__" : Str)) = false:=by decide) : wpAny (model X.prog X.w) X.A (eval (.Name x pos) X.env) Q E s:=by
 obtain ⟨mb,h1,h2⟩:=I.mod.blt
 exact Calls.Name_function_global I.ok.kind hg (Calls.loadGlobal_builtin (by rw [I.ok.glob]; exact I.mod.glob.keeps I.bk) hm (by rw [I.ok.blt]; exact h1.keeps I.bk) ((h2 x hn).trans hv) h) hd
theorem J4j {x : Str} {v : V} {u : Value} {pos : Pos} (hg : Gl X x) (hm : X.mg x = some u) (r : RelV v u) (hd : (x == ("__debug__" : Str)) = false:=by decide) : PE X (.Name x pos) (tC v) :=
 fun _ _ _ H _ I h=>J9J I hg hm ⟨v,H,I,r,h⟩ hd
theorem Jfr {x : Str} {v : V} {u : Value} {pos : Pos} (hg : Gl X x) (hm : X.mg x = none) (hv : bootBuiltins x = some u) (r : RelV v u) (hn : x ≠ "__name__":=by decide) (hd : (x == ("__debug__" : Str)) = false:=by decide) : PE X (.Name x pos) (tC v) :=
 fun _ _ _ H _ I h=>J6h I hg hm hv ⟨v,H,I,r,h⟩ hn hd
variable {a b : Expr} {ta tb : TE} {pos : Pos}
noncomputable def tB (t : TE) : TT:=fun σ H Q=>t σ H fun x H1=>∃ c,x = .bl c ∧ Q c H1
theorem J0u {e : Expr} {t : TE} (h : PE X e t) (he : ∀ whole,isTrue e X.env whole = (do let v ← whole; standAt e.pos; holding [v] (truthy v)):=by intro _; rfl) : PT X e (tB t):=by
 intro pins s σ H Q I hw
 refine isTrue_plain (thn (h pins s σ H _ I hw) fun v s1 ⟨x,H1,I1,r1,q1⟩=>?_) (he _)
 obtain ⟨d,rfl,q⟩:=q1
 cases r1
 exact wpAny_truthy_bool ⟨H1,I1,q⟩
variable {tA tB' : TT} {rest : List Expr}
noncomputable def tAnd (t u : TT) : TT:=fun σ H Q=>t σ H fun c H1=>if c = true then u σ H1 Q else Q false H1
noncomputable def tOr (t u : TT) : TT:=fun σ H Q=>t σ H fun c H1=>if c = true then Q true H1 else u σ H1 Q
noncomputable def tNot (t : TT) : TT:=fun σ H Q=>t σ H fun c H1=>Q (!c) H1
theorem J2P (ha : PT X a tA) : PW X (.BoolOp .And [a] pos) tA:=by
 intro wh pins s σ H Q I h
 refine isTrue_and (thn (ha pins s σ H Q I h) fun c s1 e=>?_)
 cases c with
 | true=>exact isTrue_and_nil e
 | false=>exact e
theorem J1q (ha : PT X a tA) : PW X (.BoolOp .Or [a] pos) tA:=by
 intro wh pins s σ H Q I h
 refine isTrue_or (thn (ha pins s σ H Q I h) fun c s1 e=>?_)
 cases c with
 | false=>exact isTrue_or_nil e
 | true=>exact e
theorem J34 (ha : PT X a tA) (hb : PW X (.BoolOp .And (b :: rest) pos) tB') : PW X (.BoolOp .And (a :: b :: rest) pos) (tAnd tA tB'):=by
 intro wh pins s σ H Q I h
 refine isTrue_and (thn (ha pins s σ H _ I h) fun c s1 ⟨H1,I1,q1⟩=>?_)
 cases c with
 | true=>exact hb wh pins s1 σ H1 Q I1 q1
 | false=>exact ⟨H1,I1,q1⟩
theorem J1O (ha : PT X a tA) (hb : PW X (.BoolOp .Or (b :: rest) pos) tB') : PW X (.BoolOp .Or (a :: b :: rest) pos) (tOr tA tB'):=by
 intro wh pins s σ H Q I h
 refine isTrue_or (thn (ha pins s σ H _ I h) fun c s1 ⟨H1,I1,q1⟩=>?_)
 cases c with
 | true=>exact ⟨H1,I1,q1⟩
 | false=>exact hb wh pins s1 σ H1 Q I1 q1
theorem J0t (ha : PT X a tA) : PT X (.UnaryOp .Not a pos) (tNot tA):=by
 intro pins s σ H Q I h
 exact isTrue_not (ha pins s σ H (fun c H1=>Q (!c) H1) I h)
noncomputable def JgY (ta tb : TE) : TE:=fun σ H Q=>ta σ H fun x H1=>∃ c,x = .bl c ∧ if c = true then tb σ H1 Q else Q (.bl false) H1
noncomputable def tOrV (ta tb : TE) : TE:=fun σ H Q=>ta σ H fun x H1=>∃ c,x = .bl c ∧ if c = true then Q (.bl true) H1 else tb σ H1 Q
noncomputable def Jh4 (ta : TE) : TE:=fun σ H Q=>ta σ H fun x H1=>∃ c,x = .bl c ∧ Q (.bl (!c)) H1
theorem J33 {op} {t : TE} (h : PE X a t) : PE X (.BoolOp op [a] pos) t:=fun pins s σ H Q I hw=>BoolOp_one (h pins s σ H Q I hw)
theorem J1R (ha : PE X a ta) (hb : PE X (.BoolOp .And (b :: rest) pos) tb) : PE X (.BoolOp .And (a :: b :: rest) pos) (JgY ta tb):=by
 intro pins s σ H Q I h
 refine BoolOp_and (thn (ha pins s σ H _ I h) fun v s1 ⟨x,H1,I1,r1,q1⟩=>?_)
 obtain ⟨c,rfl,q1⟩:=q1
 cases r1
 refine wpAny_truthy_bool ?_
 cases c with
 | true=>exact hb pins s1 σ H1 Q I1 q1
 | false=>exact ⟨.bl false,H1,I1,rfl,q1⟩
theorem Jex (ha : PE X a ta) (hb : PE X (.BoolOp .Or (b :: rest) pos) tb) : PE X (.BoolOp .Or (a :: b :: rest) pos) (tOrV ta tb):=by
 intro pins s σ H Q I h
 refine BoolOp_or (thn (ha pins s σ H _ I h) fun v s1 ⟨x,H1,I1,r1,q1⟩=>?_)
 obtain ⟨c,rfl,q1⟩:=q1
 cases r1
 refine wpAny_truthy_bool ?_
 cases c with
 | false=>exact hb pins s1 σ H1 Q I1 q1
 | true=>exact ⟨.bl true,H1,I1,rfl,q1⟩
theorem Jgb (ha : PE X a ta) : PE X (.UnaryOp .Not a pos) (Jh4 ta):=by
 intro pins s σ H Q I h
 refine UnaryOp_ (thn (ha pins s σ H _ I h) fun v s1 ⟨x,H1,I1,r1,q1⟩=>?_)
 obtain ⟨c,rfl,q1⟩:=q1
 cases r1
 exact not_of (wpAny_truthy_bool ⟨.bl (!c),H1,I1,rfl,q1⟩)
noncomputable def tIf (t : TT) (ta tb : TE) : TE:=fun σ H Q=>t σ H fun c H1=>if c = true then ta σ H1 Q else tb σ H1 Q
theorem J7L {c : Expr} (hc : PT X c tA) (ha : PE X a ta) (hb : PE X b tb) : PE X (.IfExp c a b pos) (tIf tA ta tb):=by
 intro pins s σ H Q I h
 refine wpAny_IfExp (thn (hc pins s σ H _ I h) fun d s1 ⟨H1,I1,q1⟩=>?_)
 cases d with
 | true=>exact ha pins s1 σ H1 Q I1 q1
 | false=>exact hb pins s1 σ H1 Q I1 q1
end
end L2
namespace L2
open PySem PySem.Spec PyProof.Rows
noncomputable def SqL (K : PySem.W.Frag) (H : Hp) (a : Addr) (xs : List V) : Prop :=
 Rd H a (.lst xs) ∨
  ∃ (o : Obj) (its : Array Value) (n : Nat),K.lookup a = some o ∧ o.cls = .type "list" ∧ o.dict = none ∧ o.data = .seq its n ∧ its.size ≤ sizeLine ∧ Vals xs its.toList
noncomputable def SqT (K : PySem.W.Frag) (H : Hp) (a : Addr) (xs : List V) : Prop :=
 Rd H a (.tup xs) ∨
  ∃ (o : Obj) (its : Array Value) (n : Nat),K.lookup a = some o ∧ o.cls = .type "tuple" ∧ o.data = .seq its n ∧ its.size ≤ sizeLine ∧ Vals xs its.toList
noncomputable def absV : Value → Option V
 | .none=>some .non
 | .bool b=>some (.bl b)
 | .int i _=>some (.int i)
 | .str x _=>some (.str x)
 | .bytes b _=>some (.byt b)
 | .float b _=>some (.flt b)
 | .ref a=>some (.ref a)
 | .type n=>some (.ty n)
 | _=>none
theorem RelV.abs {x : V} {u : Value} (r : RelV x u) : absV u = some x:=by
 cases x with
 | non=>cases r; rfl
 | bl _=>cases r; rfl
 | int _=>obtain ⟨t,rfl⟩:=r; rfl
 | str _=>obtain ⟨t,rfl⟩:=r; rfl
 | byt _=>obtain ⟨t,rfl⟩:=r; rfl
 | flt _=>obtain ⟨t,rfl⟩:=r; rfl
 | ref _=>cases r; rfl
 | ty _=>cases r; rfl
theorem RelV.inj {x y : V} {u : Value} (r : RelV x u) (q : RelV y u) : x = y:=Option.some.inj (r.abs.symm.trans q.abs)
theorem Vals.inj : ∀ {xs ys : List V} {us : List Value},Vals xs us → Vals ys us → xs = ys
 | _,_,_,.nil,.nil=>rfl
 | _,_,_,.cons r t,.cons r' t'=>by rw [r.inj r',Vals.inj t t']
section
variable {X : Cx} {pins : List (Addr × Obj)} {σ : St} {H : Hp} {s : Shared} {a : Addr} {xs ys : List V}
theorem SqL.of {K : PySem.W.Frag} (h : H a = some (.lst xs)) : SqL K H a xs:=.inl (.inl h)
theorem SqT.of {K : PySem.W.Frag} (h : H a = some (.tup xs)) : SqT K H a xs:=.inl (.inl h)
theorem Inv.list (I : Inv X pins σ H s) (h : SqL X.K H a xs) : ∃ its : List Value,Vals xs its ∧ PlainL s.heap a its.toArray ∧ xs.length ≤ sizeLine:=by
 rcases h with h | ⟨o,its,n,hk,hc,hd,hs,hz,r⟩
 ·obtain ⟨z,its,n,r,e⟩:=h.ok I.hok
  exact ⟨its,r,⟨_,n,e,rfl,rfl,rfl⟩,z⟩
 ·refine ⟨its.toList,r,⟨o,n,I.kIn a o hk,hc,hd,by simpa using hs⟩,?_⟩
  have e:=r.length
  simp only [Array.length_toList] at e
  omega
theorem Inv.tuple (I : Inv X pins σ H s) (h : SqT X.K H a xs) : ∃ its : List Value,Vals xs its ∧ IsTup s.heap a its.toArray ∧ xs.length ≤ sizeLine:=by
 rcases h with h | ⟨o,its,n,hk,hc,hs,hz,r⟩
 ·obtain ⟨z,its,r,p⟩:=h.ok I.hok
  exact ⟨its,r,p,z⟩
 ·refine ⟨its.toList,r,⟨o,I.kIn a o hk,hc,n,by simpa using hs⟩,?_⟩
  have e:=r.length
  simp only [Array.length_toList] at e
  omega
theorem Inv.list_inj (I : Inv X pins σ H s) (h : SqL X.K H a xs) (h' : SqL X.K H a ys) : xs = ys:=by
 obtain ⟨its,r,⟨o,n,e,_,_,d⟩,_⟩:=I.list h
 obtain ⟨its',r',⟨o',n',e',_,_,d'⟩,_⟩:=I.list h'
 rw [e] at e'; cases e'
 rw [d] at d'
 injection d' with d1 _
 have : its = its':=by simpa using congrArg Array.toList d1
 subst this
 exact r.inj r'
end
noncomputable abbrev Cx.wish (X : Cx) (E : Value → Shared → Prop) : Cx:={ X with xe:=E }
noncomputable abbrev Cx.nox (X : Cx) : Cx:=X.wish fun _ _=>False
theorem Cx.Ok.wish {X : Cx} (ok : X.Ok) (E : Value → Shared → Prop) : (X.wish E).Ok :=
 ⟨ok.mod,ok.kind,ok.glob,ok.blt,ok.above,ok.inj,ok.has,ok.cab,ok.hd,ok.frames,ok.stk,ok.exf,ok.bs,ok.bsz,ok.noex,ok.exfs,ok.funs,ok.frf⟩
theorem Cx.Ok.unwish {X : Cx} {E : Value → Shared → Prop} (ok : (X.wish E).Ok) : X.Ok :=
 ⟨ok.mod,ok.kind,ok.glob,ok.blt,ok.above,ok.inj,ok.has,ok.cab,ok.hd,ok.frames,ok.stk,ok.exf,ok.bs,ok.bsz,ok.noex,ok.exfs,ok.funs,ok.frf⟩
section
variable {X : Cx} {pins : List (Addr × Obj)} {σ : St} {H : Hp} {s : Shared} {E : Value → Shared → Prop}
theorem Inv.wish (I : Inv X pins σ H s) (E : Value → Shared → Prop) : Inv (X.wish E) pins σ H s:=⟨I.ok.wish E,I.os,I.bare,I.base,I.loc,I.cell,I.free,I.freeC,I.pin,I.hok,I.len⟩
theorem Inv.unwish (I : Inv (X.wish E) pins σ H s) : Inv X pins σ H s:=⟨I.ok.unwish,I.os,I.bare,I.base,I.loc,I.cell,I.free,I.freeC,I.pin,I.hok,I.len⟩
theorem SP.unwish {D : Ends} {f : Flow} {s' : Shared} (h : SP (X.wish E) pins D f s') : SP X pins D f s':=by
 cases f with
 | next=>obtain ⟨σ',H',I,q⟩:=h; exact ⟨σ',H',I.unwish,q⟩
 | brk=>obtain ⟨σ',H',I,q⟩:=h; exact ⟨σ',H',I.unwish,q⟩
 | cont=>obtain ⟨σ',H',I,q⟩:=h; exact ⟨σ',H',I.unwish,q⟩
 | ret u=>obtain ⟨v,σ',H',I,r,q⟩:=h; exact ⟨v,σ',H',I.unwish,r,q⟩
theorem PSs.nox {st : List Stmt} {t : TS} (h : PSs X.nox st t) : PSs X st t:=fun pins s σ H D I hw =>
 wpAny_mono (h pins s σ H D (I.wish _) hw) (fun _ _ q=>q.unwish) fun _ _ z=>False.elim z
end
section
variable {X : Cx} {st : Stmt} {rest : List Stmt} {t u : TS} {e : Expr} {te : TE} {pos : Pos}
noncomputable def JgX : TS:=fun D σ H=>D.nx σ H
noncomputable def tSeq (t u : TS) : TS:=fun D σ H=>t { D with nx:=u D } σ H
theorem Jz : PSs X [] JgX:=fun _ _ σ H _ I h=>wpAny_execs_nil ⟨σ,H,I,h⟩
theorem J6 (h1 : PS X st t) (h2 : PSs X rest u) : PSs X (st :: rest) (tSeq t u):=by
 intro pins s σ H D I h
 refine wpAny_execs_cons (thn (h1 pins s σ H { D with nx:=u D } I h) fun f s1 q=>?_)
 cases f with
 | next =>
  obtain ⟨σ',H',I',q⟩:=q
  exact h2 pins s1 σ' H' D I' q
 | ret v=>exact q
 | brk=>exact q
 | cont=>exact q
theorem Ja (h1 : PS X st t) : PSs X [st] t:=by
 intro pins s σ H D I h
 refine wpAny_execs_cons (thn (h1 pins s σ H D I h) fun f s1 q=>?_)
 cases f with
 | next=>exact wpAny_execs_nil q
 | ret v=>exact q
 | brk=>exact q
 | cont=>exact q
theorem Inv.quiet {pins : List (Addr × Obj)} {σ : St} {H : Hp} {s : Shared} (I : Inv X pins σ H s) : interactive X.env = false:=by simp [interactive,I.ok.kind]
noncomputable def Jhc (te : TE) : TS:=fun D σ H=>te σ H fun _ H1=>D.nx σ H1
theorem J0i (he : PE X e te) (hs : swapsWith e none pos.line X.env = pure false:=by rfl) : PS X (.Expr e pos) (Jhc te):=by
 intro pins s σ H D I h
 exact wpAny_Expr_any (thn (he pins s σ H _ I h) fun v s1 ⟨x,H1,I1,r1,q1⟩=>⟨σ,H1,I1,q1⟩) I.quiet hs
noncomputable def tRet (te : TE) : TS:=fun D σ H=>te σ H D.rt
theorem Jl (he : PE X e te) : PS X (.Return (some e) pos) (tRet te):=by
 intro pins s σ H D I h
 exact wpAny_Return_some (thn (he pins s σ H _ I h) fun v s1 ⟨x,H1,I1,r1,q1⟩=>⟨x,σ,H1,I1,r1,q1⟩)
noncomputable def tIfS (c : TT) (t u : TS) : TS:=fun D σ H=>c σ H fun b H1=>if b = true then t D σ H1 else u D σ H1
theorem JK {c : Expr} {a b : List Stmt} {tc : TT} (hc : PT X c tc) (ha : PSs X a t) (hb : PSs X b u) : PS X (.If c a b pos) (tIfS tc t u):=by
 intro pins s σ H D I h
 refine wpAny_If (thn (hc pins s σ H _ I h) fun d s1 ⟨H1,I1,q1⟩=>?_)
 cases d with
 | true=>exact ha pins s1 σ H1 D I1 q1
 | false=>exact hb pins s1 σ H1 D I1 q1
noncomputable def JgA : TS:=fun _ _ _=>False
theorem J4I : PS X st JgA:=fun _ _ _ _ _ _ h=>h.elim
end
noncomputable abbrev TG:=V → St → Hp → (St → Hp → Prop) → Prop
noncomputable abbrev TGs:=List V → St → Hp → (St → Hp → Prop) → Prop
noncomputable def PG (X : Cx) (target : Expr) (t : TG) : Prop :=
 ∀ (pins : List (Addr × Obj)) (s : Shared) (σ : St) (H : Hp) (v : V) (u : Value) (Q : St → Hp → Prop),Inv X pins σ H s → RelV v u → t v σ H Q →
  wpAny (model X.prog X.w) X.A (assign target X.env u) (fun _ s'=>∃ σ' H',Inv X pins σ' H' s' ∧ Q σ' H') X.xe s
noncomputable def PGs (X : Cx) (ts : List Expr) (t : TGs) : Prop :=
 ∀ (pins : List (Addr × Obj)) (s : Shared) (σ : St) (H : Hp) (vs : List V) (us : List Value) (Q : St → Hp → Prop),Inv X pins σ H s → Vals vs us → t vs σ H Q →
  wpAny (model X.prog X.w) X.A (assignInOrder ((assignEach ts X.env).map (·.2)) us) (fun _ s'=>∃ σ' H',Inv X pins σ' H' s' ∧ Q σ' H') X.xe s
noncomputable abbrev TIp:=V → V → Hp → VK → Prop
noncomputable def PIp (X : Cx) (op : Operator) (t : TIp) : Prop :=
 ∀ (pins : List (Addr × Obj)) (s : Shared) (σ : St) (H : Hp) (x y : V) (v u : Value) (Q : VK),Inv X pins σ H s → RelV x v → RelV y u → t x y H Q →
  wpAny (model X.prog X.w) X.A (inplaceOp op v u) (EP X pins σ Q) X.xe s
section
variable {X : Cx} {pos : Pos}
noncomputable def J4H (i : Nat) : TG:=fun v σ H Q=>Q (σ.set i (some v)) H
theorem Ju {i : Nat} {x : Str} (hN : X.N.Nodup) (hi : X.N[i]? = some x) (hx : Loc X.env.scope x) (hf : X.fn x = true ∨ X.env.scope.names.lookup x = some .local:=by first | exact .inl rfl | exact .inr rfl | assumption) : PG X (.Name x pos) (J4H i):=by
 intro pins s σ H v u Q I r h
 exact wpAny_assign_Name (J5K I hN hi hx r (fun s' I'=>⟨_,H,I',h⟩) hf)
noncomputable def gNil : TGs:=fun vs σ H Q=>vs = [] ∧ Q σ H
noncomputable def JdG (t : TG) (u : TGs) : TGs:=fun vs σ H Q=>∃ v r,vs = v :: r ∧ t v σ H fun σ' H'=>u r σ' H' Q
theorem J1f : PGs X [] gNil:=by
 intro pins s σ H vs us Q I r h
 obtain ⟨e,h⟩:=h
 subst e
 cases r
 exact assignInOrder_nil ⟨σ,H,I,h⟩
theorem JB {e : Expr} {es : List Expr} {t : TG} {u : TGs} (h1 : PG X e t) (h2 : PGs X es u)
  (hs : (assignEach (e :: es) X.env).map (·.2) = assign e X.env :: (assignEach es X.env).map (·.2):=by rfl) : PGs X (e :: es) (JdG t u):=by
 intro pins s σ H vs us Q I r h
 obtain ⟨v,vr,e1,h⟩:=h
 subst e1
 cases r with
 | cons r rr =>
  rw [hs]
  refine assignInOrder_cons (thn (h1 pins s σ H _ _ _ I r h) fun _ s1 ⟨σ1,H1,I1,q1⟩=>?_)
  exact h2 pins s1 σ1 H1 _ _ Q I1 rr q1
noncomputable def gTup (K : PySem.W.Frag) (n : Nat) (t : TGs) : TG:=fun v σ H Q=>∃ a xs,v = .ref a ∧ SqT K H a xs ∧ xs.length = n ∧ t xs σ H Q
theorem J3H {es : List Expr} {k : Nat} {t : TGs} {n : Nat} (hc : X.calm = true) (h : PGs X es t)
  (hn : (assignEach es X.env).length = n:=by rfl) (hst : (assignEach es X.env).findIdx? (·.1) = none:=by rfl) : PG X (.Tuple es k pos) (gTup X.K n t):=by
 intro pins s σ H v u Q I r hw
 obtain ⟨a,xs,e1,hq,hl,hw⟩:=hw
 subst e1
 cases r
 obtain ⟨its,rv,ht,hz⟩:=I.tuple hq
 refine assign_Tuple_tuple (I.ok.hd hc) ht (by simp [hn,← hl,rv.length]) hst fun h' hx=>?_
 have I1 : Inv X pins σ H { s with heap:=h' }:=I.kept (t':=s.toks) fun b o e=>hx b o (Nat.ne_of_lt (Heap.lt_size e)) e
 exact h pins _ σ H xs _ Q I1 (by simpa using rv) hw
noncomputable def tAsg (te : TE) (g : TG) : TS:=fun D σ H=>te σ H fun x H1=>g x σ H1 D.nx
theorem Jbt {tg e : Expr} {te : TE} {g : TG} (he : PE X e te) (hg : PG X tg g) (hs : swapsWithSole [tg] e pos.line X.env = pure false:=by rfl) (hw : swappedStores [tg] e X.env = pure none:=by rfl)
  (h1 : (assignEach [tg] X.env).map (·.2) = [assign tg X.env]:=by rfl) : PS X (.Assign [tg] e pos) (tAsg te g):=by
 intro pins s σ H D I h
 refine wpAny_Assign_stores (thn (he pins s σ H _ I h) fun v s1 ⟨x,H1,I1,r1,q1⟩=>?_) hs hw
 rw [h1]
 exact thn (hg pins s1 σ H1 x v _ I1 r1 q1) fun _ s2 q=>q
theorem Jw {i : Nat} {x : Str} {e : Expr} {te : TE} {pos' : Pos} (hN : X.N.Nodup) (hi : X.N[i]? = some x) (hx : Loc X.env.scope x) (he : PE X e te) (hs : swapsWith e (some (.Name x pos')) pos.line X.env = pure false:=by rfl) (hf : X.fn x = true ∨ X.env.scope.names.lookup x = some .local:=by first | exact .inl rfl | exact .inr rfl | assumption) :
  PS X (.Assign [.Name x pos'] e pos) (tAsg te (J4H i)):=by
 intro pins s σ H D I h
 refine wpAny_Assign_Name (thn (he pins s σ H _ I h) fun v s1 ⟨y,H1,I1,r1,q1⟩=>?_) hs
 exact J5K I1 hN hi hx r1 (fun s2 I2=>⟨_,H1,I2,q1⟩) hf
noncomputable def tAug (i : Nat) (te : TE) (ti : TIp) : TS:=fun D σ H=>∃ x,σ[i]? = some (some x) ∧ te σ H fun y H1=>ti x y H1 fun z H2=>D.nx (σ.set i (some z)) H2
theorem J4D {i : Nat} {x : Str} {e : Expr} {te : TE} {op : Operator} {ti : TIp} {pos' : Pos} (hN : X.N.Nodup) (hi : X.N[i]? = some x) (hx : Loc X.env.scope x) (he : PE X e te) (ho : PIp X op ti) (hf : X.fn x = true ∨ X.env.scope.names.lookup x = some .local:=by first | exact .inl rfl | exact .inr rfl | assumption) :
  PS X (.AugAssign (.Name x pos') op e pos) (tAug i te ti):=by
 intro pins s σ H D I h
 obtain ⟨v,e1,h⟩:=h
 obtain ⟨m,hn,hl⟩:=I.loc
 have vis : Vis X.env.scope x:=by rcases hx with k | k; exact .inl k; exact .inr (.inl k)
 obtain ⟨u,r,l⟩:=hl i x v hi e1 vis
 refine wpAny_AugAssign_Name ?_
 have go : wpAny (model X.prog X.w) X.A (eval e X.env) (fun w s₂=>wpAny (model X.prog X.w) X.A (inplaceOp op u w) (fun r s₃=>wpAny (model X.prog X.w) X.A (storeName X.env x r) (fun _=>SP X pins D .next) X.xe s₃) X.xe s₂) X.xe s:=by
  refine thn (he pins s σ H _ I h) fun w s1 ⟨y,H1,I1,r1,q1⟩=>?_
  refine thn (ho pins s1 σ H1 v y u w _ I1 r r1 q1) fun z s2 ⟨zv,H2,I2,r2,q2⟩=>?_
  exact J5K I2 hN hi hx r2 (fun s3 I3=>⟨_,H2,I3,q2⟩) hf
 rcases l with ⟨hk,hm⟩ | ⟨hk,c,hc,hcell⟩
 ·exact wpAny_loadName_local I.ok.kind hk hn hm go
 ·rcases hk with hk | hk
  ·exact wpAny_loadName_cell I.ok.kind hk hc hcell go
  ·rcases hx with k | k
   ·have : X.env.scope.names.lookup x = some .free:=hk
    rw [k] at this; cases this
   ·have : X.env.scope.names.lookup x = some .free:=hk
    rw [k] at this; cases this
noncomputable def ipI (f : Int → Int → Int) : TIp:=fun x y H Q=>∃ i j,x = .int i ∧ y = .int j ∧ Q (.int (f i j)) H
theorem Jgw : PIp X .Add (ipI fun i j=>i + j):=by
 intro pins s σ H x y v u Q I r1 r2 h
 obtain ⟨i,j,e1,e2,q⟩:=h
 subst e1; subst e2
 obtain ⟨t,rfl⟩:=r1
 obtain ⟨t',rfl⟩:=r2
 exact iadd_int ⟨.int _,H,I.tok _,⟨_,rfl⟩,q⟩
theorem Jgv : PIp X .Sub (ipI fun i j=>i - j):=by
 intro pins s σ H x y v u Q I r1 r2 h
 obtain ⟨i,j,e1,e2,q⟩:=h
 subst e1; subst e2
 obtain ⟨t,rfl⟩:=r1
 obtain ⟨t',rfl⟩:=r2
 exact isub_int ⟨.int _,H,I.tok _,⟨_,rfl⟩,q⟩
end
section
variable {X : Cx} {pos : Pos}
end
structure It where
 go : Nat → Hp → Prop
 yld : Nat → Hp → V → Hp → Prop
 stop : Nat → Hp → Prop
noncomputable def FpOk (X : Cx) (pins : List (Addr × Obj)) (H : Hp) (b : Addr) : Prop :=
 H b = none ∧ b ≠ X.env.locals ∧ b ∉ X.fs ∧ (b ∈ X.ex ∨ X.s₀.heap.objs.size ≤ b) ∧ (∀ x c,X.env.cells.lookup x = some c → c ≠ b) ∧ ∀ p ∈ X.pn ++ pins,p.1 ≠ b
theorem Inv.fpOk {X : Cx} {pins : List (Addr × Obj)} {σ : St} {H H' : Hp} {s : Shared} {b : Addr} (I : Inv X pins σ H s) (hb : s.heap.objs.size ≤ b) (hn : H' b = none) : FpOk X pins H' b:=by
 refine ⟨hn,Nat.ne_of_gt (Nat.lt_of_lt_of_le I.lt hb),I.nofs hb,.inr (Nat.le_trans I.sz hb),fun x c e z=>?_,fun p hp z=>?_⟩
 ·obtain ⟨v,q⟩:=I.cell x c e
  exact absurd (Nat.lt_of_lt_of_le q.lt (by rw [z]; exact hb)) (Nat.lt_irrefl _)
 ·exact absurd (Nat.lt_of_lt_of_le (Heap.lt_size (I.pin p hp).1) (by rw [z]; exact hb)) (Nat.lt_irrefl _)
structure Turn (P : Program) (w : World) (K : PySem.W.Frag) (tg : Expr) (J : It) (fp : List Addr) (it : Addr) (tn : Nat → Heap → Prop) : Prop where
 mem : it ∈ fp
 obj : ∀ i h,tn i h → ∀ b ∈ fp,∃ o,h.get? b = some o ∧ ∀ v,o.data ≠ .cell v
 keep : ∀ i h h',tn i h → (∀ b ∈ fp,∀ o,h.get? b = some o → h'.get? b = some o) → tn i h'
 item : ∀ (X : Cx),X.prog = P → X.w = w → X.K = K → X.calm = true → ∀ (i : Nat) (pins : List (Addr × Obj)) (s : Shared) (σ : St) (H : Hp) (E : Value → Shared → Prop),Inv X pins σ H s → (∀ b ∈ fp,FpOk X pins H b) → tn i s.heap → J.go i H →
  wpAny (model P w) X.A (pyNext (.ref it)) (fun r s1=>∃ u,r = some u ∧
   wpAny (model P w) X.A (letOwnedTupleGo tg (.ref it) u) (fun _ s2=>∃ x H',Inv X pins σ H' s2 ∧ RelV x u ∧ J.yld i H x H' ∧ tn (i + 1) s2.heap ∧ ∀ b ∈ fp,H' b = none) E s1) E s
 done : ∀ (X : Cx),X.prog = P → X.w = w → X.K = K → X.calm = true → ∀ (i : Nat) (pins : List (Addr × Obj)) (s : Shared) (σ : St) (H : Hp) (E : Value → Shared → Prop),Inv X pins σ H s → (∀ b ∈ fp,FpOk X pins H b) → tn i s.heap → J.stop i H →
  wpAny (model P w) X.A (pyNext (.ref it)) (fun r s1=>r = none ∧ Inv X pins σ H s1) E s
 self : ∀ (A : Around) (i : Nat) (s : Shared) (Q : Value → Shared → Prop) (E : Value → Shared → Prop),tn i s.heap → Q (.ref it) s → wpAny (model P w) A (pyIter (.ref it)) Q E s
noncomputable abbrev TI:=St → Hp → (It → Hp → Prop) → Prop
noncomputable def PIE (X : Cx) (pins : List (Addr × Obj)) (σ : St) (tg : Expr) (R : It → Hp → Prop) (itv : Value) (s2 : Shared) : Prop :=
 ∃ (it : Addr) (fp : List Addr) (tn : Nat → Heap → Prop) (J : It) (H' : Hp),itv = .ref it ∧ Inv X pins σ H' s2 ∧ Turn X.prog X.w X.K tg J fp it tn ∧ tn 0 s2.heap ∧ (∀ b ∈ fp,FpOk X pins H' b) ∧ R J H'
noncomputable def PI (X : Cx) (tg iter : Expr) (wi : TI) : Prop :=
 ∀ (pins : List (Addr × Obj)) (s : Shared) (σ : St) (H : Hp) (R : It → Hp → Prop),Inv X pins σ H s → wi σ H R →
  wpAny (model X.prog X.w) X.A (eval iter X.env) (fun v s1=>wpAny (model X.prog X.w) X.A (pyIter v) (PIE X pins σ tg R) X.xe s1) X.xe s
theorem Jeb {M : Model} {A : Around} {E : Value → Shared → Prop} {s : Shared} {tg : Expr} {it : Addr} {u : Value} {o : Obj} {n : String} {vs : Array Value} {Q : Unit → Shared → Prop} (ho : s.heap.get? it = some o) (hc : o.cls = .type n) (hd : o.data = .fields vs)
    (hn : ["enumerate","zip","dict_itemiterator","dict_reverseitemiterator","odict_iterator","itertools.zip_longest","itertools.pairwise"].contains n = false) (hQ : Q () s) : wpAny M A (letOwnedTupleGo tg (.ref it) u) Q E s:=by
  unfold letOwnedTupleGo
  cases tg <;> first
    | exact wpAny_pure hQ
    | (cases u <;> first
        | exact wpAny_pure hQ
        | (refine wpAny_bind (wpAny_load ho ?_)
           rw [hc,hd]
           show wpAny M A (if (["enumerate","zip","dict_itemiterator","dict_reverseitemiterator","odict_iterator","itertools.zip_longest","itertools.pairwise"].contains n && vs[0]? == some (rawInt _)) = true then _ else _) Q E s
           rw [if_neg (by intro h; rw [hn,Bool.false_and] at h; cases h)]
           exact wpAny_pure hQ))
noncomputable def Itl (K : PySem.W.Frag) (a : Addr) : It :=
 ⟨fun i H=>∃ xs x,SqL K H a xs ∧ xs[i]? = some x,fun i H x H'=>H' = H ∧ ∀ xs,SqL K H a xs → xs[i]? = some x,fun i H=>∃ xs,SqL K H a xs ∧ xs.length ≤ i⟩
noncomputable def Itr (lo : Int) (n : Nat) : It:=⟨fun i _=>i < n,fun i H x H'=>H' = H ∧ x = .int (lo + i),fun i _=>n ≤ i⟩
theorem Jd5 {P : Program} {w : World} {K : PySem.W.Frag} {tg : Expr} (a it : Addr) : Turn P w K tg (Itl K a) [it] it (fun i h=>h.IsListIter it a i) where
 mem:=by simp
 obj:=fun i h st b hb=>by
  have e : b = it:=by simpa using hb
  subst e
  obtain ⟨o,e,c,d⟩:=st
  exact ⟨o,e,fun v z=>by rw [d] at z; cases z⟩
 keep:=fun i h h' st k=>st.at fun o e=>k it (by simp) o e
 item:=by
  intro X hP hw hK hc i pins s σ H E I hf st hg
  subst hP hw hK
  obtain ⟨xs,x,hq,hx⟩:=hg
  obtain ⟨its,rv,p,hz⟩:=I.list hq
  obtain ⟨u,hu,ru⟩:=rv.get hx
  obtain ⟨f0,f1,f2,f3,f4,f5⟩:=hf it (by simp)
  refine wpAny_pyNext_list_item st p.isList (x:=u) (by simpa using hu) fun h' st' sb=>?_
  have I1 : Inv X pins σ H { s with heap:=h' }:=I.turned (t':=s.toks) (fun b o hb e=>(sb.2 b hb).trans e) f0 f1 f3 f4 f5
  obtain ⟨o,e,c,d⟩:=id st'
  exact ⟨u,rfl,Jeb (s:={ s with heap:=h' }) e c d (by decide) ⟨x,H,I1,ru,⟨rfl,fun ys hy=>by rw [I.list_inj hy hq]; exact hx⟩,st',fun b hb=>(hf b hb).1⟩⟩
 done:=by
  intro X hP hw hK hc i pins s σ H E I hf st hg
  subst hP hw hK
  obtain ⟨xs,hq,hx⟩:=hg
  obtain ⟨its,rv,p,hz⟩:=I.list hq
  obtain ⟨f0,f1,f2,f3,f4,f5⟩:=hf it (by simp)
  have hl:=rv.length
  exact wpAny_pyNext_list_end (I.ok.hd hc) st p.isList (by simp; omega) fun h' eb=>⟨rfl,I.turned (t':=s.toks) (fun b o hb e=>eb b o hb e) f0 f1 f3 f4 f5⟩
 self:=fun _ _ _ _ _ st h=>wpAny_pyIter_listiter st h
theorem JbF {P : Program} {w : World} {K : PySem.W.Frag} {tg : Expr} (it : Addr) (lo : Int) (n : Nat) : Turn P w K tg (Itr lo n) [it] it (fun i h=>IsRangeIter h it (lo + (i : Nat) * 1) ((n : Int) - (i : Nat)) 1) where
 mem:=by simp
 obj:=fun i h st b hb=>by
  have e : b = it:=by simpa using hb
  subst e
  exact ⟨_,st,fun v z=>by
   have z' : Data.fields _ = Data.cell v:=z
   cases z'⟩
 keep:=fun i h h' st k=>k it (by simp) _ st
 item:=by
  intro X hP hw hK hc i pins s σ H E I hf st hg
  subst hP hw hK
  obtain ⟨f0,f1,f2,f3,f4,f5⟩:=hf it (by simp)
  have W:=Walks.range (prog:=X.prog) (w:=X.w) (I.ok.hd hc) it lo 1 n
  refine W.item i s _ _ hg st fun v h' tk hv st' kk=>?_
  obtain ⟨t,rfl⟩:=hv
  have I1 : Inv X pins σ H { s with heap:=h',toks:=tk }:=I.turned (fun b o hb e=>kk b o (by simpa using hb) e) f0 f1 f3 f4 f5
  refine ⟨_,rfl,Jeb (s:={ s with heap:=h',toks:=tk }) (n:="range_iterator") st' rfl rfl (by decide) ⟨.int (lo + i),H,I1,⟨t,?_⟩,⟨rfl,rfl⟩,st',fun b hb=>(hf b hb).1⟩⟩
  rw [Int.mul_one]
 done:=by
  intro X hP hw hK hc i pins s σ H E I hf st hg
  subst hP hw hK
  obtain ⟨f0,f1,f2,f3,f4,f5⟩:=hf it (by simp)
  exact wpAny_pyNext_range_end (I.ok.hd hc) st (by have : n ≤ i:=hg; omega) fun h' eb=>⟨rfl,I.turned (t':=s.toks) (fun b o hb e=>eb b o hb e) f0 f1 f3 f4 f5⟩
 self:=fun _ _ _ _ _ st h=>wpAny_pyIter_rangeiter st h
end L2
namespace L2
open PySem PySem.Spec PyProof.Rows
section
variable {X : Cx} {tg : Expr}
noncomputable def JfM (K : PySem.W.Frag) (tl : TE) : TI:=fun σ H R=>tl σ H fun x H1=>∃ a,x = .ref a ∧ (∃ xs,SqL K H1 a xs) ∧ R (Itl K a) H1
theorem Jff {l : Expr} {tl : TE} (hl : PE X l tl) : PI X tg l (JfM X.K tl):=by
 intro pins s σ H R I h
 refine thn (hl pins s σ H _ I h) fun v s1 ⟨x,H1,I1,r1,q1⟩=>?_
 obtain ⟨a,e,⟨xs,hq⟩,q⟩:=q1
 subst e
 cases r1
 obtain ⟨its,rv,p,hz⟩:=I1.list hq
 refine wpAny_pyIter_list p.isList ?_
 refine ⟨s1.heap.objs.size,[s1.heap.objs.size],_,_,H1,rfl,I1.kept (t':=s1.toks) fun b o e=>Heap.get?_push_of_some _ e,Jd5 a _,⟨_,Heap.get?_push_size _ rfl,rfl,rfl⟩,fun b hb=>?_,q⟩
 have e : b = s1.heap.objs.size:=by simpa using hb
 subst e
 exact I1.fpOk (Nat.le_refl _) (I1.hok.fresh (Nat.le_refl _))
theorem JaK {pins : List (Addr × Obj)} {σ : St} {H : Hp} {s : Shared} {R : It → Hp → Prop} {E : Value → Shared → Prop} {lo hi : Int} {t u v : Tok} {tk : Nat} (I : Inv X pins σ H s) (h1 : -(2 ^ 62) ≤ lo) (h2 : lo < 2 ^ 62) (h3 : -(2 ^ 62) ≤ hi) (h4 : hi < 2 ^ 62)
  (q : R (Itr lo (hi - lo).toNat) H) : wpAny (model X.prog X.w) X.A (pyIter (.ref s.heap.objs.size)) (PIE X pins σ tg R) E { s with heap:=s.heap.push { cls:=.type "range",data:=.fields #[.int lo t,.int hi u,.int 1 v] },toks:=tk }:=by
 refine wpAny_pyIter_range (IsRange.new ..) (small_one h1 h2 h3 h4) ?_
 have I1 : Inv X pins σ H { s with heap:=s.heap.push { cls:=.type "range",data:=.fields #[.int lo t,.int hi u,.int 1 v] },toks:=tk }:=I.kept fun b o e=>Heap.get?_push_of_some _ e
 refine ⟨(s.heap.push { cls:=.type "range",data:=.fields #[.int lo t,.int hi u,.int 1 v] }).objs.size,[(s.heap.push { cls:=.type "range",data:=.fields #[.int lo t,.int hi u,.int 1 v] }).objs.size],_,_,H,rfl,
  I1.kept (t':=tk) fun b o e=>Heap.get?_push_of_some _ e,JbF _ lo (hi - lo).toNat,?_,fun b hb=>?_,q⟩
 ·have e1 : lo + ((0 : Nat) : Int) * 1 = lo:=by simp
  have e2 : (((hi - lo).toNat : Nat) : Int) - ((0 : Nat) : Int) = Builtin.Range.rangeSize lo hi 1:=by rw [rangeSize_one]; split <;> omega
  show IsRangeIter _ _ (lo + ((0 : Nat) : Int) * 1) ((((hi - lo).toNat : Nat) : Int) - ((0 : Nat) : Int)) 1
  rw [e1,e2]
  exact Heap.get?_push_size _ rfl
 ·have e : b = (s.heap.push { cls:=.type "range",data:=.fields #[.int lo t,.int hi u,.int 1 v] }).objs.size:=by simpa using hb
  subst e
  exact I1.fpOk (Nat.le_refl _) (I1.hok.fresh (Nat.le_refl _))
noncomputable def Jhd (ta : TA) : TI:=fun σ H R=>ta σ H fun vs H1=>∃ j : Int,vs = [.int j] ∧ -(2 ^ 62) ≤ j ∧ j < 2 ^ 62 ∧ R (Itr 0 j.toNat) H1
noncomputable def Jh2 (ta : TA) : TI:=fun σ H R=>ta σ H fun vs H1=>∃ i j : Int,vs = [.int i,.int j] ∧ (-(2 ^ 62) ≤ i ∧ i < 2 ^ 62 ∧ -(2 ^ 62) ≤ j ∧ j < 2 ^ 62) ∧ R (Itr i (j - i).toNat) H1
theorem J2q {a : Expr} {ta : TA} {p pos : Pos} (hg : Gl X "range") (hm : X.mg "range" = none) (ha : PA X [a] ta) (hs : starEach [a] X.env = [(false,eval a X.env)]:=by rfl) : PI X tg (.Call (.Name "range" p) [a] [] pos) (Jhd ta):=by
 intro pins s σ H R I h
 refine Call_ (J6h I hg hm boot_range (PyProof.Rows.callWith_type1 (thn (ha pos pins s σ H _ I h) fun us s1 ⟨vs,H1,I1,r1,q1⟩=>?_) hs rfl))
 obtain ⟨j,e,q1,q2,q⟩:=q1
 subst e
 cases r1 with
 | cons r rr =>
  cases rr
  obtain ⟨t,rfl⟩:=r
  exact call_range_1 (JaK I1 (by omega) (by omega) q1 q2 (by simpa using q))
theorem Jd0 {a b : Expr} {ta : TA} {p pos : Pos} (hg : Gl X "range") (hm : X.mg "range" = none) (ha : PA X [a,b] ta) (hs : starEach [a,b] X.env = [(false,eval a X.env),(false,eval b X.env)]:=by rfl) (hs2 : starEach [b] X.env = [(false,eval b X.env)]:=by rfl) :
  PI X tg (.Call (.Name "range" p) [a,b] [] pos) (Jh2 ta):=by
 intro pins s σ H R I h
 refine Call_ (J6h I hg hm boot_range (PyProof.Rows.callWith_type1 (thn (ha pos pins s σ H _ I h) fun us s1 ⟨vs,H1,I1,r1,q1⟩=>?_) (by rw [hs,hs2]) (by rw [hs2]; rfl)))
 obtain ⟨i,j,e,⟨q1,q2,q3,q4⟩,q⟩:=q1
 subst e
 cases r1 with
 | cons r rr =>
  cases rr with
  | cons r' rr =>
   cases rr
   obtain ⟨t,rfl⟩:=r
   obtain ⟨t',rfl⟩:=r'
   exact call_range_2 (JaK I1 q1 q2 q3 q4 q)
noncomputable def tFor (wi : TI) (g : TG) (tb : TS) : TS:=fun D σ H=>wi σ H fun J H1=>∃ W : Nat → Nat → St → Hp → Prop,(∃ m,W 0 m σ H1) ∧ ∀ i m σ H,W i m σ H →
 (J.stop i H ∧ D.nx σ H) ∨ (J.go i H ∧ ∃ N : St → Hp → Prop,(∀ σ' H',N σ' H' → ∃ m',m' < m ∧ W (i + 1) m' σ' H') ∧ ∀ x H',J.yld i H x H' → g x σ H' fun σ2 H2=>tb { D with nx:=N,ct:=N,bk:=D.nx } σ2 H2)
noncomputable def J6c (fp : List Addr) (h : Heap) : List (Addr × Obj):=fp.filterMap fun b=>(h.get? b).map fun o=>(b,o)
theorem J29 {fp : List Addr} {h : Heap} {b : Addr} {o : Obj} (hb : b ∈ fp) (e : h.get? b = some o) : (b,o) ∈ J6c fp h:=List.mem_filterMap.mpr ⟨b,hb,by rw [e]; rfl⟩
theorem JcG {fp : List Addr} {h : Heap} {p : Addr × Obj} (hp : p ∈ J6c fp h) : p.1 ∈ fp ∧ h.get? p.1 = some p.2:=by
 obtain ⟨b,hb,e⟩:=List.mem_filterMap.mp hp
 cases q : h.get? b with
 | none=>rw [q] at e; cases e
 | some o =>
  rw [q] at e
  have e' : (b,o) = p:=Option.some.inj e
  subst e'
  exact ⟨hb,q⟩
theorem Inv.pinned {pins : List (Addr × Obj)} {σ : St} {H : Hp} {s : Shared} {fp : List Addr} (I : Inv X pins σ H s) (hf : ∀ b ∈ fp,FpOk X pins H b) (ho : ∀ b ∈ fp,∃ o,s.heap.get? b = some o ∧ ∀ v,o.data ≠ .cell v) : Inv X (pins ++ J6c fp s.heap) σ H s :=
 I.pins_of fun p hp=>(List.mem_append.mp hp).elim (fun z=>I.pin p (List.mem_append_right _ z)) fun z=>by
  obtain ⟨hb,e⟩:=JcG z
  obtain ⟨f0,f1,f2,_⟩:=hf p.1 hb
  obtain ⟨o,e',d⟩:=ho p.1 hb
  rw [e] at e'; cases e'
  exact ⟨e,f0,f1,f2,d⟩
theorem Inv.unpinned {pins pl : List (Addr × Obj)} {σ : St} {H : Hp} {s : Shared} (I : Inv X (pins ++ pl) σ H s) : Inv X pins σ H s:=I.pins_of fun p hp=>I.pin p (List.mem_append_right _ (List.mem_append_left _ hp))
theorem J2J {iter : Expr} {body : List Stmt} {wi : TI} {g : TG} {tb : TS} {pos : Pos} (hp : PassesOwn (model X.prog X.w) X.A X.env X.xe) (hc : X.calm = true) (hi : PI X tg iter wi) (hg : PG X tg g) (hb : PSs X body tb)
  (hs : ∀ x,foldedSetIterable iter X.env x = pure x:=by intro _; rfl) : PS X (.For tg iter body [] pos) (tFor wi g tb):=by
 intro pins s σ H D I h
 refine wpAny_For (thn (hi pins s σ H _ I h) fun v s1 h1=>thn h1 fun itv s2 h2=>?_) hs
 obtain ⟨it,fp,tn,J,H2,e,I2,T,st2,f2,W,⟨m0,w0⟩,turn⟩:=h2
 subst e
 have stat : ∀ {H' : Hp},(∀ b ∈ fp,H' b = none) → ∀ b ∈ fp,FpOk X pins H' b:=fun hn b hb=>⟨hn b hb,(f2 b hb).2⟩
 refine codeAny_forLoop_any (fun n s'=>∃ i σ' H',Inv X pins σ' H' s' ∧ tn i s'.heap ∧ (∀ b ∈ fp,H' b = none) ∧ W i n σ' H') ?_ m0 ⟨0,σ,H2,I2,st2,fun b hb=>(f2 b hb).1,w0⟩
 rintro n s3 ⟨i,σ3,H3,I3,st3,fr3,w3⟩
 rcases turn i n σ3 H3 w3 with ⟨stop,qn⟩ | ⟨go,N,hN,step⟩
 ·refine wpAny_passesOwn hp (thn (T.done X rfl rfl rfl hc i pins s3 σ3 H3 X.xe I3 (stat fr3) st3 stop) fun r s4 ⟨hr,I4⟩=>?_)
  subst hr
  exact wpAny_execs_nil ⟨σ3,H3,I4,qn⟩
 ·refine wpAny_passesOwn hp (thn (T.item X rfl rfl rfl hc i pins s3 σ3 H3 X.xe I3 (stat fr3) st3 go) fun r s4 ⟨u,hr,h4⟩=>?_)
  subst hr
  refine wpAny_passesOwn hp (thn h4 fun _ s5 ⟨x,H5,I5,r5,y5,st5,fr5⟩=>?_)
  have I5':=I5.pinned (stat fr5) (T.obj _ _ st5)
  refine wpAny_passesOwn hp (thn (hg _ s5 σ3 H5 x u _ I5' r5 (step x H5 y5)) fun _ s6 ⟨σ6,H6,I6,q6⟩=>?_)
  refine wpAny_passesOwn hp (thn (hb _ s6 σ6 H6 _ I6 q6) fun f s7 q7=>?_)
  have again : ∀ {σ7 : St} {H7 : Hp},Inv X (pins ++ J6c fp s5.heap) σ7 H7 s7 → N σ7 H7 → ∃ m,m < n ∧ ∃ i σ' H',Inv X pins σ' H' s7 ∧ tn i s7.heap ∧ (∀ b ∈ fp,H' b = none) ∧ W i m σ' H':=fun {σ7 H7} I7 n7=>by
   obtain ⟨m',hm,w7⟩:=hN σ7 H7 n7
   refine ⟨m',hm,i + 1,σ7,H7,I7.unpinned,T.keep _ _ _ st5 fun b hb o e=>(I7.pin (b,o) (List.mem_append_right _ (List.mem_append_right _ (J29 hb e)))).1,fun b hb=>?_,w7⟩
   obtain ⟨o,e,d⟩:=T.obj _ _ st5 b hb
   exact (I7.pin (b,o) (List.mem_append_right _ (List.mem_append_right _ (J29 hb e)))).2.1
  cases f with
  | next=>obtain ⟨σ7,H7,I7,n7⟩:=q7; exact again I7 n7
  | cont=>obtain ⟨σ7,H7,I7,n7⟩:=q7; exact again I7 n7
  | brk=>obtain ⟨σ7,H7,I7,q7⟩:=q7; exact ⟨σ7,H7,I7.unpinned,q7⟩
  | ret v=>obtain ⟨x7,σ7,H7,I7,r7,q7⟩:=q7; exact ⟨x7,σ7,H7,I7.unpinned,r7,q7⟩
end
theorem J2I {K : PySem.W.Frag} {a : Addr} {xs : List V} {g : TG} {tb : TS} {D : Ends} {σ : St} {H : Hp} (Pv : Nat → St → Hp → Prop) (h0 : Pv 0 σ H) (hl : ∀ i σ H,i ≤ xs.length → Pv i σ H → SqL K H a xs)
  (hs : ∀ i x σ H,xs[i]? = some x → Pv i σ H → g x σ H fun σ2 H2=>tb { D with nx:=Pv (i + 1),ct:=Pv (i + 1),bk:=D.nx } σ2 H2) (hd : ∀ σ H,Pv xs.length σ H → D.nx σ H) :
  ∃ W : Nat → Nat → St → Hp → Prop,(∃ m,W 0 m σ H) ∧ ∀ i m σ H,W i m σ H →
   ((Itl K a).stop i H ∧ D.nx σ H) ∨ ((Itl K a).go i H ∧ ∃ N : St → Hp → Prop,(∀ σ' H',N σ' H' → ∃ m',m' < m ∧ W (i + 1) m' σ' H') ∧ ∀ x H',(Itl K a).yld i H x H' → g x σ H' fun σ2 H2=>tb { D with nx:=N,ct:=N,bk:=D.nx } σ2 H2):=by
 refine ⟨fun i m σ H=>m = xs.length - i ∧ i ≤ xs.length ∧ Pv i σ H,⟨xs.length,by simp,Nat.zero_le _,h0⟩,?_⟩
 rintro i m σ H ⟨rfl,hi,p⟩
 have q:=hl i σ H hi p
 by_cases hlt : i < xs.length
 ·refine .inr ⟨⟨xs,xs[i],q,by simp [hlt]⟩,Pv (i + 1),fun σ' H' p'=>⟨xs.length - (i + 1),by omega,rfl,hlt,p'⟩,fun x H' y=>?_⟩
  obtain ⟨e,y⟩:=y
  subst e
  exact hs i x σ _ (y xs q) p
 ·have e : i = xs.length:=by omega
  subst e
  exact .inl ⟨⟨xs,q,Nat.le_refl _⟩,hd σ H p⟩
theorem J4S {lo : Int} {n : Nat} {g : TG} {tb : TS} {D : Ends} {σ : St} {H : Hp} (Pv : Nat → St → Hp → Prop) (h0 : Pv 0 σ H)
  (hs : ∀ i σ H,i < n → Pv i σ H → g (.int (lo + i)) σ H fun σ2 H2=>tb { D with nx:=Pv (i + 1),ct:=Pv (i + 1),bk:=D.nx } σ2 H2) (hd : ∀ σ H,Pv n σ H → D.nx σ H) :
  ∃ W : Nat → Nat → St → Hp → Prop,(∃ m,W 0 m σ H) ∧ ∀ i m σ H,W i m σ H →
   ((Itr lo n).stop i H ∧ D.nx σ H) ∨ ((Itr lo n).go i H ∧ ∃ N : St → Hp → Prop,(∀ σ' H',N σ' H' → ∃ m',m' < m ∧ W (i + 1) m' σ' H') ∧ ∀ x H',(Itr lo n).yld i H x H' → g x σ H' fun σ2 H2=>tb { D with nx:=N,ct:=N,bk:=D.nx } σ2 H2):=by
 refine ⟨fun i m σ H=>m = n - i ∧ i ≤ n ∧ Pv i σ H,⟨n,by simp,Nat.zero_le _,h0⟩,?_⟩
 rintro i m σ H ⟨rfl,hi,p⟩
 by_cases hlt : i < n
 ·refine .inr ⟨hlt,Pv (i + 1),fun σ' H' p'=>⟨n - (i + 1),by omega,rfl,hlt,p'⟩,fun x H' y=>?_⟩
  obtain ⟨e,y⟩:=y
  subst e y
  exact hs i σ _ hlt p
 ·have e : i = n:=by omega
  subst e
  exact .inl ⟨Nat.le_refl _,hd σ H p⟩
end L2
namespace L2
open PySem PySem.Spec PyProof.Rows
noncomputable abbrev R2:=V → V → Hp → VK → Prop
noncomputable def OpR (X : Cx) (f : Value → Value → Sem Value) (r : R2) : Prop :=
 ∀ (pins : List (Addr × Obj)) (s : Shared) (σ : St) (H : Hp) (x y : V) (v u : Value) (Q : VK),Inv X pins σ H s → RelV x v → RelV y u → r x y H Q →
  wpAny (model X.prog X.w) X.A (f v u) (EP X pins σ Q) X.xe s
noncomputable def UnR (X : Cx) (f : Value → Sem Value) (r : V → Hp → VK → Prop) : Prop :=
 ∀ (pins : List (Addr × Obj)) (s : Shared) (σ : St) (H : Hp) (x : V) (v : Value) (Q : VK),Inv X pins σ H s → RelV x v → r x H Q →
  wpAny (model X.prog X.w) X.A (f v) (EP X pins σ Q) X.xe s
noncomputable def J21 (X : Cx) (f : Value) (r : List V → Hp → VK → Prop) : Prop :=
 ∀ (pins : List (Addr × Obj)) (s : Shared) (σ : St) (H : Hp) (xs : List V) (us : List Value) (Q : VK),Inv X pins σ H s → Vals xs us → r xs H Q →
  wpAny (model X.prog X.w) X.A (call f us) (EP X pins σ Q) X.xe s
noncomputable def TruR (X : Cx) (r : V → Hp → (Bool → Hp → Prop) → Prop) : Prop :=
 ∀ (pins : List (Addr × Obj)) (s : Shared) (σ : St) (H : Hp) (x : V) (v : Value) (Q : Bool → Hp → Prop),Inv X pins σ H s → RelV x v → r x H Q →
  wpAny (model X.prog X.w) X.A (truthy v) (TP X pins σ Q) X.xe s
noncomputable def tOp (r : R2) (ta tb : TE) : TE:=fun σ H Q=>ta σ H fun x H1=>tb σ H1 fun y H2=>r x y H2 Q
noncomputable def tUn (r : V → Hp → VK → Prop) (ta : TE) : TE:=fun σ H Q=>ta σ H fun x H1=>r x H1 Q
noncomputable def rI (C : Int → Int → Prop) (g : Int → Int → V) : R2:=fun x y H Q=>∃ i j,x = .int i ∧ y = .int j ∧ C i j ∧ Q (g i j) H
noncomputable def rI0 (g : Int → Int → V) : R2:=fun x y H Q=>∃ i j,x = .int i ∧ y = .int j ∧ Q (g i j) H
noncomputable def rU (g : Int → V) : V → Hp → VK → Prop:=fun x H Q=>∃ i,x = .int i ∧ Q (g i) H
section
variable {X : Cx} {a b c : Expr} {ta tb tc : TE} {pos : Pos}
theorem binT (ha : PE X a ta) (hb : PE X b tb) {pins : List (Addr × Obj)} {s : Shared} {σ : St} {H : Hp} {R : V → V → Hp → Prop} (I : Inv X pins σ H s)
  (h : ta σ H fun x H1=>tb σ H1 fun y H2=>R x y H2) {Q : Value → Shared → Prop} {f : Value → Value → Sem Value}
  (hf : ∀ v u s2 x y H2,Inv X pins σ H2 s2 → RelV x v → RelV y u → R x y H2 → wpAny (model X.prog X.w) X.A (f v u) Q X.xe s2) :
  wpAny (model X.prog X.w) X.A (eval a X.env) (fun v s₁=>wpAny (model X.prog X.w) X.A (eval b X.env) (fun u s₂=>wpAny (model X.prog X.w) X.A (f v u) Q X.xe s₂) X.xe s₁) X.xe s:=by
 refine thn (ha pins s σ H _ I h) fun v s1 ⟨x,H1,I1,r1,q1⟩=>?_
 refine thn (hb pins s1 σ H1 _ I1 q1) fun u s2 ⟨y,H2,I2,r2,q2⟩=>?_
 exact hf v u s2 x y H2 I2 r1 r2 q2
theorem Jf {op : Operator} {r : R2} (ho : OpR X (binaryOp op) r) (ha : PE X a ta) (hb : PE X b tb) : PE X (.BinOp a op b pos) (tOp r ta tb):=by
 intro pins s σ H Q I h
 exact wpAny_BinOp (binT ha hb I h fun v u s2 x y H2 I2 rx ry q=>ho pins s2 σ H2 x y v u Q I2 rx ry q)
theorem J6x {op : UnaryOp} {r : V → Hp → VK → Prop} (ho : UnR X (unaryOp op) r) (ha : PE X a ta) : PE X (.UnaryOp op a pos) (tUn r ta):=by
 intro pins s σ H Q I h
 exact UnaryOp_ (thn (ha pins s σ H _ I h) fun v s1 ⟨x,H1,I1,r1,q1⟩=>ho pins s1 σ H1 x v Q I1 r1 q1)
theorem opI {f : Value → Value → Sem Value} {C : Int → Int → Prop} {g : Int → Int → Int}
  (rule : ∀ (i j : Int) (t u : Tok) (s : Shared) (Q : Value → Shared → Prop) (E : Value → Shared → Prop),C i j → Q (.int (g i j) s.toks) { s with toks:=s.toks + 1 } → wpAny (model X.prog X.w) X.A (f (.int i t) (.int j u)) Q E s) :
  OpR X f (rI C fun i j=>.int (g i j)):=by
 intro pins s σ H x y v u Q I rx ry h
 obtain ⟨i,j,rfl,rfl,hc,q⟩:=h
 obtain ⟨t,rfl⟩:=rx
 obtain ⟨t',rfl⟩:=ry
 exact rule i j t t' s _ _ hc ⟨.int (g i j),H,I.tok _,⟨_,rfl⟩,q⟩
theorem opI0 {f : Value → Value → Sem Value} {g : Int → Int → Int}
  (rule : ∀ (i j : Int) (t u : Tok) (s : Shared) (Q : Value → Shared → Prop) (E : Value → Shared → Prop),Q (.int (g i j) s.toks) { s with toks:=s.toks + 1 } → wpAny (model X.prog X.w) X.A (f (.int i t) (.int j u)) Q E s) :
  OpR X f (rI0 fun i j=>.int (g i j)):=by
 intro pins s σ H x y v u Q I rx ry h
 obtain ⟨i,j,rfl,rfl,q⟩:=h
 obtain ⟨t,rfl⟩:=rx
 obtain ⟨t',rfl⟩:=ry
 exact rule i j t t' s _ _ ⟨.int (g i j),H,I.tok _,⟨_,rfl⟩,q⟩
theorem opB0 {f : Value → Value → Sem Value} {g : Int → Int → Bool}
  (rule : ∀ (i j : Int) (t u : Tok) (s : Shared) (Q : Value → Shared → Prop) (E : Value → Shared → Prop),Q (.bool (g i j)) s → wpAny (model X.prog X.w) X.A (f (.int i t) (.int j u)) Q E s) :
  OpR X f (rI0 fun i j=>.bl (g i j)):=by
 intro pins s σ H x y v u Q I rx ry h
 obtain ⟨i,j,rfl,rfl,q⟩:=h
 obtain ⟨t,rfl⟩:=rx
 obtain ⟨t',rfl⟩:=ry
 exact rule i j t t' s _ _ ⟨.bl (g i j),H,I,rfl,q⟩
noncomputable def CDiv (i j : Int) : Prop:=0 < j ∧ j < 1073741824
noncomputable def CPow (i j : Int) : Prop:=0 ≤ j ∧ j ≤ 1000000 ∧ i.natAbs < 2 ^ 64
noncomputable def CMul (i j : Int) : Prop:=(-(2 ^ 64) < i ∧ i < 2 ^ 64) ∨ (-(2 ^ 64) < j ∧ j < 2 ^ 64)
theorem CMul.ok {i j : Int} (h : CMul i j) : IntMulOk i j:=by
 rcases h with ⟨h1,h2⟩ | ⟨h1,h2⟩
 ·exact .of_left (intBits_le_64 h1 h2)
 ·exact .of_right (intBits_le_64 h1 h2)
theorem Jbu (k : Nat) : (0 : Int) ≤ 2 ^ k:=by
 rw [two_pow_cast]
 exact Int.natCast_nonneg _
theorem J0h : OpR X (binaryOp .Add) (rI0 fun i j=>.int (i + j)):=opI0 fun _ _ _ _ _ _ _ q=>add_int q
theorem Jg8 : OpR X (binaryOp .Sub) (rI0 fun i j=>.int (i - j)):=opI0 fun _ _ _ _ _ _ _ q=>sub_int q
theorem J5a : OpR X (binaryOp .Mult) (rI CMul fun i j=>.int (i * j)):=opI fun _ _ _ _ _ _ _ hc q=>mul_int q hc.ok
theorem JQ : OpR X (binaryOp .FloorDiv) (rI CDiv fun i j=>.int (i / j)):=opI fun i j _ _ _ _ _ hc q=>by
 have h1 : (0 : Int) < j:=hc.1
 have h2 : j < 1073741824:=hc.2
 exact floordiv_int (by omega) (by rw [Int.fdiv_eq_ediv_of_nonneg i (by omega)]; exact q) (.inl (PyProof.noPylong_small (by omega)))
theorem JI : OpR X (binaryOp .Mod) (rI (fun _ j=>0 < j) fun i j=>.int (i % j)):=opI fun i j _ _ _ _ _ hc q=>by
 have h1 : (0 : Int) < j:=hc
 exact mod_int' (by omega) (by rw [Int.fmod_eq_emod_of_nonneg i (by omega)]; exact q)
theorem Jgf : OpR X (binaryOp .Pow) (rI CPow fun i j=>.int (i ^ j.toNat)):=opI fun _ _ _ _ _ _ _ hc q=>pow_int_small hc.1 hc.2.1 hc.2.2 q
theorem Je2 : OpR X (binaryOp .RShift) (rI (fun _ j=>0 ≤ j) fun i j=>.int (i / 2 ^ j.toNat)):=opI fun i j _ _ _ _ _ hc q =>
 rshift_int hc (by rw [Int.fdiv_eq_ediv_of_nonneg i (Jbu _)]; exact q)
theorem JdT : OpR X (binaryOp .BitAnd) (rI0 fun i j=>.int (Builtin.bitAnd i j)):=opI0 fun _ _ _ _ _ _ _ q=>and_int q
theorem unI {f : Value → Sem Value} {g : Int → Int}
  (rule : ∀ (i : Int) (t : Tok) (s : Shared) (Q : Value → Shared → Prop) (E : Value → Shared → Prop),Q (.int (g i) s.toks) { s with toks:=s.toks + 1 } → wpAny (model X.prog X.w) X.A (f (.int i t)) Q E s) :
  UnR X f (rU fun i=>.int (g i)):=by
 intro pins s σ H x v Q I rx h
 obtain ⟨i,rfl,q⟩:=h
 obtain ⟨t,rfl⟩:=rx
 exact rule i t s _ _ ⟨.int (g i),H,I.tok _,⟨_,rfl⟩,q⟩
theorem J4A : UnR X (unaryOp .USub) (rU fun i=>.int (-i)):=unI fun _ _ _ _ _ q=>neg_int q
end
noncomputable def scal : V → V → Bool
 | .non,.non=>true | .non,.int _=>true | .int _,.non=>true | .non,.bl _=>true | .bl _,.non=>true | .non,.str _=>true | .str _,.non=>true
 | .int _,.int _=>true | .bl _,.bl _=>true | .str _,.str _=>true | .byt _,.byt _=>true
 | .int _,.str _=>true | .str _,.int _=>true | .bl _,.str _=>true | .str _,.bl _=>true
 | _,_=>false
noncomputable def rEq : R2:=fun x y H Q=>scal x y = true ∧ Q (.bl (decide (x = y))) H
noncomputable def rNe : R2:=fun x y H Q=>scal x y = true ∧ Q (.bl (!decide (x = y))) H
theorem Jcj {i j : Int} : decide (V.int i = V.int j) = (i == j):=by
 rw [Bool.eq_iff_iff]
 simp
theorem Jer {i j : Bool} : decide (V.bl i = V.bl j) = (i == j):=by
 rw [Bool.eq_iff_iff]
 simp
theorem Jc2 {i j : Str} : decide (V.str i = V.str j) = (i == j):=by
 rw [Bool.eq_iff_iff]
 simp
theorem Jci {i j : Array UInt8} : decide (V.byt i = V.byt j) = (i.toList == j.toList):=by
 rw [Bool.eq_iff_iff]
 cases i
 cases j
 simp
section
variable {X : Cx} {a b c : Expr} {ta tb tc : TE} {pos : Pos}
theorem JY {pins : List (Addr × Obj)} {σ : St} {H : Hp} {s : Shared} {Q : VK} {k k' : Bool} (I : Inv X pins σ H s) (q : Q (.bl k) H) (e : k = k') : EP X pins σ Q (.bool k') s:=by
 subst e
 exact ⟨.bl k,H,I,rfl,q⟩
theorem JO : OpR X (compareOp .Eq) rEq:=by
 intro pins s σ H x y v u Q I rx ry h
 obtain ⟨hs,q⟩:=h
 cases x with
 | non =>
  cases rx
  cases y with
  | non=>cases ry; exact PySem.EqNone.eq_none_none (JY I q (by simp))
  | bl j=>cases ry; exact PySem.EqNone.eq_none_bool (JY I q (by simp))
  | int j=>obtain ⟨t',rfl⟩:=ry; exact PySem.EqNone.eq_none_int (JY I q (by simp))
  | str j=>obtain ⟨t',rfl⟩:=ry; exact PySem.EqNone.eq_none_str (JY I q (by simp))
  | _=>exact absurd (show false = true from hs) Bool.false_ne_true
 | bl i =>
  cases rx
  cases y with
  | non=>cases ry; exact PySem.EqNone.eq_bool_none (JY I q (by simp))
  | bl j=>cases ry; exact eq_bool (JY I q Jer)
  | str j=>obtain ⟨t',rfl⟩:=ry; exact PySem.EqMixed.eq_bool_str (JY I q (by simp))
  | _=>exact absurd (show false = true from hs) Bool.false_ne_true
 | int i =>
  obtain ⟨t,rfl⟩:=rx
  cases y with
  | non=>cases ry; exact PySem.EqNone.eq_int_none (JY I q (by simp))
  | int j=>obtain ⟨t',rfl⟩:=ry; exact eq_int (JY I q Jcj)
  | str j=>obtain ⟨t',rfl⟩:=ry; exact PySem.EqMixed.eq_int_str (JY I q (by simp))
  | _=>exact absurd (show false = true from hs) Bool.false_ne_true
 | str i =>
  obtain ⟨t,rfl⟩:=rx
  cases y with
  | non=>cases ry; exact PySem.EqNone.eq_str_none (JY I q (by simp))
  | bl j=>cases ry; exact PySem.EqMixed.eq_str_bool (JY I q (by simp))
  | int j=>obtain ⟨t',rfl⟩:=ry; exact PySem.EqMixed.eq_str_int (JY I q (by simp))
  | str j=>obtain ⟨t',rfl⟩:=ry; exact eq_str (JY I q Jc2)
  | _=>exact absurd (show false = true from hs) Bool.false_ne_true
 | byt i =>
  obtain ⟨t,rfl⟩:=rx
  cases y with
  | byt j=>obtain ⟨t',rfl⟩:=ry; exact PySem.W.eq_bytes (JY I q Jci)
  | _=>exact absurd (show false = true from hs) Bool.false_ne_true
 | _=>cases y <;> exact absurd (show false = true from hs) Bool.false_ne_true
theorem J3O : OpR X (compareOp .NotEq) rNe:=by
 intro pins s σ H x y v u Q I rx ry h
 obtain ⟨hs,q⟩:=h
 cases x with
 | non =>
  cases rx
  cases y with
  | non=>cases ry; exact PySem.EqNone.ne_none_none (JY I q (by simp))
  | bl j=>cases ry; exact PySem.EqNone.ne_none_bool (JY I q (by simp))
  | int j=>obtain ⟨t',rfl⟩:=ry; exact PySem.EqNone.ne_none_int (JY I q (by simp))
  | str j=>obtain ⟨t',rfl⟩:=ry; exact PySem.EqNone.ne_none_str (JY I q (by simp))
  | _=>exact absurd (show false = true from hs) Bool.false_ne_true
 | bl i =>
  cases rx
  cases y with
  | non=>cases ry; exact PySem.EqNone.ne_bool_none (JY I q (by simp))
  | bl j=>cases ry; exact ne_bool (JY I q (congrArg not Jer))
  | str j=>obtain ⟨t',rfl⟩:=ry; exact PySem.EqMixed.ne_bool_str (JY I q (by simp))
  | _=>exact absurd (show false = true from hs) Bool.false_ne_true
 | int i =>
  obtain ⟨t,rfl⟩:=rx
  cases y with
  | non=>cases ry; exact PySem.EqNone.ne_int_none (JY I q (by simp))
  | int j=>obtain ⟨t',rfl⟩:=ry; exact ne_int (JY I q (congrArg not Jcj))
  | str j=>obtain ⟨t',rfl⟩:=ry; exact PySem.EqMixed.ne_int_str (JY I q (by simp))
  | _=>exact absurd (show false = true from hs) Bool.false_ne_true
 | str i =>
  obtain ⟨t,rfl⟩:=rx
  cases y with
  | non=>cases ry; exact PySem.EqNone.ne_str_none (JY I q (by simp))
  | bl j=>cases ry; exact PySem.EqMixed.ne_str_bool (JY I q (by simp))
  | int j=>obtain ⟨t',rfl⟩:=ry; exact PySem.EqMixed.ne_str_int (JY I q (by simp))
  | str j=>obtain ⟨t',rfl⟩:=ry; exact ne_str (JY I q (congrArg not Jc2))
  | _=>exact absurd (show false = true from hs) Bool.false_ne_true
 | byt i =>
  obtain ⟨t,rfl⟩:=rx
  cases y with
  | byt j=>obtain ⟨t',rfl⟩:=ry; exact PySem.W.ne_bytes (JY I q (congrArg not Jci))
  | _=>exact absurd (show false = true from hs) Bool.false_ne_true
 | _=>cases y <;> exact absurd (show false = true from hs) Bool.false_ne_true
theorem J7K : OpR X (compareOp .Lt) (rI0 fun i j=>.bl (decide (i < j))):=opB0 fun _ _ _ _ _ _ _ q=>lt_int q
theorem J2N : OpR X (compareOp .LtE) (rI0 fun i j=>.bl (decide (i ≤ j))):=opB0 fun _ _ _ _ _ _ _ q=>le_int q
theorem J7G : OpR X (compareOp .Gt) (rI0 fun i j=>.bl (decide (j < i))):=opB0 fun _ _ _ _ _ _ _ q=>gt_int q
theorem Jeu : OpR X (compareOp .GtE) (rI0 fun i j=>.bl (decide (j ≤ i))):=opB0 fun _ _ _ _ _ _ _ q=>ge_int q
theorem JcM : OpR X (compareOp .In) (fun x y H Q=>∃ i j,x = .str i ∧ y = .str j ∧ Q (.bl (!(Builtin.Str.occurrences j i 0 j.length 1).isEmpty)) H):=by
 intro pins s σ H x y v u Q I rx ry h
 obtain ⟨i,j,rfl,rfl,q⟩:=h
 obtain ⟨t,rfl⟩:=rx
 obtain ⟨t',rfl⟩:=ry
 exact in_str (JY I q rfl)
theorem Js (b : Expr) {op : CmpOp} (h : op ≠ .In:=by decide) (h2 : op ≠ .NotIn:=by decide) : behindInMarks op b = false:=by
 have e1 : (op == CmpOp.In) = false:=by cases op <;> first | rfl | exact absurd rfl h
 have e2 : (op == CmpOp.NotIn) = false:=by cases op <;> first | rfl | exact absurd rfl h2
 cases b <;> simp [behindInMarks,e1,e2]
theorem J0v {op : CmpOp} {r : R2} (ho : OpR X (compareOp op) r) (ha : PE X a ta) (hb : PE X b tb) (hm : behindInMarks op b = false) : PE X (.Compare a [op] [b] pos) (tOp r ta tb):=by
 intro pins s σ H Q I h
 exact wpAny_Compare1 (binT ha hb I h fun v u s2 x y H2 I2 rx ry q=>ho pins s2 σ H2 x y v u Q I2 rx ry q) hm
noncomputable def Jei (t : TE) : TT:=fun σ H Q=>t σ H fun x H'=>∃ k,x = .bl k ∧ Q k H'
theorem Jp {op : CmpOp} {r : R2} (ho : OpR X (compareOp op) r) (ha : PE X a ta) (hb : PE X b tb) (hm : behindInMarks op b = false) : PT X (.Compare a [op] [b] pos) (Jei (tOp r ta tb)):=by
 intro pins s σ H Q I h
 refine wpAny_isTrue_Compare1 (thn (ha pins s σ H _ I h) fun v s1 ⟨x,H1,I1,r1,q1⟩=>thn (hb pins s1 σ H1 _ I1 q1) fun u s2 ⟨y,H2,I2,r2,q2⟩ =>
  thn (ho pins s2 σ H2 x y v u _ I2 r1 r2 q2) fun c s3 ⟨z,H3,I3,r3,k,e,q3⟩=>?_) hm
 subst e
 cases r3
 exact wpAny_truthy_bool ⟨H3,I3,q3⟩
noncomputable def JeM (r r' : R2) (ta tb tc : TE) : TE:=fun σ H Q=>ta σ H fun x H1=>tb σ H1 fun y H2=>r x y H2 fun z H3=>∃ k,z = .bl k ∧
 (if k = true then tc σ H3 fun w' H4=>r' y w' H4 Q else Q (.bl false) H3)
theorem J4C {op op' : CmpOp} {r r' : R2} (ho : OpR X (compareOp op) r) (ho' : OpR X (compareOp op') r') (ha : PE X a ta) (hb : PE X b tb) (hc : PE X c tc)
  (hm : lastMarks [op,op'] [b,c] = false:=by with_unfolding_all rfl) : PE X (.Compare a [op,op'] [b,c] pos) (JeM r r' ta tb tc):=by
 intro pins s σ H Q I h
 refine Compare_chain (thn (ha pins s σ H _ I h) fun v s1 ⟨x,H1,I1,r1,q1⟩=>chain_link (thn (hb pins s1 σ H1 _ I1 q1) fun u s2 ⟨y,H2,I2,r2,q2⟩ =>
  thn (ho pins s2 σ H2 x y v u _ I2 r1 r2 q2) fun d s3 ⟨z,H3,I3,r3,k,e,q3⟩=>?_)) hm
 subst e
 cases r3
 refine wpAny_truthy_bool ?_
 cases k with
 | false=>exact ite_ff ⟨.bl false,H3,I3,rfl,q3⟩
 | true=>exact ite_tt (chain_last (thn (hc pins s3 σ H3 _ I3 q3) fun w' s4 ⟨z',H4,I4,r4,q4⟩=>ho' pins s4 σ H4 y z' u w' Q I4 r2 r4 q4))
theorem J7I {op op' : CmpOp} {r r' : R2} (ho : OpR X (compareOp op) r) (ho' : OpR X (compareOp op') r') (ha : PE X a ta) (hb : PE X b tb) (hc : PE X c tc)
  (hm : lastMarks [op,op'] [b,c] = false:=by with_unfolding_all rfl) : PT X (.Compare a [op,op'] [b,c] pos) (Jei (JeM r r' ta tb tc)):=by
 intro pins s σ H Q I h
 refine isTrue_chain (thn (ha pins s σ H _ I h) fun v s1 ⟨x,H1,I1,r1,q1⟩=>test_link (thn (hb pins s1 σ H1 _ I1 q1) fun u s2 ⟨y,H2,I2,r2,q2⟩ =>
  thn (ho pins s2 σ H2 x y v u _ I2 r1 r2 q2) fun d s3 ⟨z,H3,I3,r3,k,e,q3⟩=>?_)) hm
 subst e
 cases r3
 refine wpAny_truthy_bool ?_
 cases k with
 | false =>
  obtain ⟨k',e',q'⟩:=q3
  cases e'
  exact ite_ff ⟨H3,I3,q'⟩
 | true =>
  refine ite_tt (test_last (thn (hc pins s3 σ H3 _ I3 q3) fun w' s4 ⟨z',H4,I4,r4,q4⟩=>thn (ho' pins s4 σ H4 y z' u w' _ I4 r2 r4 q4) fun d' s5 ⟨z2,H5,I5,r5,k2,e2,q5⟩=>?_))
  subst e2
  cases r5
  exact wpAny_truthy_bool ⟨H5,I5,q5⟩
noncomputable def TruV (K : PySem.W.Frag) (x : V) (H : Hp) (k : Bool) : Prop :=
 match x with
 | .non=>k = false
 | .bl b=>k = b
 | .int i=>k = (i != 0)
 | .str y=>y.length ≤ sizeLine ∧ k = ((y.length : Int) != 0)
 | .byt y=>y.size ≤ sizeLine ∧ k = ((y.size : Int) != 0)
 | .ref p=>(∃ xs,SqL K H p xs ∧ k = !xs.isEmpty) ∨ (∃ xs,SqT K H p xs ∧ k = !xs.isEmpty) ∨ ∃ kvs,H p = some (.dK kvs) ∧ k = !kvs.isEmpty
 | _=>False
theorem JbK {κ : Type} {kvs : List (κ × V)} {vs : List (κ × Value)} (r : KV kvs vs) : (!vs.isEmpty) = !kvs.isEmpty:=by
 cases r <;> rfl
theorem J7x {xs : List V} {its : List Value} (r : Vals xs its) : (!its.toArray.isEmpty) = !xs.isEmpty:=by
 cases r <;> simp
theorem J6b : (sizeLine : Nat) < 2 ^ 63:=by rw [sizeLine_eq]; decide
theorem JgM : TruR X (fun x H Q=>∃ k,TruV X.K x H k ∧ Q k H):=by
 intro pins s σ H x v Q I rx h
 obtain ⟨k,e,q⟩:=h
 have hl:=J6b
 have hs : sizeLine = 16777216:=sizeLine_eq
 cases x with
 | non =>
  cases rx
  have e' : k = false:=e
  subst e'
  exact truthy_none ⟨H,I,q⟩
 | bl b =>
  cases rx
  have e' : k = b:=e
  subst e'
  exact wpAny_truthy_bool ⟨H,I,q⟩
 | int i =>
  obtain ⟨t,rfl⟩:=rx
  have e' : k = (i != 0):=e
  subst e'
  exact PySem.P.truthy_int ⟨H,I,q⟩
 | str y =>
  obtain ⟨t,rfl⟩:=rx
  obtain ⟨hy,e'⟩ : y.length ≤ sizeLine ∧ k = ((y.length : Int) != 0):=e
  subst e'
  exact PySem.P.truthy_str (by omega) ⟨H,I.tok _,q⟩
 | byt y =>
  obtain ⟨t,rfl⟩:=rx
  obtain ⟨hy,e'⟩ : y.size ≤ sizeLine ∧ k = ((y.size : Int) != 0):=e
  subst e'
  exact PySem.W.truthy_bytes (by omega) ⟨H,I.tok _,q⟩
 | ref p =>
  cases rx
  have e' : (∃ xs,SqL X.K H p xs ∧ k = !xs.isEmpty) ∨ (∃ xs,SqT X.K H p xs ∧ k = !xs.isEmpty) ∨ ∃ kvs,H p = some (.dK kvs) ∧ k = !kvs.isEmpty:=e
  rcases e' with ⟨xs,hx,e'⟩ | ⟨xs,hx,e'⟩ | ⟨kvs,hx,e'⟩
  ·subst e'
   obtain ⟨its,r,pl,hz⟩:=I.list hx
   have hlen:=r.length
   exact wpAny_truthy_list pl.isList (by simp only [List.size_toArray]; omega) ⟨H,I.tok _,by rw [J7x r]; exact q⟩
  ·subst e'
   obtain ⟨its,r,pl,hz⟩:=I.tuple hx
   have hlen:=r.length
   exact truthy_tuple pl (by simp only [List.size_toArray]; omega) ⟨H,I.tok _,by rw [J7x r]; exact q⟩
  ·subst e'
   obtain ⟨hz,hS,vs,r,m⟩ : kvs.length ≤ sizeLine ∧ (p == sysModules) = false ∧ ∃ vs,KV kvs vs ∧ s.heap.DictOf (J9F X.prog X.w) p vs:=I.hok p _ hx
   have hlen : kvs.length = vs.length:=Paired.length r
   exact wpAny_truthy_dict hS m (by omega) ⟨H,I.tok _,by rw [JbK r]; exact q⟩
 | _=>exact (show False from e).elim
theorem Jef (ha : PE X a ta) (he : ∀ whole,isTrue a X.env whole = (do let v ← whole; standAt a.pos; holding [v] (truthy v))) :
  PT X a (fun σ H Q=>ta σ H fun x H'=>∃ k,TruV X.K x H' k ∧ Q k H'):=by
 intro pins s σ H Q I h
 exact isTrue_plain (thn (ha pins s σ H _ I h) fun v s1 ⟨x,H1,I1,r1,q1⟩=>JgM pins s1 σ H1 x v Q I1 r1 q1) (he _)
theorem Jbv : OpR X (binaryOp .Add) (fun x y H Q=>∃ i j,x = .str i ∧ y = .str j ∧ i.length + j.length ≤ sizeLine ∧ Q (.str (i ++ j)) H):=by
 intro pins s σ H x y v u Q I rx ry h
 obtain ⟨i,j,rfl,rfl,hz,q⟩:=h
 obtain ⟨t,rfl⟩:=rx
 obtain ⟨t',rfl⟩:=ry
 exact add_str (fun t' tk=>⟨.str (i ++ j),H,I.tok _,⟨_,rfl⟩,q⟩) hz
theorem Jc1 {x : V} {us : List Value} (r : Vals [x] us) : ∃ u,us = [u] ∧ RelV x u:=by
 cases r with
 | cons r1 r2=>cases r2; exact ⟨_,rfl,r1⟩
theorem J5F : J21 X (.type "str") (fun xs H Q=>∃ i,xs = [.int i] ∧ i.natAbs.log2 < 1920 ∧ Q (.str (toString i)) H):=by
 intro pins s σ H xs us Q I r h
 obtain ⟨i,rfl,hz,q⟩:=h
 obtain ⟨u,rfl,t,rfl⟩:=Jc1 r
 exact PySem.P.str_of_int hz ⟨.str _,H,I.tok _,⟨_,rfl⟩,q⟩
end
end L2
namespace L2
open PySem PySem.Spec PyProof.Rows
structure ObjM (h : Heap) (x dx C : Addr) (mA : Str → Option Value) : Prop where
 obj : h.get? x = some (PySem.W.instObj C dx)
 ns : h.Ns1 dx mA
 ne : dx ≠ x
theorem JcJ {h : Heap} {dx : Addr} {mA : Str → Option Value} (n : h.Ns1 dx mA) : ∃ od,h.get? dx = some od ∧ ∀ name,PySem.W.lookIn name od = some (mA name):=by
 obtain ⟨o,es,ep,ho,hd,hk,_,hm⟩:=n
 refine ⟨o,ho,fun name=>?_⟩
 have e:=hm name
 unfold nsFind findBy at e
 rw [← Array.find?_toList] at e
 unfold PySem.W.lookIn
 rw [hd]
 dsimp only
 split
 ·rename_i y q
  rw [q] at e
  exact congrArg some e
 ·rename_i q
  rw [q] at e
  have a : es.toList.any (·.refKey) = false:=by
   rw [List.any_eq_false]
   intro y hy
   obtain ⟨z,t,hkey⟩:=hk y (Array.mem_toList_iff.mp hy)
   simp [DictEntry.refKey,hkey]
  have a' : ¬ es.toList.any (·.refKey) = true:=by rw [a]; exact Bool.false_ne_true
  rw [if_neg a']
  exact congrArg some e
theorem ObjM.look {h : Heap} {x dx C : Addr} {mA : Str → Option Value} (I : ObjM h x dx C mA) : ∃ od,PySem.W.InstAt h x (PySem.W.instObj C dx) C (some od) ∧ ∀ name,PySem.W.lookIn name od = some (mA name) :=
 let ⟨od,ho,hl⟩:=JcJ I.ns
 ⟨od,⟨I.obj,rfl,rfl,ho⟩,hl⟩
section
variable {prog : Program} {w : World} {A : Around} {E : Value → Shared → Prop} {s : Shared} {K : PySem.W.Frag} {x dx C f : Addr} {mA : Str → Option Value} {name : Str} {v : Value}
theorem Jfb {expr : Bool} {Q : Value → Shared → Prop} (X : K.In s.heap) (I : ObjM s.heap x dx C mA) (hg : PySem.W.plainGet K C name = true) (hh : PySem.W.hasDictIn K C = true)
  (ha : PySem.W.findIn K (.ref C) name = some none) (hv : mA name = some v) (hv' : PySem.W.handedIn v = true) (h : Q v { s with toks:=s.toks + 1 }) :
  wpAny (model prog w) A (getAttr (.ref x) name expr) Q E s:=by
 obtain ⟨od,J,hl⟩:=I.look
 exact PySem.W.get_value X J (PySem.W.plainGet_of hg).1 (PySem.W.findObj_own hh ha rfl (by rw [hl,hv])) hv' h
theorem JdA {pl : Sem Bool} {Q : Value × List Value → Shared → Prop} (X : K.In s.heap) (I : ObjM s.heap x dx C mA) (hg : PySem.W.plainGet K C name = true)
  (hf : PySem.W.findIn K (.ref C) name = some (some (.ref f))) (ht : PySem.W.isFn K (.ref f) = true) (hv : mA name = none) (h : Q (.ref f,[.ref x]) s) :
  wpAny (model prog w) A (getMethod (.ref x) name pl) Q E s:=by
 obtain ⟨od,J,hl⟩:=I.look
 exact PySem.W.method_fn X J (PySem.W.plainGet_of hg).1 (PySem.W.plainGet_of hg).2 hf (beq_iff_eq.mp ht) (by show (PySem.W.lookIn name od).map (·.isSome) = some false; rw [hl,hv]; rfl) h
theorem Jfu {ns : List Str} {Q : Unit → Shared → Prop} (X : K.In s.heap) (I : ObjM s.heap x dx C mA)
  (hs : PySem.W.findIn K (.ref C) "__setattr__" = some (some (.builtin "object.__setattr__"))) (hp : PySem.W.plainOver K C = true) (ht : PySem.W.takerIn K C name = some none) (hh : PySem.W.hasDictIn K C = true)
  (hw : PySem.Within mA ns) (hsz : ns.length ≤ sizeLine)
  (h : ∀ h',ObjM h' x dx C (fun y=>if y = name then some v else mA y) → Heap.SameBut dx s.heap h' → Q () { s with heap:=h',toks:=s.toks + 2 }) :
  wpAny (model prog w) A (setAttr (.ref x) name v) Q E s:=by
 obtain ⟨od,J,hl⟩:=I.look
 refine PySem.W.set_plain X J hs (PySem.W.osa_open (s:={ s with toks:=s.toks + 1 }) (r:=none) X J hp ht fun b=>?_)
 obtain ⟨cd,hc,hd'⟩:=PySem.W.any_some hh
 have hx : s.heap.get? x = some ⟨.ref C,some dx,.plain,#[]⟩:=I.obj
 refine wpAny_bind (wpAny_pure (wpAny_bind (wpAny_bind (wpAny_loadPart hx (wpAny_bind (PySem.W.Looks.here (s:={ s with toks:=s.toks + 1 }) (PySem.W.looks_clsIn X hc) ?_))))))
 rw [hd']
 refine wpAny_pure (a:=some dx) (wpAny_bind (wpAny_pure (wpAny_bind ?_)))
 refine wpAny_nsSet1 (s:={ s with toks:=s.toks + 1 }) I.ns fun h' hn2 hs2=>?_
 obtain ⟨oD,esD,epD,hoD,hdD,hcD⟩:=hn2.count (PySem.Within.cons name v hw)
 refine wpAny_bind (wpAny_lookBehind hoD (by rw [hdD]; exact pastItsLine_dict (Nat.le_trans hcD (by rw [List.length_cons]; omega))) ?_)
 exact wpAny_pure (h _ ⟨(hs2.2 _ (Ne.symm I.ne)).trans I.obj,hn2,I.ne⟩ hs2)
theorem JdB {R : Result → Shared → Prop} {vs : List Value} {kw : List (Str × Value)} (X : K.In s.heap) (hm : PySem.W.makesIn K C = true)
  (hi : PySem.W.findIn K (.ref C) "__init__" = some (some (.ref f))) (hf : PySem.W.typeIn K (.ref f) = some (.type "function"))
  (h : codeAny (model prog w) (A.under (.builtin "type.__call__" ⟨.ref C :: vs,kw⟩)) (.call (.ref f) ⟨.ref (s.heap.objs.size + 1) :: vs,kw⟩) (PySem.W.InitBack (s.heap.objs.size + 1) R)
   {s with heap:=(s.heap.push PySem.W.emptyDict).push (PySem.W.instObj C s.heap.objs.size) }) :
  codeAny (model prog w) A (.call (.ref C) ⟨vs,kw⟩) R s:=by
 obtain ⟨hh,g,d,t,os⟩:=s
 exact PySem.W.make_core (PySem.W.makes_of X hm) (PySem.W.looks_findIn X hi) (fun self=>PySem.W.bind_fn X self hf) (.inl rfl) h
end
noncomputable def putF (f : Str) (v : V) : List (Str × V) → List (Str × V)
 | []=>[(f,v)]
 | (g,x) :: r=>if g = f then (g,v) :: r else (g,x) :: putF f v r
theorem J6s (f g : Str) (v : V) : ∀ fs : List (Str × V),(putF f v fs).lookup g = if g = f then some v else fs.lookup g
 | []=>by
  show List.lookup g [(f,v)] = _
  by_cases h : g = f
  ·have hb : (g == f) = true:=beq_iff_eq.mpr h
   simp only [List.lookup,hb,if_pos h]
  ·have hb : (g == f) = false:=beq_eq_false_iff_ne.mpr h
   simp only [List.lookup,hb,if_neg h]
 | (k,x) :: r=>by
  have ih:=J6s f g v r
  rw [show putF f v ((k,x) :: r) = (if k = f then (k,v) :: r else (k,x) :: putF f v r) from rfl]
  by_cases hk : k = f
  ·rw [if_pos hk]
   by_cases h : g = k
   ·have hb : (g == k) = true:=beq_iff_eq.mpr h
    simp only [List.lookup,hb,if_pos (h.trans hk)]
   ·have hb : (g == k) = false:=beq_eq_false_iff_ne.mpr h
    simp only [List.lookup,hb,if_neg (fun e : g = f=>h (e.trans hk.symm))]
  ·rw [if_neg hk]
   by_cases h : g = k
   ·have hb : (g == k) = true:=beq_iff_eq.mpr h
    simp only [List.lookup,hb,if_neg (fun e : g = f=>hk (h.symm.trans e))]
   ·have hb : (g == k) = false:=beq_eq_false_iff_ne.mpr h
    simp only [List.lookup,hb]
    exact ih
theorem J6g (f : Str) (v : V) : ∀ fs : List (Str × V),f ∈ (putF f v fs).map (·.1) ∧ ∀ g,g ∈ fs.map (·.1) → g ∈ (putF f v fs).map (·.1)
 | []=>⟨by simp [putF],fun g h=>by simp at h⟩
 | (k,x) :: r=>by
  obtain ⟨i1,i2⟩:=J6g f v r
  rw [show putF f v ((k,x) :: r) = (if k = f then (k,v) :: r else (k,x) :: putF f v r) from rfl]
  by_cases hk : k = f
  ·rw [if_pos hk]
   subst hk
   exact ⟨by simp,fun g h=>by simpa using h⟩
  ·rw [if_neg hk]
   refine ⟨?_,fun g h=>?_⟩
   ·rw [List.map_cons]
    exact List.mem_cons_of_mem _ i1
   ·rw [List.map_cons] at h ⊢
    rcases List.mem_cons.mp h with e | e
    ·exact List.mem_cons.mpr (.inl e)
    ·exact List.mem_cons_of_mem _ (i2 g e)
theorem J2u (f : Str) (v : V) : ∀ fs : List (Str × V),(putF f v fs).length ≤ fs.length + 1
 | []=>by simp [putF]
 | (k,x) :: r=>by
  have ih:=J2u f v r
  rw [show putF f v ((k,x) :: r) = (if k = f then (k,v) :: r else (k,x) :: putF f v r) from rfl]
  by_cases hk : k = f
  ·rw [if_pos hk,List.length_cons,List.length_cons]; omega
  ·rw [if_neg hk,List.length_cons,List.length_cons]; omega
theorem RelO.some_of {v : V} {o : Option Value} (r : RelO (some v) o) : ∃ u,o = some u ∧ RelV v u:=by
 cases o with
 | none=>exact (show False from r).elim
 | some u=>exact ⟨u,rfl,r⟩
theorem RelO.none_of {o : Option Value} (r : RelO none o) : o = none:=by
 cases o with
 | none=>rfl
 | some u=>exact (show False from r).elim
theorem Jd8 {v : V} {u : Value} (r : RelV v u) : PySem.W.handedIn u = true:=by
 cases v with
 | non=>cases (show u = Value.none from r); rfl
 | bl b=>cases (show u = Value.bool b from r); rfl
 | int i=>obtain ⟨t,e⟩:=(show ∃ t,u = Value.int i t from r); cases e; rfl
 | str x=>obtain ⟨t,e⟩:=(show ∃ t,u = Value.str x t from r); cases e; rfl
 | byt b=>obtain ⟨t,e⟩:=(show ∃ t,u = Value.bytes b t from r); cases e; rfl
 | flt b=>obtain ⟨t,e⟩:=(show ∃ t,u = Value.float b t from r); cases e; rfl
 | ref a=>cases (show u = Value.ref a from r); rfl
 | ty n=>cases (show u = Value.type n from r); rfl
section
variable {P : Program} {w : World} {H H' : Hp} {h h' : Heap} {a C dx : Addr} {fs fs' : List (Str × V)}
theorem J6O (hok : HOk P w H h) (e : H a = some (.ins C dx fs)) : ∃ mA,ObjM h a dx C mA ∧ (∀ f,RelO (fs.lookup f) (mA f)) ∧ PySem.Within mA (fs.map (·.1)) ∧ fs.length ≤ 1000 ∧ H dx = some (.own a):=by
 obtain ⟨d,z,ne,ob,mA,n,r,q⟩:=(show J2t P w H h a (.ins C dx fs) from hok a _ e)
 exact ⟨mA,⟨ob,n,ne⟩,r,q,z,d⟩
end
structure Cls (K : PySem.W.Frag) (C : Addr) : Prop where
 pg : PySem.W.plainGet K C Str.empty = true
 hd : PySem.W.hasDictIn K C = true
 po : PySem.W.plainOver K C = true
 sa : PySem.W.findIn K (.ref C) "__setattr__" = some (some (.builtin "object.__setattr__"))
theorem Cls.get {K : PySem.W.Frag} {C : Addr} (c : Cls K C) (f : Str) : PySem.W.plainGet K C f = true:=c.pg
noncomputable def JX (K : PySem.W.Frag) (C : Addr) (f : Str) : Prop:=PySem.W.findIn K (.ref C) f = some none
theorem JX.taker {K : PySem.W.Frag} {C : Addr} {f : Str} (n : JX K C f) : PySem.W.takerIn K C f = some none:=by
 unfold PySem.W.takerIn
 rw [show PySem.W.findIn K (.ref C) f = some none from n]
 rfl
structure Meth (K : PySem.W.Frag) (C : Addr) (m : Str) (f : Addr) : Prop where
 at_ : PySem.W.findIn K (.ref C) m = some (some (.ref f))
 fn : PySem.W.isFn K (.ref f) = true
 kp : PySem.W.keepIn K (.ref f) = true
section
variable {X : Cx} {pins : List (Addr × Obj)} {σ : St} {H : Hp} {s : Shared} {a C dx : Addr} {fs : List (Str × V)} {f : Str} {v : V} {A : Around} {E : Value → Shared → Prop}
theorem JbU {b : Bool} {Q : Value → Shared → Prop} (I : Inv X pins σ H s) (e : H a = some (.ins C dx fs)) (c : Cls X.K C) (n : JX X.K C f) (l : fs.lookup f = some v)
  (h : ∀ u s',Inv X pins σ H s' → RelV v u → Q u s') : wpAny (model X.prog X.w) A (getAttr (.ref a) f b) Q E s:=by
 obtain ⟨mA,O,r,_,_,_⟩:=J6O I.hok e
 obtain ⟨u,hu,ru⟩:=RelO.some_of (v:=v) (o:=mA f) (by rw [← l]; exact r f)
 exact Jfb I.kIn O (c.get f) c.hd n hu (Jd8 ru) (h u _ (I.tok _) ru)
theorem Jbw {m : Str} {g : Addr} {pl : Sem Bool} {Q : Value × List Value → Shared → Prop} (I : Inv X pins σ H s) (e : H a = some (.ins C dx fs)) (c : Cls X.K C) (k : Meth X.K C m g) (l : fs.lookup m = none)
  (h : Q (.ref g,[.ref a]) s) : wpAny (model X.prog X.w) A (getMethod (.ref a) m pl) Q E s:=by
 obtain ⟨mA,O,r,_,_,_⟩:=J6O I.hok e
 have hn : mA m = none:=RelO.none_of (by rw [← l]; exact r m)
 exact JdA I.kIn O (c.get m) k.at_ k.fn hn h
theorem JbY {y : V} {u : Value} {Q : Unit → Shared → Prop} (I : Inv X pins σ H s) (e : H a = some (.ins C dx fs)) (c : Cls X.K C) (n : JX X.K C f) (hl : fs.length < 1000) (ry : RelV y u)
  (h : ∀ s',Inv X pins σ (upd H a (.ins C dx (putF f y fs))) s' → Q () s') : wpAny (model X.prog X.w) A (setAttr (.ref a) f u) Q E s:=by
 obtain ⟨mA,O,r,wi,_,ho⟩:=J6O I.hok e
 have hz : (fs.map (·.1)).length ≤ sizeLine:=by rw [List.length_map,sizeLine_eq]; omega
 refine Jfu I.kIn O c.sa c.po n.taker c.hd wi hz fun h' O' sb=>h _ ?_
 have hd : ∃ o,h'.get? dx = some o:=let ⟨o,_,_,e',_⟩:=O'.ns; ⟨o,e'⟩
 refine I.write (x:=a) (e:=dx) (by rw [e]; exact True.intro) (.inr ho) (fun b q hb z=>(sb.2 b hb).trans z) hd ?_
 refine ⟨by rw [Jj O.ne]; exact ho,?_,O.ne,O'.obj,_,O'.ns,fun g=>?_,fun g hg=>?_⟩
 ·have:=J2u f y fs; omega
 ·show RelO ((putF f y fs).lookup g) (if g = f then some u else mA g)
  rw [J6s]
  by_cases q : g = f
  ·rw [if_pos q,if_pos q]; exact ry
  ·rw [if_neg q,if_neg q]; exact r g
 ·by_cases q : g = f
  ·rw [q]; exact (J6g f y fs).1
  ·refine (J6g f y fs).2 g (wi g fun z=>hg ?_)
   show (if g = f then some u else mA g) = none
   rw [if_neg q]; exact z
theorem Inv.made (I : Inv X pins σ H s) : Inv X pins σ (upd (upd H s.heap.objs.size (.own (s.heap.objs.size + 1))) (s.heap.objs.size + 1) (.ins C s.heap.objs.size []))
  {s with heap:=(s.heap.push PySem.W.emptyDict).push (PySem.W.instObj C s.heap.objs.size) }:=by
 have e1 : (s.heap.push PySem.W.emptyDict).get? s.heap.objs.size = some PySem.W.emptyDict:=Heap.get?_push_size s.heap rfl
 have e2 : ((s.heap.push PySem.W.emptyDict).push (PySem.W.instObj C s.heap.objs.size)).get? (s.heap.objs.size + 1) = some (PySem.W.instObj C s.heap.objs.size):=by
  have:=Heap.get?_push_size (s.heap.push PySem.W.emptyDict) (o:=PySem.W.instObj C s.heap.objs.size) rfl
  rwa [Heap.size_push] at this
 have e3 : (s.heap.push PySem.W.emptyDict).Ns s.heap.objs.size (fun _=>none):=⟨PySem.W.emptyDict,#[],_,e1,rfl,(fun e he=>absurd he (by simp)),fun _=>rfl⟩
 have I1:=I.laid (a:=s.heap.objs.size) (o:=.own (s.heap.objs.size + 1)) (h':=s.heap.push PySem.W.emptyDict) (t':=s.toks) (fun b u q=>Heap.get?_push_of_some _ q) (Nat.le_refl _) ⟨_,e1⟩
 refine I1.laid (a:=s.heap.objs.size + 1) (o:=.ins C s.heap.objs.size []) (t':=s.toks) (fun b u q=>Heap.get?_push_of_some _ q) (Nat.le_of_eq (Heap.size_push _ _)) ?_
 have ne : s.heap.objs.size ≠ s.heap.objs.size + 1:=Nat.ne_of_lt (Nat.lt_succ_self _)
 refine ⟨by rw [Jj ne,Je],Nat.zero_le _,ne,e2,fun _=>none,(Heap.Ns1.of_empty e3).at fun o q=>Heap.get?_push_of_some _ q,fun _=>True.intro,fun y hy=>absurd rfl hy⟩
theorem Jfx {prog : Program} {w : World} {env : Env} {e : Expr} {f : Str} {pos : Pos} {s : Shared} {Q : Value → Shared → Prop} (hb : attributeBase e f env (eval e env) = eval e env)
  (h : wpAny (model prog w) A (eval e env) (fun o s₁=>wpAny (model prog w) A (getAttr o f true) Q E s₁) E s) : wpAny (model prog w) A (eval (.Attribute e f pos) env) Q E s :=
 Attribute_any_ h (by rw [arm_eval_Attribute,hb])
end
noncomputable def tFld (K : PySem.W.Frag) (ta : TE) (f : Str) : TE:=fun σ H Q=>ta σ H fun x H1=>∃ a C dx fs v,x = .ref a ∧ H1 a = some (.ins C dx fs) ∧ Cls K C ∧ JX K C f ∧ fs.lookup f = some v ∧ Q v H1
noncomputable def sFld (K : PySem.W.Frag) (ta tv : TE) (f : Str) : TS:=fun D σ H=>tv σ H fun y H1=>ta σ H1 fun x H2=>∃ a C dx fs,x = .ref a ∧ H2 a = some (.ins C dx fs) ∧ Cls K C ∧ JX K C f ∧ fs.length < 1000 ∧
 D.nx σ (upd H2 a (.ins C dx (putF f y fs)))
section
variable {X : Cx} {o e value : Expr} {f : Str} {pos pos' tpos : Pos} {ta tv : TE}
theorem Jg5 (he : PE X e ta) (hb : attributeBase e f X.env (eval e X.env) = eval e X.env) : PE X (.Attribute e f pos) (tFld X.K ta f):=by
 intro pins s σ H Q I h
 refine Jfx hb (thn (he pins s σ H _ I h) fun u s1 ⟨x,H1,I1,rx,a,C,dx,fs,v,ex,ea,c,n,l,q⟩=>?_)
 subst ex
 obtain rfl : u = Value.ref a:=rx
 exact JbU I1 ea c n l fun u' s2 I2 ru=>⟨v,H1,I2,ru,q⟩
theorem J0e (ha : PE X o ta) (hv : PE X value tv) (hs : swapsWith value (some (.Attribute o f pos')) pos.line X.env = pure false) : PS X (.Assign [.Attribute o f pos'] value pos) (sFld X.K ta tv f):=by
 intro pins s σ H D I h
 refine plainObj_wpAny_Assign_Attribute (thn (hv pins s σ H _ I h) fun u s1 ⟨y,H1,I1,ry,q⟩=>thn (ha pins s1 σ H1 _ I1 q) fun ov s2 ⟨x,H2,I2,rx,a,C,dx,fs,ex,ea,c,n,l,q2⟩=>?_) hs
 subst ex
 obtain rfl : ov = Value.ref a:=rx
 exact JbY I2 ea c n l ry fun s3 I3=>⟨σ,_,I3,q2⟩
end
section
variable {X : Cx} {pins : List (Addr × Obj)} {σ : St} {H : Hp} {s : Shared} {A : Around} {E : Value → Shared → Prop} {Q : Value → Shared → Prop} {c : Value} {b : Bool}
inductive TyOf (K : PySem.W.Frag) (H : Hp) : V → Value → Prop where
 | non : TyOf K H .non (.type "NoneType")
 | bl (x : Bool) : TyOf K H (.bl x) (.type "bool")
 | int (i : Int) : TyOf K H (.int i) (.type "int")
 | str (x : Str) : TyOf K H (.str x) (.type "str")
 | flt (x : UInt64) : TyOf K H (.flt x) (.type "float")
 | lst {a : Addr} {xs : List V} (e : H a = some (.lst xs)) : TyOf K H (.ref a) (.type "list")
 | frz {a : Addr} {o : Obj} {xs : List V} (e : H a = some (.frz o (.lst xs))) : TyOf K H (.ref a) (.type "list")
 | tup {a : Addr} {xs : List V} (e : H a = some (.tup xs)) : TyOf K H (.ref a) (.type "tuple")
 | dK {a : Addr} {kvs : List (Key × V)} (e : H a = some (.dK kvs)) : TyOf K H (.ref a) (.type "dict")
 | dT {a : Addr} {kvs : List (List Key × V)} (e : H a = some (.dT kvs)) : TyOf K H (.ref a) (.type "dict")
 | ins {a C dx : Addr} {fs : List (Str × V)} (e : H a = some (.ins C dx fs)) (cl : Cls K C) (ha : PySem.W.findIn K (.ref C) "__class__" = some (some (.builtin "object.__class__")))
   (hn : PySem.W.specialIn K (.builtin "object.__class__") "__get__" = some (some (.builtin "getset_descriptor.__get__"))) (htk : PySem.W.takesIn K (.builtin "object.__class__") = some true)
   (hm : PySem.W.mroIn K C (.type "object") = some true) : TyOf K H (.ref a) (.ref C)
theorem Jda {x : V} {u t : Value} (I : Inv X pins σ H s) (rx : RelV x u) (ty : TyOf X.K H x t) (e : PySem.W.kitOne X.K t c = some b) (h : ∀ tk,Q (.bool b) { s with toks:=tk }) :
  wpAny (model X.prog X.w) A (call (.builtin "isinstance") [u,c]) Q E s:=by
 cases ty with
 | non=>cases (show u = Value.none from rx); exact PySem.W.kia_one PySem.W.kitx_none I.kIn True.intro e (fun z=>nomatch z) h
 | bl y=>cases (show u = Value.bool y from rx); exact PySem.W.kia_one PySem.W.kitx_bool I.kIn True.intro e (fun z=>nomatch z) h
 | int i=>obtain ⟨t,q⟩:=(show ∃ t,u = Value.int i t from rx); cases q; exact PySem.W.kia_one PySem.W.kitx_int I.kIn True.intro e (fun z=>nomatch z) h
 | str y=>obtain ⟨t,q⟩:=(show ∃ t,u = Value.str y t from rx); cases q; exact PySem.W.kia_one PySem.W.kitx_str I.kIn True.intro e (fun z=>nomatch z) h
 | flt y=>obtain ⟨t,q⟩:=(show ∃ t,u = Value.float y t from rx); cases q; exact PySem.W.kia_one PySem.W.kitx_float I.kIn True.intro e (fun z=>nomatch z) h
 | @lst a xs ea =>
  cases (show u = Value.ref a from rx)
  obtain ⟨_,_,n,_,h1⟩:=(show J2t X.prog X.w H s.heap a (.lst xs) from I.hok a _ ea)
  exact PySem.W.kia_one PySem.W.kitx_list I.kIn ⟨_,h1,rfl⟩ e (fun z=>nomatch z) h
 | @frz a ob xs ea =>
  cases (show u = Value.ref a from rx)
  obtain ⟨_,_,_,n,_,h1⟩:=(show J2t X.prog X.w H s.heap a (.frz ob (.lst xs)) from I.hok a _ ea)
  exact PySem.W.kia_one PySem.W.kitx_list I.kIn ⟨_,h1,rfl⟩ e (fun z=>nomatch z) h
 | @tup a xs ea =>
  cases (show u = Value.ref a from rx)
  obtain ⟨_,_,_,p⟩:=(show J2t X.prog X.w H s.heap a (.tup xs) from I.hok a _ ea)
  obtain ⟨o,h1,h2,_⟩:=p
  exact PySem.W.kia_one PySem.W.kitx_tuple I.kIn ⟨o,h1,h2⟩ e (fun z=>nomatch z) h
 | @dK a kvs ea =>
  cases (show u = Value.ref a from rx)
  obtain ⟨_,_,vs,_,p⟩:=(show J2t X.prog X.w H s.heap a (.dK kvs) from I.hok a _ ea)
  obtain ⟨o,es,ep,h1,h2,_⟩:=p
  exact PySem.W.kia_one PySem.W.kitx_dict I.kIn ⟨o,h1,h2.1⟩ e (fun z=>nomatch z) h
 | @dT a kvs ea =>
  cases (show u = Value.ref a from rx)
  obtain ⟨_,_,xs,_,o,es,ep,h1,h2,_⟩:=(show J2t X.prog X.w H s.heap a (.dT kvs) from I.hok a _ ea)
  exact PySem.W.kia_one PySem.W.kitx_dict I.kIn ⟨o,h1,h2.1⟩ e (fun z=>nomatch z) h
 | @ins a C dx fs ea cl ha hn htk hm =>
  cases (show u = Value.ref a from rx)
  obtain ⟨mA,O,_⟩:=J6O I.hok ea
  obtain ⟨od,J,_⟩:=O.look
  exact PySem.W.kia_one (PySem.W.kitx_own (cl.get _) cl.hd ha hn htk hm) I.kIn J e (fun z=>nomatch z) h
end
end L2
namespace L2
open PySem PySem.Spec PyProof.Rows
structure Room (k : Nat) (A : Around) : Prop where
 hd : A.handled = none
 dp : A.depth + 3 * k + 5 < recursionLimit
 un : A.units + 16 * k + 200 < cLine
theorem Room.mono {j k : Nat} {A : Around} (r : Room k A) (h : j ≤ k) : Room j A:=⟨r.hd,by have:=r.dp; omega,by have:=r.un; omega⟩
theorem Room.deeper {k : Nat} {A : Around} (r : Room (k + 1) A) (env : Env) : Room k (A.deeper env) :=
 ⟨r.hd,by have:=r.dp; show A.depth + 1 + 3 * k + 5 < _; omega,by have:=r.un; show A.units + 3 + 16 * k + 200 < _; omega⟩
theorem JbV {A : Around} {C : Addr} {us : List Value} {kw : List (Str × Value)} : (A.under (.builtin "type.__call__" ⟨.ref C :: us,kw⟩)).depth = A.depth + 1:=by
 first | rfl | simp [Around.under,Code.weight,Code.isCreation,Code.isGuard,Code.isCaller,Code.frames,Code.isFrame,guardIds]
theorem JbH {A : Around} {C : Addr} {us : List Value} {kw : List (Str × Value)} : (A.under (.builtin "type.__call__" ⟨.ref C :: us,kw⟩)).units = A.units + 1:=by
 first | rfl | simp [Around.under,Code.cUnits,Code.frames,Code.isFrame]
theorem Room.make {k : Nat} {A : Around} (r : Room (k + 1) A) (C : Addr) (us : List Value) (kw : List (Str × Value)) : Room k (A.under (.builtin "type.__call__" ⟨.ref C :: us,kw⟩)) :=
 ⟨r.hd,by have:=r.dp; rw [JbV]; omega,by have:=r.un; rw [JbH]; omega⟩
theorem Room.depth {k : Nat} {A : Around} (r : Room k A) : A.depth < recursionLimit:=by have:=r.dp; omega
theorem Room.units0 {k : Nat} {A : Around} (r : Room k A) : A.units < cLine:=by have:=r.un; omega
noncomputable def tNil : TA:=fun _ H Q=>Q [] H
noncomputable def JdM (ta : TE) (tr : TA) : TA:=fun σ H Q=>ta σ H fun x H1=>tr σ H1 fun xs H2=>Q (x :: xs) H2
section
variable {X : Cx} {e : Expr} {es : List Expr} {te : TE} {t : TA} {pos : Pos}
theorem J2 : PA X [] tNil:=fun _ _ _ _ H Q I h=>Calls.spliced_nil ⟨[],H,I,.nil,h⟩
theorem J0 (ha : PE X e te) (hr : PA X es t) (hs : starEach (e :: es) X.env = (false,eval e X.env) :: starEach es X.env:=by rfl) : PA X (e :: es) (JdM te t):=by
 intro pos pins s σ H Q I h
 rw [hs]
 show wpAny _ _ (spliced ((false,eval e X.env) :: backTo pos (starEach es X.env))) _ _ s
 refine Calls.spliced_cons (thn (ha pins s σ H _ I h) fun u s1 ⟨x,H1,I1,r1,q1⟩=>?_)
 exact thn (hr pos pins s1 σ H1 _ I1 q1) fun us s2 ⟨xs,H2,I2,r2,q2⟩=>⟨x :: xs,H2,I2,.cons r1 r2,q2⟩
noncomputable def tTup (t : TA) : TE:=fun σ H Q=>t σ H fun xs H1=>xs.length ≤ sizeLine ∧ ∀ p,H1 p = none → Q (.ref p) (upd H1 p (.tup xs))
noncomputable def tLst (t : TA) : TE:=fun σ H Q=>t σ H fun xs H1=>xs.length ≤ sizeLine ∧ ∀ p,H1 p = none → Q (.ref p) (upd H1 p (.lst xs))
theorem J1a {x1} (h : PA X es t) : PE X (.Tuple es x1 pos) (tTup t):=by
 intro pins s σ H Q I hq
 refine wpAny_Tuple_spliced (thn (h pos pins s σ H _ I hq) fun us s1 ⟨xs,H1,I1,r,z,q⟩=>⟨by rw [← r.length]; exact z,?_⟩)
 have hf : H1 s1.heap.objs.size = none:=I1.hok.fresh (Nat.le_refl _)
 refine ⟨.ref s1.heap.objs.size,upd H1 s1.heap.objs.size (.tup xs),I1.laid (t':=s1.toks) (fun b u e=>Heap.get?_push_of_some _ e) (Nat.le_refl _) ?_,rfl,q _ hf⟩
 exact ⟨z,us,r,⟨_,Heap.get?_push_size _ rfl,rfl,_,rfl⟩⟩
theorem J0d (h : PA X es t) : PE X (.List es pos) (tLst t):=by
 intro pins s σ H Q I hq
 refine wpAny_List_spliced (thn (h pos pins s σ H _ I hq) fun us s1 ⟨xs,H1,I1,r,z,q⟩=>⟨by rw [← r.length]; exact z,?_⟩)
 have hf : H1 s1.heap.objs.size = none:=I1.hok.fresh (Nat.le_refl _)
 refine ⟨.ref s1.heap.objs.size,upd H1 s1.heap.objs.size (.lst xs),I1.laid (t':=s1.toks) (fun b u e=>Heap.get?_push_of_some _ e) (Nat.le_refl _) ?_,rfl,q _ hf⟩
 exact ⟨z,us,0,r,Heap.get?_push_size _ rfl⟩
end
noncomputable abbrev Sp:=List V → Hp → VK → XK → Prop
noncomputable abbrev CXT:=List Env → Hp → Shared → XK → Value → Shared → Prop
structure Env0 (P : Program) (w : World) (K : PySem.W.Frag) (mg : Str → Option Value) (base : Heap) (A : Around) (outer : List Env) (s : Shared) (H : Hp) : Prop where
 frames : A.frames = some outer
 mod : Mod K mg base
 bs : ∀ b o,base.get? b = some o → s.heap.get? b = some o ∧ H b = none
 bsz : base.objs.size ≤ s.heap.objs.size
 funs : s.heap.FunFrames base outer
 frf : ∀ b ∈ frs outer,H b = none
 hok : HOk P w H s.heap
 bare : AllBare s.gens
noncomputable def CE (outer : List Env) (P : Program) (w : World) (H : Hp) (s : Shared) (Q : VK) (u : Value) (s' : Shared) : Prop :=
 ∃ v H',s'.os = s.os ∧ AllBare s'.gens ∧ Un (frs outer) [] H H' s.heap s'.heap ∧ HOk P w H' s'.heap ∧ RelV v u ∧ Q v H'
noncomputable def CR (CX : CXT) (outer : List Env) (P : Program) (w : World) (H : Hp) (s : Shared) (Q : VK) (E : XK) (r : Result) (s' : Shared) : Prop :=
 match r with
 | .ok (.ret u)=>CE outer P w H s Q u s'
 | .ok _=>False
 | .error e=>CX outer H s E e s'
structure FnOk (P : Program) (w : World) (K : PySem.W.Frag) (mg : Str → Option Value) (base : Heap) (CX : CXT) (k : Nat) (f : Addr) (fd : FuncData) (ps : List Str) (sp : Sp) : Prop where
 len : ∀ vs H Q E,sp vs H Q E → vs.length = ps.length
 run : ∀ (A : Around) (outer : List Env) (s : Shared) (H : Hp) (args : Args) (us : List Value) (vs : List V) (Q : VK) (E : XK),Room k A → Env0 P w K mg base A outer s H → BindsTo s fd args (ps.zip us) → Vals vs us → sp vs H Q E →
  codeAny (model P w) A (.call (.ref f) args) (CR CX outer P w H s Q E) s
theorem FnOk.mono {P : Program} {w : World} {K : PySem.W.Frag} {mg : Str → Option Value} {base : Heap} {CX : CXT} {j k : Nat} {f : Addr} {fd : FuncData} {ps : List Str} {sp : Sp} (F : FnOk P w K mg base CX j f fd ps sp) (h : j ≤ k) :
  FnOk P w K mg base CX k f fd ps sp:=⟨F.len,fun A outer s H args us vs Q E hr=>F.run A outer s H args us vs Q E (hr.mono h)⟩
theorem Env0.make {P : Program} {w : World} {K : PySem.W.Frag} {mg : Str → Option Value} {base : Heap} {A : Around} {outer : List Env} {s : Shared} {H : Hp} (e : Env0 P w K mg base A outer s H) (C : Addr) (us : List Value) (kw : List (Str × Value)) :
  Env0 P w K mg base (A.under (.builtin "type.__call__" ⟨.ref C :: us,kw⟩)) outer s H:=⟨by first | exact e.frames | (simpa [Around.under,Code.envs,Code.isFrame,pushEnvs] using e.frames),e.mod,e.bs,e.bsz,e.funs,e.frf,e.hok,e.bare⟩
section
variable {X : Cx} {pins : List (Addr × Obj)} {σ : St} {H : Hp} {s s' : Shared}
theorem Inv.env0 (I : Inv X pins σ H s) : Env0 X.prog X.w X.K X.mg X.base X.A X.stack s H :=
 ⟨I.ok.frames,I.ok.mod,I.bs,Nat.le_trans I.ok.bsz I.sz,I.stack,I.stkFree,I.hok,I.bare⟩
theorem Inv.after {Q : VK} {u : Value} (I : Inv X pins σ H s) (h : CE X.stack X.prog X.w H s Q u s') : EP X pins σ Q u s':=by
 obtain ⟨v,H',os,bare,un,hok,r,q⟩:=h
 obtain ⟨hh,g,d,t,os'⟩:=s'
 obtain rfl : os' = s.os:=os
 exact ⟨v,H',I.call (h':=hh) (g':=g) (d':=d) (t':=t) (ch:=[]) un hok bare (fun b z=>absurd z (by simp)),r,q⟩
end
noncomputable def JfL (sp : Sp) (dvs : List V) (E : XK) (t : TA) : TE:=fun σ H Q=>t σ H fun vs H1=>sp (vs ++ dvs) H1 Q E
noncomputable def J5M (K : PySem.W.Frag) (fd : FuncData) (ps : List Str) (ds : List Value) : Prop :=
 ∀ (s : Shared) (us : List Value),K.In s.heap → (us ++ ds).length = ps.length → BindsTo s fd ⟨us,[]⟩ (ps.zip (us ++ ds))
theorem J5M.all {K : PySem.W.Frag} {fd : FuncData} {ps : List Str} (h : ∀ us : List Value,us.length = ps.length → bindArgs fd ⟨us,[]⟩ = pure (ps.zip us)) : J5M K fd ps []:=fun s us _ hl=>by
 rw [List.append_nil] at hl ⊢
 exact .of_eq (h us hl)
noncomputable def J9t (CX : CXT) (X : Cx) (E : XK) : Prop:=∀ (pins : List (Addr × Obj)) (σ : St) (H : Hp) (s : Shared) (e : Value) (s' : Shared),Inv X pins σ H s → CX X.stack H s E e s' → X.xe e s'
section
variable {X : Cx} {CX : CXT} {k : Nat} {f C : Addr} {fd : FuncData} {ps : List Str} {sp : Sp} {dvs : List V} {ds : List Value} {E : XK} {x m : Str} {p pos apos : Pos} {e o : Expr} {es : List Expr} {ta : TE} {t : TA}
theorem JdZ {pins : List (Addr × Obj)} {σ : St} {H : Hp} {s : Shared} {Q : VK} {us : List Value} {vs : List V} (F : FnOk X.prog X.w X.K X.mg X.base CX k f fd ps sp) (hr : Room k X.A) (hb : J5M X.K fd ps ds) (hd : Vals dvs ds) (hx : J9t CX X E)
  (I : Inv X pins σ H s) (r : Vals vs us) (h : sp (vs ++ dvs) H Q E) : wpAny (model X.prog X.w) X.A (call (.ref f) us) (EP X pins σ Q) X.xe s:=by
 have r2 : Vals (vs ++ dvs) (us ++ ds):=r.append hd
 have hl : (us ++ ds).length = ps.length:=by rw [← r2.length]; exact F.len _ _ _ _ h
 refine wpAny_call (codeAny_mono (F.run X.A X.stack s H ⟨us,[]⟩ (us ++ ds) (vs ++ dvs) Q E hr I.env0 (hb s us I.kIn hl) r2 h) fun r s' hq=>?_)
 cases r with
 | error e=>exact hx pins σ H s e s' I hq
 | ok fl =>
  cases fl with
  | ret u=>exact I.after hq
  | next=>exact False.elim hq
  | brk=>exact False.elim hq
  | cont=>exact False.elim hq
theorem Jfv (F : FnOk X.prog X.w X.K X.mg X.base CX k f fd ps sp) (hr : Room k X.A) (hg : Gl X x) (hm : X.mg x = some (.ref f)) (hk : PySem.W.keepIn X.K (.ref f) = true) (hb : J5M X.K fd ps ds) (hd : Vals dvs ds) (hx : J9t CX X E)
  (ha : PA X (e :: es) t) (hdb : (x == ("__debug__" : Str)) = false:=by decide) (he : starEach (e :: es) X.env = (false,eval e X.env) :: starEach es X.env:=by rfl) (hpl : (backTo pos (starEach es X.env)).any (·.1) = false:=by rfl) :
  PE X (.Call (.Name x p) (e :: es) [] pos) (JfL sp dvs E t):=by
 intro pins s σ H Q I h
 refine wpAny_Call_Name_kw (J9J I hg hm ?_ hdb)
 refine PySem.W.callWith_K (h₀:=X.base) I.ok.mod.kin hk (thn (ha pos pins s σ H _ I h) fun us s1 ⟨vs,H1,I1,r,q⟩=>⟨I1.kIn,?_⟩) he hpl
 exact JdZ F hr hb hd hx I1 r q
structure Mk (K : PySem.W.Frag) (C f : Addr) : Prop where
 makes : PySem.W.makesIn K C = true
 init : PySem.W.findIn K (.ref C) "__init__" = some (some (.ref f))
 fn : PySem.W.isFn K (.ref f) = true
 kp : PySem.W.keepIn K (.ref C) = true
theorem JeI {pins : List (Addr × Obj)} {σ : St} {H : Hp} {s : Shared} {Q : VK} {us : List Value} {vs : List V} (M : Mk X.K C f) (F : FnOk X.prog X.w X.K X.mg X.base CX k f fd ps sp) (hr : Room (k + 1) X.A) (hb : J5M X.K fd ps ds) (hd : Vals dvs ds)
  (hx : J9t CX X E) (I : Inv X pins σ H s) (r : Vals vs us)
  (h : ∀ x dx,H x = none → H dx = none → dx ≠ x → sp (.ref x :: (vs ++ dvs)) (upd (upd H dx (.own x)) x (.ins C dx [])) (fun v H2=>v = .non ∧ Q (.ref x) H2) E) :
  wpAny (model X.prog X.w) X.A (call (.ref C) us) (EP X pins σ Q) X.xe s:=by
 have hq:=h (s.heap.objs.size + 1) s.heap.objs.size (I.hok.fresh (Nat.le_succ _)) (I.hok.fresh (Nat.le_refl _)) (Nat.ne_of_lt (Nat.lt_succ_self _))
 have I2:=Inv.made (C:=C) I
 have r2 : Vals (V.ref (s.heap.objs.size + 1) :: (vs ++ dvs)) (Value.ref (s.heap.objs.size + 1) :: (us ++ ds)):=.cons rfl (r.append hd)
 have hl : (Value.ref (s.heap.objs.size + 1) :: us ++ ds).length = ps.length:=by
  have e:=r2.length
  rw [F.len _ _ _ _ hq] at e
  exact e.symm
 refine wpAny_call (JdB (f:=f) I.kIn M.makes M.init (beq_iff_eq.mp M.fn) (codeAny_mono (F.run _ X.stack _ _ ⟨Value.ref (s.heap.objs.size + 1) :: us,[]⟩ (Value.ref (s.heap.objs.size + 1) :: (us ++ ds)) _ _ E (hr.make C us [])
  (I2.env0.make C us []) (hb _ (Value.ref (s.heap.objs.size + 1) :: us) I2.kIn hl) r2 hq) fun r s' hq'=>?_))
 cases r with
 | error e=>exact hx pins σ _ _ e s' I2 hq'
 | ok fl =>
  cases fl with
  | ret u =>
   obtain ⟨v,H',I3,rv,ev,q3⟩:=I2.after hq'
   subst ev
   exact ⟨rv,⟨V.ref (s.heap.objs.size + 1),H',I3,rfl,q3⟩⟩
  | next=>exact False.elim hq'
  | brk=>exact False.elim hq'
  | cont=>exact False.elim hq'
end
section
variable {X : Cx} {CX : CXT} {k : Nat} {f C : Addr} {fd : FuncData} {ps ks : List Str} {sp : Sp} {E : XK} {x m : Str} {p pos apos kpos : Pos} {e o : Expr} {es : List Expr} {kws : List Keyword} {te ta : TE} {t tk : TA} {nm : Option Str}
variable {g : List Value → List Value → List Value} {gV : List V → List V → List V}
end
structure Jq (N P : List Str) (sc : Scope) : Prop where
 kind : sc.kind = .function
 co : sc.isCoroutine = false
 gen : sc.isGenerator = false
 nd : N.Nodup
 pre : N.take P.length = P
 par : ∀ x ∈ P,sc.names.lookup x = some .local ∨ sc.names.lookup x = some .cell
 nofree : ∀ y ∈ sc.names,y.2 ≠ .free
theorem J8y {kindOf : Str → Option NameKind} {x : Str} : ∀ {binds : List (Str × Value)} {m : Str → Option Value},(∀ v,(x,v) ∉ binds) → bindL kindOf binds m x = m x
 | [],_,_=>rfl
 | (n,v) :: r,m,h=>by
  unfold bindL
  rw [J8y fun w hw=>h w (List.mem_cons_of_mem _ hw)]
  split
  ·have : x ≠ n:=by rintro rfl; exact h v List.mem_cons_self
   simp [this]
  ·rfl
theorem J8p {kindOf : Str → Option NameKind} {x : Str} : ∀ {binds : List (Str × Value)} {m : Str → Option Value},(∀ v,(x,v) ∉ binds) → bindC kindOf binds m x = m x
 | [],_,_=>rfl
 | (n,v) :: r,m,h=>by
  unfold bindC
  rw [J8p fun w hw=>h w (List.mem_cons_of_mem _ hw)]
  split
  ·rfl
  ·have : x ≠ n:=by rintro rfl; exact h v List.mem_cons_self
   simp [this]
theorem J8o {kindOf : Str → Option NameKind} {x : Str} {v : Value} : ∀ {P : List Str} {vs : List Value} {i : Nat} {m : Str → Option Value},P.Nodup → P[i]? = some x → vs[i]? = some v → kindOf x = some .local →
  bindL kindOf (P.zip vs) m x = some v
 | [],_,_,_,_,h,_,_=>by simp at h
 | _ :: _,[],_,_,_,_,h,_=>by simp at h
 | p :: P,w :: vs,0,m,nd,h1,h2,hk=>by
  simp at h1 h2; subst h1; subst h2
  show bindL kindOf ((p,w) :: P.zip vs) m p = _
  unfold bindL
  rw [J8y fun v hv=>(List.nodup_cons.mp nd).1 (List.of_mem_zip hv).1,if_pos hk]
  simp
 | p :: P,w :: vs,i + 1,m,nd,h1,h2,hk=>by
  show bindL kindOf ((p,w) :: P.zip vs) m x = _
  unfold bindL
  exact J8o (i:=i) (List.nodup_cons.mp nd).2 (by simpa using h1) (by simpa using h2) hk
theorem J8l {kindOf : Str → Option NameKind} {x : Str} {v : Value} : ∀ {P : List Str} {vs : List Value} {i : Nat} {m : Str → Option Value},P.Nodup → P[i]? = some x → vs[i]? = some v → kindOf x ≠ some .local →
  bindC kindOf (P.zip vs) m x = some v
 | [],_,_,_,_,h,_,_=>by simp at h
 | _ :: _,[],_,_,_,_,h,_=>by simp at h
 | p :: P,w :: vs,0,m,nd,h1,h2,hk=>by
  simp at h1 h2; subst h1; subst h2
  show bindC kindOf ((p,w) :: P.zip vs) m p = _
  unfold bindC
  rw [J8p fun v hv=>(List.nodup_cons.mp nd).1 (List.of_mem_zip hv).1,if_neg hk]
  simp
 | p :: P,w :: vs,i + 1,m,nd,h1,h2,hk=>by
  show bindC kindOf ((p,w) :: P.zip vs) m x = _
  unfold bindC
  exact J8l (i:=i) (List.nodup_cons.mp nd).2 (by simpa using h1) (by simpa using h2) hk
noncomputable def start (N : List Str) (vs : List V) : St:=vs.map some ++ List.replicate (N.length - vs.length) none
noncomputable def cxOf (CX : CXT) (P : Program) (w : World) (K : PySem.W.Frag) (mg : Str → Option Value) (base : Heap) (N : List Str) (qual : Str) (scope : Scope) (f : Addr) (cd : Value) (A : Around) (outer : List Env) (s : Shared) (H : Hp) (E : XK) : Cx where
 prog:=P
 w:=w
 K:=K
 mg:=mg
 base:=base
 A:=A.deeper (envOfC qual scope s.heap.objs.size f cd)
 N:=N
 s₀:=s
 H₀:=H
 env:=envOfC qual scope s.heap.objs.size f cd
 outer:=outer
 stack:=envOfC qual scope s.heap.objs.size f cd :: outer
 ex:=[]
 calm:=true
 fn:=fun _=>true
 pn:=[]
 xe:=fun e s'=>wpAny (model P w) (A.deeper (envOfC qual scope s.heap.objs.size f cd)) (leaving (envOfC qual scope s.heap.objs.size f cd) e) (fun _ s''=>CX outer H s E e s'') (fun e' s''=>CX outer H s E e' s'') s'
theorem JaM {sc : Scope} {n : Nat} {x : Str} (h : sc.names.lookup x = some .cell) : ∃ c,(cellsFrom n sc.names []).lookup x = some c:=by
 have q:=PySem.W.cellsFrom_some sc.names n [] (.inl h)
 exact Option.isSome_iff_exists.mp q
theorem JcQ {CX : CXT} {P : Program} {w : World} {K : PySem.W.Frag} {mg : Str → Option Value} {base : Heap} {N ps : List Str} {qual : Str} {scope : Scope} {f : Addr} {cd : Value} {A : Around} {outer : List Env} {s s1 : Shared} {H : Hp} {E : XK} {us : List Value} {vs : List V}
  (S : Jq N ps scope) (hd : A.handled = none) (e0 : Env0 P w K mg base A outer s H) (hl : vs.length = ps.length) (r : Vals vs us)
  (x : InCallC s s.heap.objs.size (bindL (envOfC qual scope s.heap.objs.size f cd).kindOf (ps.zip us) fun _=>none) (cellsFrom (s.heap.objs.size + 1) scope.names []) (bindC (envOfC qual scope s.heap.objs.size f cd).kindOf (ps.zip us) fun _=>none) s1) :
  Inv (cxOf CX P w K mg base N qual scope f cd A outer s H E) [] (start N vs) H s1:=by
 have hpl : ps.length ≤ N.length:=by have:=congrArg List.length S.pre; rw [List.length_take] at this; omega
 obtain ⟨h1,tk,rfl,hk⟩:=x.done
 have noA : ∀ b : Addr,b ∉ (cxOf CX P w K mg base N qual scope f cd A outer s H E).ex:=fun b z=>absurd (show b ∈ ([] : List Addr) from z) (by simp)
 refine ⟨⟨e0.mod,S.kind,rfl,rfl,Nat.le_refl _,fun y z c h1 h2=>?_,fun y hy=>?_,fun y c _ h=>?_,fun _=>hd,Around.frames_deeper e0.frames,.inr ⟨rfl,rfl⟩,fun b z=>absurd z (noA b),e0.bs,e0.bsz,fun b _ _=>noA b,fun b z=>absurd z (noA b),e0.funs,e0.frf⟩,
  rfl,e0.bare,Un.kept hk,⟨_,x.toInCall.ns,fun i y v h1 h2 h3=>?_⟩,fun y c h=>⟨_,x.cell y c h⟩,e0.hok.fresh (Nat.le_refl _),fun y c h=>?_,fun p hp=>absurd (show p ∈ ([] : List (Addr × Obj)) from hp) (by simp),e0.hok.kept hk,?_⟩
 ·exact name_of_addr x.apart (PySem.mem_of_lookup h1) (PySem.mem_of_lookup h2)
 ·have hy : scope.names.lookup y = some .cell ∨ scope.names.lookup y = some .free:=hy
  rcases hy with hy | hy
  ·exact JaM hy
  ·exact absurd rfl (S.nofree _ (PySem.mem_of_lookup hy))
 ·exact Nat.le_of_lt (x.above y c (PySem.mem_of_lookup h))
 ·have hi : i < vs.length:=by
   unfold start at h2
   by_cases hi : i < vs.length
   ·exact hi
   ·rw [List.getElem?_append_right (by simpa using hi)] at h2
    rw [List.getElem?_replicate] at h2
    split at h2 <;> cases h2
  have ha : vs[i]? = some v:=by
   unfold start at h2
   rw [List.getElem?_append_left (by simpa using hi),List.getElem?_map] at h2
   cases e : vs[i]? with
   | none=>rw [e] at h2; cases h2
   | some a=>rw [e] at h2; cases h2; rfl
  obtain ⟨u,hu,rv⟩:=r.get ha
  have hp : ps[i]? = some y:=by
   rw [← S.pre,List.getElem?_take_of_lt (by omega)]; exact h1
  have ndP : ps.Nodup:=by rw [← S.pre]; exact S.nd.sublist (List.take_sublist _ _)
  refine ⟨u,rv,?_⟩
  rcases S.par y (List.mem_of_getElem? hp) with k | k
  ·exact .inl ⟨k,J8o ndP hp hu k⟩
  ·obtain ⟨c,e⟩:=JaM (n:=s.heap.objs.size + 1) k
   refine .inr ⟨.inl k,c,e,?_⟩
   have q:=x.cell y c e
   rw [J8l ndP hp hu (by show scope.names.lookup y ≠ _; rw [k]; decide)] at q
   exact q
 ·exact e0.hok.fresh (Nat.le_of_lt (x.above y c (PySem.mem_of_lookup h)))
 ·unfold start
  show _ = N.length
  rw [List.length_append,List.length_map,List.length_replicate]
  omega
theorem Jhf {CX : CXT} {P : Program} {w : World} {K : PySem.W.Frag} {mg : Str → Option Value} {base : Heap} {k : Nat} {f : Addr} {name qual : Str} {params : Arguments} {body : List Stmt} {scope : Scope} {dV kV doc pm cdv ct oc : Value} {an od : Option Addr}
  {osl : Array (Option Value)} {N ps : List Str} {sp : Sp} (lk : K.lookup f = some ⟨oc,od,.func (PySem.W.fnOf name qual params body scope dV kV doc pm an cdv ct),osl⟩) (hcd : PySem.W.codeIn K cdv qual = true) (S : Jq N ps scope)
  (len : ∀ vs H Q E,sp vs H Q E → vs.length = ps.length)
  (hbody : ∀ (A : Around) (outer : List Env) (s : Shared) (H : Hp) (vs : List V) (Q : VK) (E : XK),Room k (A.deeper (envOfC qual scope s.heap.objs.size f cdv)) → sp vs H Q E →
   ∃ t,PSs (cxOf CX P w K mg base N qual scope f cdv A outer s H E) body t ∧ t { nx:=fun _ H'=>Q .non H',rt:=Q } (start N vs) H) :
  FnOk P w K mg base CX (k + 1) f (PySem.W.fnOf name qual params body scope dV kV doc pm an cdv ct) ps sp:=by
 refine ⟨len,fun A outer s H args us vs Q E hr e0 hb r hsp=>?_⟩
 have hl:=len _ _ _ _ hsp
 have KX : K.In s.heap:=e0.mod.kin.keeps fun b o e=>(e0.bs b o e).1
 have lim : s.heap.NoLimit:=e0.mod.nolimit.keeps fun b o e=>(e0.bs b o e).1
 have hkind : ∀ y ∈ ps.zip us,scope.names.lookup y.1 = some .local ∨ (scope.names.lookup y.1 = some .cell ∧ ((cellsFrom (s.heap.objs.size + 1) scope.names []).lookup y.1).isSome = true):=fun ⟨n,v⟩ hy=>by
  rcases S.par n (List.of_mem_zip hy).1 with q | q
  ·exact .inl q
  ·exact .inr ⟨q,PySem.W.cellsFrom_some _ _ _ (.inl q)⟩
 refine codeAny_call_function hr.depth (KX _ _ lk) rfl S.co S.gen rfl (PySem.W.codeRec_of KX hcd) (hb _ _ _ _ ?_)
 refine wpAny_newFunctionEnv_cells S.kind hkind fun env he s1 x=>?_
 subst he
 refine ⟨lim.keeps x.toInCall.keep,codeAny_func ?_⟩
 obtain ⟨t,ht,hq⟩:=hbody A outer s H vs Q E (hr.deeper _) hsp
 have I : Inv (cxOf CX P w K mg base N qual scope f cdv A outer s H E) [] (start N vs) H s1:=JcQ S hr.hd e0 hl r x
 refine wpAny_mono (ht [] s1 (start N vs) H _ I hq) (fun fl s' hs=>?_) fun e s' hs=>hs
 have fin : ∀ {σ' : St} {H' : Hp} {v : V} {u : Value},Inv (cxOf CX P w K mg base N qual scope f cdv A outer s H E) [] σ' H' s' → RelV v u → Q v H' → CE outer P w H s Q u s' :=
  fun {σ' H' v u} J rv q=>⟨v,H',J.os,J.bare,J.base,J.hok,rv,q⟩
 cases fl with
 | ret u =>
  obtain ⟨v,σ',H',J,rv,q⟩:=hs
  exact fin J rv q
 | next =>
  obtain ⟨σ',H',J,q⟩:=hs
  exact fin (v:=V.non) (u:=Value.none) J rfl q
 | brk =>
  obtain ⟨_,_,_,q⟩:=hs
  exact False.elim q
 | cont =>
  obtain ⟨_,_,_,q⟩:=hs
  exact False.elim q
end L2
namespace L2
open PySem PySem.Spec PyProof.Rows
section
variable {X : Cx} {x : Str} {p pos : Pos} {e : Expr} {es : List Expr} {t : TA} {id T : String} {r : List V → Hp → VK → Prop}
noncomputable def tCB (r : List V → Hp → VK → Prop) (t : TA) : TE:=fun σ H Q=>t σ H fun vs H1=>r vs H1 Q
theorem Jx (hc : J21 X (.builtin id) r) (hg : Gl X x) (hm : X.mg x = none) (hv : bootBuiltins x = some (.builtin id)) (ha : PA X (e :: es) t) (hn : x ≠ "__name__":=by decide) (hdb : (x == ("__debug__" : Str)) = false:=by decide)
  (he : starEach (e :: es) X.env = (false,eval e X.env) :: starEach es X.env:=by rfl) (hpl : (backTo pos (starEach es X.env)).any (·.1) = false:=by rfl) : PE X (.Call (.Name x p) (e :: es) [] pos) (tCB r t):=by
 intro pins s σ H Q I h
 refine wpAny_Call_Name_kw (J6h I hg hm hv ?_ hn hdb)
 exact PyProof.Rows.callWith_builtin1 (thn (ha pos pins s σ H _ I h) fun us s1 ⟨vs,H1,I1,r1,q1⟩=>hc pins s1 σ H1 vs us Q I1 r1 q1) he hpl
theorem JG (hc : J21 X (.type T) r) (hg : Gl X x) (hm : X.mg x = none) (hv : bootBuiltins x = some (.type T)) (ha : PA X (e :: es) t) (hn : x ≠ "__name__":=by decide) (hdb : (x == ("__debug__" : Str)) = false:=by decide)
  (he : starEach (e :: es) X.env = (false,eval e X.env) :: starEach es X.env:=by rfl) (hpl : (backTo pos (starEach es X.env)).any (·.1) = false:=by rfl) : PE X (.Call (.Name x p) (e :: es) [] pos) (tCB r t):=by
 intro pins s σ H Q I h
 refine wpAny_Call_Name_kw (J6h I hg hm hv ?_ hn hdb)
 exact PyProof.Rows.callWith_type1 (thn (ha pos pins s σ H _ I h) fun us s1 ⟨vs,H1,I1,r1,q1⟩=>hc pins s1 σ H1 vs us Q I1 r1 q1) he hpl
end
end L2
namespace HT
open PySem PyProof.Rows
section
open PySem.SeqAt
open PySem.AutoSeq1 (wpAny_loadPart')
open PySem.MeetsSeq PySem.MeetsSeq2 PySem.MeetsSeq3
end
section
variable {prog : Program} {w : World} {A : Around} {E : Value → Shared → Prop} {s : Shared}
noncomputable def sIx (n d : Nat) : Option Int → Nat
 | none=>d
 | some v=>if v < 0 then (v + (n : Int)).toNat else min v.toNat n
theorem sIx_none (n d : Nat) : sIx n d none = d:=rfl
theorem sIx_le (n d : Nat) (hd : d ≤ n) (o : Option Int) : sIx n d o ≤ n:=by
 cases o with
 | none=>exact hd
 | some v =>
  show (if v < 0 then (v + (n : Int)).toNat else min v.toNat n) ≤ n
  by_cases hv : v < 0
  ·rw [if_pos hv]; omega
  ·rw [if_neg hv]; exact Nat.min_le_right _ _
theorem Jc4 (v : Int) (n d : Nat) : (if v < 0 then max (v + (n : Int)) 0 else min v (n : Int)) = ((sIx n d (some v) : Nat) : Int):=by
 show (if v < 0 then max (v + (n : Int)) 0 else min v (n : Int)) = (((if v < 0 then (v + (n : Int)).toNat else min v.toNat n) : Nat) : Int)
 by_cases hv : v < 0
 ·simp only [if_pos hv]; omega
 ·simp only [if_neg hv]; omega
theorem Jbz (lo hi : Option Int) (n : Nat) : Builtin.Slice.sliceAdjust lo hi 1 (n : Int) = (((sIx n 0 lo : Nat) : Int),((sIx n n hi : Nat) : Int)):=by
 have h1 : ¬ ((1 : Int) < 0):=by omega
 unfold Builtin.Slice.sliceAdjust
 simp only [h1,if_false]
 refine Prod.ext ?_ ?_
 ·cases lo with
  | none=>rfl
  | some v=>exact Jc4 v n 0
 ·cases hi with
  | none=>rfl
  | some v=>exact Jc4 v n n
theorem Jbx (i j : Nat) : Builtin.Slice.slicePlaces (i : Int) (j : Int) 1 = j - i:=by
 unfold Builtin.Slice.slicePlaces
 have h1 : (1 : Int) > 0:=by omega
 simp only [h1,if_true,Int.ediv_one]
 split <;> omega
theorem J7U {v : Value} {o : Option Int} {Q : Option Int → Shared → Prop} (p : IsPart v o) (h : Q o s) : wpAny (model prog w) A (Builtin.Slice.slicePartIndex v) Q E s:=by
 cases p with
 | none=>exact slicePart_none h
 | int i t=>exact slicePart_int h
theorem J66 {sl : Addr} {vl vu : Value} {lo hi : Option Int} {n : Nat} {Q : Int × Int × Nat → Shared → Prop} (hs : s.heap.IsSliceOf sl vl vu .none) (pl : IsPart vl lo) (pu : IsPart vu hi)
  (h : Q (((sIx n 0 lo : Nat) : Int),1,sIx n n hi - sIx n 0 lo) s) : wpAny (model prog w) A (Builtin.Slice.sliceApplied (.ref sl) (pure (n : Int))) Q E s:=by
 obtain ⟨os,hos,hcs,hds⟩:=id hs
 unfold Builtin.Slice.sliceApplied Builtin.Slice.sliceFields
 refine wpAny_bind (wpAny_bind (wpAny_field hos hds (x:=vl) rfl (wpAny_bind (wpAny_field hos hds (x:=vu) rfl (wpAny_bind (wpAny_field hos hds (x:=.none) rfl (wpAny_pure ?_)))))))
 refine wpAny_bind (slicePart_none ?_)
 show wpAny _ _ (if ((1 : Int) == 0) = true then _ else _) _ _ s
 rw [if_neg (by decide)]
 refine wpAny_bind (J7U pl (wpAny_bind (J7U pu (wpAny_bind (wpAny_pure ?_)))))
 show wpAny _ _ (match Builtin.Slice.sliceAdjust lo hi 1 (n : Int) with | (lo,hi)=>pure (lo,(1 : Int),Builtin.Slice.slicePlaces lo hi 1)) _ _ s
 rw [Jbz lo hi n]
 show wpAny _ _ (pure (((sIx n 0 lo : Nat) : Int),(1 : Int),Builtin.Slice.slicePlaces ((sIx n 0 lo : Nat) : Int) ((sIx n n hi : Nat) : Int) 1)) _ _ s
 rw [Jbx]
 exact wpAny_pure h
theorem Jey (xs : Array Value) (i k : Nat) : ((List.range k).filterMap fun (m : Nat)=>xs[((i : Int) + (m : Int) * 1).toNat]?).toArray = ((xs.toList.drop i).take k).toArray:=by
 have e : (fun (m : Nat)=>xs[((i : Int) + (m : Int) * 1).toNat]?) = fun m=>xs[i + m]?:=by
  funext m
  have : ((i : Int) + (m : Int) * 1).toNat = i + m:=by omega
  rw [this]
 rw [e]
 have:=pick_run xs i k
 rw [List.filterMap_map] at this
 have e2 : ((fun x=>xs[x]?) ∘ fun x=>i + x) = fun m=>xs[i + m]?:=rfl
 rw [e2] at this
 rw [this]
theorem getItem_tuple_cut {t sl : Addr} {items : Array Value} {vl vu : Value} {lo hi : Option Int} {Q : Value → Shared → Prop} (ht : IsTup s.heap t items) (hs : s.heap.IsSliceOf sl vl vu .none) (pl : IsPart vl lo) (pu : IsPart vu hi)
  (hw : ¬ (sIx items.size 0 lo = 0 ∧ sIx items.size items.size hi = items.size))
  (h : Q (.ref s.heap.objs.size) { s with heap:=s.heap.push { cls:=.type "tuple",data:=.seq ((items.toList.drop (sIx items.size 0 lo)).take (sIx items.size items.size hi - sIx items.size 0 lo)).toArray } })
  (hsz : items.size ≤ sizeLine) : wpAny (model prog w) A (getItem (.ref t) (.ref sl)) Q E s:=by
 have htake : sizeOk (.seq ((items.toList.drop (sIx items.size 0 lo)).take (sIx items.size items.size hi - sIx items.size 0 lo)).toArray):=by
  show ((items.toList.drop (sIx items.size 0 lo)).take (sIx items.size items.size hi - sIx items.size 0 lo)).toArray.size ≤ sizeLine
  rw [List.size_toArray,List.length_take,List.length_drop,Array.length_toList]
  omega
 have hj : sIx items.size items.size hi ≤ items.size:=sIx_le _ _ (Nat.le_refl _) hi
 obtain ⟨os,hos,hcs,hds⟩:=id hs
 have hTs : s.TypeIs (.ref sl) "slice":=⟨os,hos,hcs⟩
 unfold getItem
 try with_reducible refine wpAny_holding ?_
 first | refine wpAny_bind (wpAny_pure ?_) | skip
 refine wpAny_bind (wpAny_sequenceKey ht.typeIs (by decide) ?_)
 refine wpAny_bind (wpAny_callSpecial?_slot (name:=Str.ofString "__getitem__") ht.typeIs PyProof.Rows.slot_tuple_getitem
  (wpAny_call_entry PyProof.Rows.slot_tuple_getitem ht.typeIs entry_tuple_getitem ?_ (args_tuple_getitem _ _)))
 show wpAny _ _ (Builtin.Tuple.tupleItemsOf (.ref t) >>= _) _ _ s
 refine wpAny_bind (tupleItemsOf_ ht ?_)
 refine wpAny_bind (wpAny_typeOf hTs ?_)
 rw [if_pos (by decide)]
 refine wpAny_bind (J66 hs pl pu ?_)
 have hno : ¬ ((((sIx items.size 0 lo : Nat) : Int) == 0 && (1 : Int) == 1 && (sIx items.size items.size hi - sIx items.size 0 lo) == items.size) = true):=by
  intro q
  rw [Bool.and_eq_true,Bool.and_eq_true] at q
  have q1 : ((sIx items.size 0 lo : Nat) : Int) = 0:=eq_of_beq q.1.1
  have q2 : sIx items.size items.size hi - sIx items.size 0 lo = items.size:=eq_of_beq q.2
  exact hw ⟨by omega,by omega⟩
 show wpAny _ _ (if (((sIx items.size 0 lo : Nat) : Int) == 0 && (1 : Int) == 1 && (sIx items.size items.size hi - sIx items.size 0 lo) == items.size) = true then _ else _) _ _ s
 rw [if_neg hno,Jey]
 first
  | exact wpAny_bind (m:=Builtin.Tuple.tupleExact _) (wpAny_newObj_type (wpAny_pure ⟨_,rfl,wpAny_pure h⟩) htake)
  | exact wpAny_bind (m:=Builtin.Tuple.tupleExact _) (wpAny_newObj_type (wpAny_bind (wpAny_pure (wpAny_pure ⟨_,rfl,wpAny_pure h⟩))) htake)
  | exact wpAny_bind (wpAny_bind (m:=Builtin.Tuple.tupleExact _) (wpAny_newObj_type (wpAny_pure (wpAny_pure ⟨_,rfl,wpAny_pure h⟩)) htake))
  | exact wpAny_bind (wpAny_bind (m:=Builtin.Tuple.tupleExact _) (wpAny_newObj_type (wpAny_pure ⟨_,rfl,wpAny_pure h⟩) htake))
end
end HT
namespace L2
open PySem PySem.Spec PyProof.Rows
noncomputable abbrev TO:=St → Hp → (Option Int → Hp → Prop) → Prop
noncomputable def PO (X : Cx) (e : Option Expr) (t : TO) : Prop :=
 ∀ (pins : List (Addr × Obj)) (s : Shared) (σ : St) (H : Hp) (Q : Option Int → Hp → Prop),Inv X pins σ H s → t σ H Q →
  wpAny (model X.prog X.w) X.A (evalPart e X.env) (fun u s'=>∃ o H',Inv X pins σ H' s' ∧ IsPart u o ∧ Q o H') X.xe s
noncomputable def Jfl : TO:=fun _ H Q=>Q none H
noncomputable def Jh7 (t : TE) : TO:=fun σ H Q=>t σ H fun x H1=>∃ i,x = .int i ∧ Q (some i) H1
section
variable {X : Cx} {e : Expr} {te : TE} {lo hi : Option Expr} {tl th : TO} {pos p2 : Pos}
theorem J0M : PO X none Jfl:=by
 intro pins s σ H Q I h
 rw [evalPart_none]
 exact wpAny_pure ⟨none,H,I,.none,h⟩
theorem J0c (h : PE X e te) : PO X (some e) (Jh7 te):=by
 intro pins s σ H Q I hw
 rw [evalPart_some]
 refine thn (h pins s σ H _ I hw) fun u s1 ⟨x,H1,I1,r1,q1⟩=>?_
 obtain ⟨i,rfl,q⟩:=q1
 obtain ⟨t,rfl⟩:=r1
 exact ⟨some i,H1,I1,.int i t,q⟩
noncomputable def SlR (X : Cx) (r : V → Option Int → Option Int → Hp → VK → Prop) : Prop :=
 ∀ (pins : List (Addr × Obj)) (s : Shared) (σ : St) (H : Hp) (x : V) (v vl vu : Value) (lo hi : Option Int) (sl : Addr) (Q : VK),Inv X pins σ H s → RelV x v → s.heap.IsSliceOf sl vl vu .none → IsPart vl lo → IsPart vu hi → r x lo hi H Q →
  ∃ T id,typeLookup (.type T) "__getitem__" = pure (some (.builtin id)) ∧ s.TypeIs v T ∧ wpAny (model X.prog X.w) X.A (getItem v (.ref sl)) (EP X pins σ Q) X.xe s
noncomputable def tSl (r : V → Option Int → Option Int → Hp → VK → Prop) (te : TE) (tl th : TO) : TE:=fun σ H Q=>te σ H fun x H1=>tl σ H1 fun l H2=>th σ H2 fun u H3=>r x l u H3 Q
theorem J08 {r : V → Option Int → Option Int → Hp → VK → Prop} (hr : SlR X r) (he : PE X e te) (hl : PO X lo tl) (hu : PO X hi th) : PE X (.Subscript e (.Slice lo hi none p2) pos) (tSl r te tl th):=by
 intro pins s σ H Q I h
 refine Subscript_ (thn (he pins s σ H _ I h) fun v s1 ⟨x,H1,I1,r1,q1⟩=>?_)
 refine wpAny_Slice (thn (hl pins s1 σ H1 _ I1 q1) fun vl s2 ⟨l,H2,I2,pl,q2⟩=>thn (hu pins s2 σ H2 _ I2 q2) fun vu s3 ⟨u,H3,I3,pu,q3⟩=>?_)
 rw [evalPart_none]
 refine wpAny_pure ?_
 have I4 : Inv X pins σ H3 { s3 with heap:=s3.heap.push { cls:=.type "slice",data:=.fields #[vl,vu,.none] } }:=I3.kept (t':=s3.toks) fun b ob q=>Heap.get?_push_of_some _ q
 obtain ⟨T,id,hT,ht,hg⟩:=hr pins { s3 with heap:=s3.heap.push { cls:=.type "slice",data:=.fields #[vl,vu,.none] } } σ H3 x v vl vu l u s3.heap.objs.size Q I4 r1 (Heap.IsSliceOf.new ..) pl pu q3
 show wpAny (model X.prog X.w) X.A (subscriptTail e (.Slice lo hi none p2) v (.ref s3.heap.objs.size)) (EP X pins σ Q) X.xe { s3 with heap:=s3.heap.push { cls:=.type "slice",data:=.fields #[vl,vu,.none] } }
 exact tail_any (ops:=[.ref s3.heap.objs.size,v]) ht hT hg (by with_unfolding_all rfl)
noncomputable def cutV (xs : List V) (lo hi : Option Int) : List V:=(xs.drop (HT.sIx xs.length 0 lo)).take (HT.sIx xs.length xs.length hi - HT.sIx xs.length 0 lo)
theorem J6z (xs : List V) (lo hi : Option Int) : (cutV xs lo hi).length ≤ xs.length:=by
 unfold cutV
 rw [List.length_take,List.length_drop]
 omega
noncomputable def rSlT (K : PySem.W.Frag) : V → Option Int → Option Int → Hp → VK → Prop:=fun x lo hi H Q=>∃ a xs,x = .ref a ∧ SqT K H a xs ∧
 ¬ (HT.sIx xs.length 0 lo = 0 ∧ HT.sIx xs.length xs.length hi = xs.length) ∧ ∀ p,H p = none → Q (.ref p) (upd H p (.tup (cutV xs lo hi)))
theorem JdJ : SlR X (rSlT X.K):=by
 intro pins s σ H x v vl vu lo hi sl Q I rx hs pl pu h
 obtain ⟨a,xs,rfl,hx,hw,q⟩:=h
 cases rx
 obtain ⟨its,r,ht,hz⟩:=I.tuple hx
 have hlen : its.toArray.size = xs.length:=by rw [List.size_toArray]; exact r.length.symm
 refine ⟨"tuple",_,PyProof.Rows.slot_tuple_getitem.lookup,ht.typeIs,?_⟩
 refine HT.getItem_tuple_cut ht hs pl pu (by rw [hlen]; exact hw) ?_ (by rw [hlen]; exact hz)
 rw [hlen]
 refine ⟨.ref s.heap.objs.size,_,I.laid (t':=s.toks) (o:=.tup (cutV xs lo hi)) (fun b ob q=>Heap.get?_push_of_some _ q) (Nat.le_refl _) ?_,rfl,q _ (I.hok.fresh (Nat.le_refl _))⟩
 exact ⟨Nat.le_trans (J6z xs lo hi) hz,_,(r.drop (HT.sIx xs.length 0 lo)).take (HT.sIx xs.length xs.length hi - HT.sIx xs.length 0 lo),IsTup.new _ _⟩
end
end L2
namespace L2
open PySem PySem.Spec PyProof.Rows
noncomputable def ixN (n : Nat) (i : Int) : Option Nat:=if 0 ≤ i then (if i < n then some i.toNat else none) else if -(n : Int) ≤ i then some (i + n).toNat else none
noncomputable def atI {α : Type} (xs : List α) (i : Int) : Option α:=(ixN xs.length i).bind fun j=>xs[j]?
theorem Jfk {n : Nat} {i : Int} {j : Nat} (h : ixN n i = some j) : seqIndex? i n = some j ∧ j < n ∧ -(n : Int) ≤ i ∧ i < n:=by
 unfold ixN at h
 by_cases h0 : 0 ≤ i
 ·rw [if_pos h0] at h
  by_cases h1 : i < n
  ·rw [if_pos h1] at h
   have e : i.toNat = j:=Option.some.inj h
   exact ⟨by rw [seqIndex_of h0 h1,e],by omega,by omega,h1⟩
  ·rw [if_neg h1] at h; cases h
 ·rw [if_neg h0] at h
  by_cases h1 : -(n : Int) ≤ i
  ·rw [if_pos h1] at h
   have e : (i + n).toNat = j:=Option.some.inj h
   exact ⟨by rw [seqIndex_neg (by omega) h1,e],by omega,h1,by omega⟩
  ·rw [if_neg h1] at h; cases h
theorem J9I {α : Type} {xs : List α} {i : Int} {v : α} (h : atI xs i = some v) : ∃ j,seqIndex? i xs.length = some j ∧ xs[j]? = some v ∧ j < xs.length ∧ -(xs.length : Int) ≤ i ∧ i < xs.length:=by
 unfold atI at h
 cases e : ixN xs.length i with
 | none=>rw [e] at h; cases h
 | some j =>
  rw [e] at h
  obtain ⟨h1,h2,h3,h4⟩:=Jfk e
  exact ⟨j,h1,h,h2,h3,h4⟩
theorem J3P {α : Type} {xs : List α} {j : Nat} {v : α} (h : xs[j]? = some v) : atI xs (j : Int) = some v:=by
 have hj : j < xs.length:=(List.getElem?_eq_some_iff.mp h).1
 have e : ixN xs.length (j : Int) = some j:=by
  unfold ixN
  rw [if_pos (by omega),if_pos (by omega)]; simp
 unfold atI; rw [e]; exact h
noncomputable def JfD (b : Expr) : Prop:=∀ o i,subscripted b false o i = operate [o,i] (getItem o i)
noncomputable def IxR (X : Cx) (r : R2) : Prop :=
 ∀ (value slice : Expr) (pins : List (Addr × Obj)) (s : Shared) (σ : St) (H : Hp) (x y : V) (v u : Value) (Q : VK),Inv X pins σ H s → RelV x v → RelV y u → r x y H Q →
  subscripted slice false v u = operate [v,u] (getItem v u) → wpAny (model X.prog X.w) X.A (subscriptTail value slice v u) (EP X pins σ Q) X.xe s
noncomputable def MtR (X : Cx) (id : String) (r : V → List V → Hp → VK → Prop) : Prop :=
 ∀ (pins : List (Addr × Obj)) (s : Shared) (σ : St) (H : Hp) (x : V) (xs : List V) (v : Value) (us : List Value) (Q : VK),Inv X pins σ H s → RelV x v → Vals xs us → r x xs H Q →
  wpAny (model X.prog X.w) X.A (call (.builtin id) (v :: us)) (EP X pins σ Q) X.xe s
section
variable {X : Cx} {a b : Expr} {ta tb : TE} {pos : Pos}
theorem Jr {r : R2} (hr : IxR X r) (ha : PE X a ta) (hb : PE X b tb) (hs : JfD b) : PE X (.Subscript a b pos) (tOp r ta tb):=by
 intro pins s σ H Q I h
 exact Subscript_ (binT ha hb I h fun v u s2 x y H2 I2 rx ry q=>hr a b pins s2 σ H2 x y v u Q I2 rx ry q (hs _ _))
noncomputable def rIxL (K : PySem.W.Frag) : R2:=fun x y H Q=>∃ p xs i v,x = .ref p ∧ y = .int i ∧ SqL K H p xs ∧ atI xs i = some v ∧ Q v H
noncomputable def rIxT (K : PySem.W.Frag) : R2:=fun x y H Q=>∃ p xs i v,x = .ref p ∧ y = .int i ∧ SqT K H p xs ∧ atI xs i = some v ∧ Q v H
noncomputable def rIxS : R2:=fun x y H Q=>∃ z i c,x = .str z ∧ y = .int i ∧ z.length ≤ sizeLine ∧ atI z.cps.toList i = some c ∧ Q (.str ⟨#[c]⟩) H
theorem Jf6 : IxR X (rIxL X.K):=by
 intro value slice pins s σ H x y v u Q I rx ry h hs
 obtain ⟨p,xs,i,z,rfl,rfl,hq,he,q⟩:=h
 cases rx
 obtain ⟨t,rfl⟩:=ry
 obtain ⟨its,r,pl,hz⟩:=I.list hq
 obtain ⟨j,h1,h2,h3,h4,h5⟩:=J9I he
 obtain ⟨w,ew,rw'⟩:=r.get h2
 have hl:=r.length
 have hn:=J6b
 have fin : EP X pins σ Q w s:=⟨z,H,I,rw',q⟩
 by_cases h0 : 0 ≤ i
 ·have hj : i.toNat = j:=by
   rw [seqIndex_of h0 h5] at h1
   exact Option.some.inj h1
  exact item_listR pl.isList h0 (by omega) (by rw [hj]; simpa using ew) fin hs
 ·have hj : (i + (its.toArray.size : Int)).toNat = j:=by
   rw [seqIndex_neg (by omega) h4] at h1
   rw [List.size_toArray,← hl]
   exact Option.some.inj h1
  exact subscriptTail_builtinR (x:=w) pl.isList.typeIs slot_list_getitem.lookup
   (wpAny_getItem_list_neg (Q:=fun r s'=>r = w ∧ EP X pins σ Q r s') pl.isList (by omega) (by rw [List.size_toArray] <;> omega) (by omega) (by rw [hj]; simpa using ew) ⟨rfl,fin⟩) hs
theorem Jgn : IxR X (rIxT X.K):=by
 intro value slice pins s σ H x y v u Q I rx ry h hs
 obtain ⟨p,xs,i,z,rfl,rfl,hq,he,q⟩:=h
 cases rx
 obtain ⟨t,rfl⟩:=ry
 obtain ⟨its,r,pl,hz⟩:=I.tuple hq
 obtain ⟨j,h1,h2,h3,h4,h5⟩:=J9I he
 obtain ⟨w,ew,rw'⟩:=r.get h2
 have hl:=r.length
 have hn:=J6b
 have fin : EP X pins σ Q w s:=⟨z,H,I,rw',q⟩
 exact subscriptTail_builtinR (x:=w) pl.typeIs slot_tuple_getitem.lookup
  (getItem_tuple (j:=j) (Q:=fun r s'=>r = w ∧ EP X pins σ Q r s') pl (by omega) (by omega) (by rw [List.size_toArray,← hl]; exact h1) (by simpa using ew) ⟨rfl,fin⟩) hs
theorem Jgh : IxR X rIxS:=by
 intro value slice pins s σ H x y v u Q I rx ry h hs
 obtain ⟨z,i,c,rfl,rfl,hz,he,q⟩:=h
 obtain ⟨t,rfl⟩:=rx
 obtain ⟨t',rfl⟩:=ry
 obtain ⟨j,h1,h2,h3,h4,h5⟩:=J9I he
 have hl : z.cps.toList.length = z.length:=by simp [Str.length]
 rw [hl] at h1 h4 h5
 have hn:=J6b
 exact tail_any (typeIs_str s z t) slot_str_getitem.lookup (getItem_str (c:=c) (by
  have e1 : decide (i < -(2 ^ 63 : Int)) = false:=decide_eq_false (by omega)
  have e2 : decide (i ≥ 2 ^ 63) = false:=decide_eq_false (by omega)
  rw [e1,e2,Bool.or_false]) (by rw [h1]; simpa using h2) ⟨.str ⟨#[c]⟩,H,I.tok _,⟨_,rfl⟩,q⟩) hs
theorem J9B (lo hi : Option Int) (n : Nat) : (sliceBounds lo hi none n).1 = ((HT.sIx n 0 lo : Nat) : Int) ∧ (sliceBounds lo hi none n).2.1 = ((HT.sIx n n hi : Nat) : Int) ∧ (sliceBounds lo hi none n).2.2 = 1:=by
 refine ⟨?_,?_,rfl⟩
 ·cases lo with
  | none=>simp [sliceBounds,HT.sIx]
  | some i =>
   simp only [sliceBounds,HT.sIx,Option.getD_none,show (1 : Int) > 0 by decide,if_true]
   by_cases h : i < 0
   ·simp only [h,if_true] <;> omega
   ·simp only [h,if_false] <;> omega
 ·cases hi with
  | none=>simp [sliceBounds,HT.sIx]
  | some i =>
   simp only [sliceBounds,HT.sIx,Option.getD_none,show (1 : Int) > 0 by decide,if_true]
   by_cases h : i < 0
   ·simp only [h,if_true] <;> omega
   ·simp only [h,if_false] <;> omega
theorem J8e (its : List Value) (lo hi : Option Int) : slicePick its.toArray lo hi none = ((its.drop (HT.sIx its.length 0 lo)).take (HT.sIx its.length its.length hi - HT.sIx its.length 0 lo)).toArray:=by
 obtain ⟨h1,h2,h3⟩:=J9B lo hi its.toArray.size
 unfold slicePick
 rw [h1,h2,h3]
 simp only [sliceRange_one,pick_run,List.size_toArray] <;> rfl
noncomputable def rSlL (K : PySem.W.Frag) : V → Option Int → Option Int → Hp → VK → Prop:=fun x lo hi H Q=>∃ a xs,x = .ref a ∧ SqL K H a xs ∧ ∀ p,H p = none → Q (.ref p) (upd H p (.lst (cutV xs lo hi)))
theorem Jf7 : SlR X (rSlL X.K):=by
 intro pins s σ H x v vl vu lo hi sl Q I rx hs pl pu h
 obtain ⟨a,xs,rfl,hx,q⟩:=h
 cases rx
 obtain ⟨its,r,ht,hz⟩:=I.list hx
 have hlen:=r.length
 refine ⟨"list",_,slot_list_getitem.lookup,ht.isList.typeIs,?_⟩
 refine wpAny_getItem_list_slice ht.isList hs pl pu .none (by simp) ?_ (by rw [List.size_toArray] <;> omega)
 rw [J8e,← hlen]
 refine ⟨.ref s.heap.objs.size,_,I.laid (t':=s.toks) (o:=.lst (cutV xs lo hi)) (fun b ob q=>Heap.get?_push_of_some _ q) (Nat.le_refl _) ?_,rfl,q _ (I.hok.fresh (Nat.le_refl _))⟩
 exact ⟨Nat.le_trans (J6z xs lo hi) hz,_,0,(r.drop (HT.sIx xs.length 0 lo)).take (HT.sIx xs.length xs.length hi - HT.sIx xs.length 0 lo),Heap.get?_push_size _ rfl⟩
noncomputable def J5J : V → Bool
 | .non=>true
 | .bl _=>true
 | .int _=>true
 | .str _=>true
 | _=>false
noncomputable def eqV : V → V → Bool
 | .non,.non=>true
 | .bl a,.bl b=>a == b
 | .bl a,.int b=>(if a then 1 else 0) == b
 | .int a,.bl b=>a == (if b then 1 else 0)
 | .int a,.int b=>a == b
 | .str a,.str b=>a == b
 | _,_=>false
theorem Jg4 {A : Around} {s : Shared} {y x : V} {u v : Value} (ry : RelV y u) (rx : RelV x v) (fy : J5J y = true) (fx : J5J x = true) : SeqAt.EqAt A s u v (eqV y x):=by
 cases y with
 | non =>
  cases ry
  cases x with
  | non=>cases rx; exact SeqAt.EqAt.same _
  | bl b=>cases rx; exact SeqAt.EqAt.none_bool b
  | int b=>obtain ⟨t,rfl⟩:=rx; exact SeqAt.EqAt.none_int b t
  | str b=>obtain ⟨t,rfl⟩:=rx; exact SeqAt.EqAt.none_str b t
  | _=>exact absurd (show false = true from fx) Bool.false_ne_true
 | bl a =>
  cases ry
  cases x with
  | non=>cases rx; exact SeqAt.EqAt.bool_none a
  | bl b=>cases rx; exact SeqAt.EqAt.bool_bool a b
  | int b=>obtain ⟨t,rfl⟩:=rx; exact SeqAt.EqAt.bool_int a b t
  | str b=>obtain ⟨t,rfl⟩:=rx; exact SeqAt.EqAt.bool_str a b t
  | _=>exact absurd (show false = true from fx) Bool.false_ne_true
 | int a =>
  obtain ⟨t',rfl⟩:=ry
  cases x with
  | non=>cases rx; exact SeqAt.EqAt.int_none a t'
  | bl b=>cases rx; exact SeqAt.EqAt.int_bool a t' b
  | int b=>obtain ⟨t,rfl⟩:=rx; exact SeqAt.EqAt.int_int a t' b t
  | str b=>obtain ⟨t,rfl⟩:=rx; exact SeqAt.EqAt.int_str a t' b t
  | _=>exact absurd (show false = true from fx) Bool.false_ne_true
 | str a =>
  obtain ⟨t',rfl⟩:=ry
  cases x with
  | non=>cases rx; exact SeqAt.EqAt.str_none a t'
  | bl b=>cases rx; exact SeqAt.EqAt.str_bool a t' b
  | int b=>obtain ⟨t,rfl⟩:=rx; exact SeqAt.EqAt.str_int a t' b t
  | str b=>obtain ⟨t,rfl⟩:=rx; exact SeqAt.EqAt.str_str a t' b t
  | _=>exact absurd (show false = true from fx) Bool.false_ne_true
 | _=>exact absurd (show false = true from fy) Bool.false_ne_true
theorem J9C : J21 X (.builtin "len") (fun xs H Q=>∃ p ys,xs = [.ref p] ∧ (SqL X.K H p ys ∨ SqT X.K H p ys) ∧ Q (.int ys.length) H):=by
 intro pins s σ H xs us Q I r h
 obtain ⟨p,ys,rfl,hq,q⟩:=h
 obtain ⟨u,rfl,rx⟩:=Jc1 r
 cases rx
 have hn:=J6b
 rcases hq with hq | hq
 ·obtain ⟨its,r',pl,hz⟩:=I.list hq
  have hlen:=r'.length
  exact Calls.call_len_list pl.isList (by simp only [List.size_toArray] <;> omega) ⟨.int ys.length,H,I.tok _,⟨s.toks + 1,by rw [List.size_toArray,hlen]⟩,q⟩
 ·obtain ⟨its,r',pl,hz⟩:=I.tuple hq
  have hlen:=r'.length
  exact len_tuple pl (by simp only [List.size_toArray] <;> omega) ⟨.int ys.length,H,I.tok _,⟨s.toks + 1,by rw [List.size_toArray,hlen]⟩,q⟩
theorem J9v : J21 X (.builtin "len") (fun xs H Q=>∃ z,xs = [.str z] ∧ z.length ≤ sizeLine ∧ Q (.int z.length) H):=by
 intro pins s σ H xs us Q I r h
 obtain ⟨z,rfl,hz,q⟩:=h
 obtain ⟨u,rfl,t,rfl⟩:=Jc1 r
 have hn:=J6b
 exact len_str (by omega) ⟨.int z.length,H,I.tok _,⟨_,rfl⟩,q⟩
theorem J03 : J21 X (.type "list") (fun xs H Q=>∃ p ys,xs = [.ref p] ∧ (SqL X.K H p ys ∨ SqT X.K H p ys) ∧ ∀ l,H l = none → Q (.ref l) (upd H l (.lst ys))):=by
 intro pins s σ H xs us Q I r h
 obtain ⟨p,ys,rfl,hq,q⟩:=h
 obtain ⟨u,rfl,rx⟩:=Jc1 r
 cases rx
 have fin : ∀ (its : List Value),Vals ys its → ys.length ≤ sizeLine → ∀ (h' : Heap) (c' : Nat),(∀ b o',s.heap.get? b = some o' → h'.get? b = some o') →
   h'.get? s.heap.objs.size = some { cls:=.type "list",dict:=none,data:=.seq its.toArray c',slots:=#[] } → EP X pins σ Q (.ref s.heap.objs.size) { s with heap:=h' }:=fun its r' hz h' c' kp e =>
  ⟨.ref s.heap.objs.size,_,I.laid (t':=s.toks) kp (Nat.le_refl _) (show J2t X.prog X.w _ h' _ (.lst ys) from ⟨hz,its,c',r',e⟩),rfl,q _ (I.hok.fresh (Nat.le_refl _))⟩
 rcases hq with hq | hq
 ·obtain ⟨its,r',pl,hz⟩:=I.list hq
  have hlen:=r'.length
  obtain ⟨o,ho,hc,n,hd⟩:=pl.isList
  exact call_list_seq p (.inl rfl) ho hc hd (fun h' c' kp e=>fin its r' hz h' c' kp e) (by simp only [List.size_toArray] <;> omega)
 ·obtain ⟨its,r',pl,hz⟩:=I.tuple hq
  have hlen:=r'.length
  obtain ⟨o,ho,hc,n,hd⟩:=pl
  exact call_list_seq p (.inr rfl) ho hc hd (fun h' c' kp e=>fin its r' hz h' c' kp e) (by simp only [List.size_toArray] <;> omega)
noncomputable def tyV (K : PySem.W.Frag) (T : String) (x : V) (H : Hp) : Prop:=match x with
 | .str _=>T = "str"
 | .int _=>T = "int"
 | .ref p=>(T = "list" ∧ ∃ xs,SqL K H p xs) ∨ (T = "tuple" ∧ ∃ o,K.lookup p = some o ∧ o.cls = .type "tuple" ∧ o.dict = none) ∨
   (T = "dict" ∧ ((∃ kvs,H p = some (.dK kvs)) ∨ ∃ kvs,H p = some (.dT kvs))) ∨ (T = "set" ∧ ∃ S n,H p = some (.set S n))
 | _=>False
theorem JdV {pins : List (Addr × Obj)} {σ : St} {H : Hp} {s : Shared} {T : String} {x : V} {v : Value} (I : Inv X pins σ H s) (r : RelV x v) (ty : tyV X.K T x H) :
  s.TypeIs v T ∧ ∀ a,v = .ref a → ∃ ob,s.heap.get? a = some ob ∧ ob.dict = none:=by
 cases x with
 | str z =>
  obtain ⟨t,rfl⟩:=r
  cases (show T = "str" from ty)
  exact ⟨typeIs_str s z t,fun _ e=>nomatch e⟩
 | int i =>
  obtain ⟨t,rfl⟩:=r
  cases (show T = "int" from ty)
  exact ⟨typeIs_int s i t,fun _ e=>nomatch e⟩
 | ref p =>
  cases r
  rcases ty with ⟨rfl,xs,hq⟩ | ⟨rfl,o,hk,hc,hd⟩ | ⟨rfl,hk⟩ | ⟨rfl,S,n,hk⟩
  ·obtain ⟨its,_,pl,_⟩:=I.list hq
   refine ⟨pl.isList.typeIs,fun a e=>?_⟩
   cases e
   obtain ⟨o,n,e,c,hd,_⟩:=pl
   exact ⟨o,e,hd⟩
  ·refine ⟨⟨o,I.kIn p o hk,hc⟩,fun a e=>?_⟩
   cases e
   exact ⟨o,I.kIn _ o hk,hd⟩
  ·have z : ∃ o,s.heap.get? p = some o ∧ o.ExactDict:=by
    rcases hk with ⟨kvs,hk⟩ | ⟨kvs,hk⟩
    ·obtain ⟨_,_,_,_,o,_,_,e,ex,_⟩:=I.hok p _ hk
     exact ⟨o,e,ex⟩
    ·obtain ⟨_,_,_,_,o,_,_,e,ex,_⟩:=I.hok p _ hk
     exact ⟨o,e,ex⟩
   obtain ⟨o,e,ex⟩:=z
   refine ⟨⟨o,e,ex.1⟩,fun a e2=>?_⟩
   cases e2
   exact ⟨o,e,ex.2.1⟩
  ·obtain ⟨o,_,_,_,e,ex,_⟩:=I.hok p _ hk
   refine ⟨⟨o,e,ex.1⟩,fun a e2=>?_⟩
   cases e2
   exact ⟨o,e,ex.2.1⟩
 | _=>exact False.elim ty
noncomputable def tBM0 (K : PySem.W.Frag) (T : String) (r : V → List V → Hp → VK → Prop) (to : TE) : TE:=fun σ H Q=>to σ H fun x H1=>tyV K T x H1 ∧ r x [] H1 Q
noncomputable def tBM (K : PySem.W.Frag) (T : String) (r : V → List V → Hp → VK → Prop) (to : TE) (t : TA) : TE:=fun σ H Q=>to σ H fun x H1=>tyV K T x H1 ∧ t σ H1 fun xs H2=>r x xs H2 Q
variable {o e : Expr} {es : List Expr} {to : TE} {t : TA} {name : Str} {apos cpos : Pos} {T id : String} {r : V → List V → Hp → VK → Prop}
theorem Jga (pa : PlainAttrs T) (slot : Slot T name id) (hty : typeOf (.builtin id) = pure (.type "method_descriptor")) (hm : MtR X id r) (ho : PE X o to)
  (hbase : attributeBase o name X.env (eval o X.env) = eval o X.env:=by rfl) (hline : (apos.endLine == cpos.line) = true:=by rfl) : PE X (.Call (.Attribute o name apos) [] [] cpos) (tBM0 X.K T r to):=by
 intro pins s σ H Q I h
 refine wpAny_Call_method0_late hbase hline (thn (ho pins s σ H _ I h) fun v s1 ⟨x,H1,I1,r1,ty,q1⟩=>?_)
 obtain ⟨h1,h2⟩:=JdV I1 r1 ty
 exact ⟨T,id,pa,slot,hty,h1,h2,Calls.callWith_builtin rfl (PySem.evalArgs_none (hm pins s1 σ H1 x [] v [] Q I1 r1 .nil q1))⟩
theorem J20 (pa : PlainAttrs T) (slot : Slot T name id) (hty : typeOf (.builtin id) = pure (.type "method_descriptor")) (hm : MtR X id r) (ho : PE X o to) (ha : PA X (e :: es) t)
  (hbase : attributeBase o name X.env (eval o X.env) = eval o X.env:=by rfl)
  (hfew : ((backTo cpos (starEach (e :: es) X.env)).all (fun x=>!x.1) && (backToKw cpos (keywordEach [] X.env)).all (fun x=>x.1.isSome)
   && decide ((e :: es).length + ([] : List Keyword).length + (if ([] : List Keyword).isEmpty then 0 else 1) < 30)) = true:=by rfl)
  (hline : (apos.endLine == cpos.line) = true:=by rfl) (hs : starEach (e :: es) X.env = (false,eval e X.env) :: starEach es X.env:=by rfl) (hplain : (backTo cpos (starEach es X.env)).any (·.1) = false:=by rfl) :
  PE X (.Call (.Attribute o name apos) (e :: es) [] cpos) (tBM X.K T r to t):=by
 intro pins s σ H Q I h
 refine wpAny_Call_method_late hbase hfew hline rfl (thn (ho pins s σ H _ I h) fun v s1 ⟨x,H1,I1,r1,ty,q1⟩=>?_)
 obtain ⟨h1,h2⟩:=JdV I1 r1 ty
 refine ⟨T,id,pa,slot,hty,h1,h2,?_⟩
 have hA:=ha cpos pins s1 σ H1 _ I1 q1
 rw [hs] at hA ⊢
 refine Calls.callWith_builtin (by show (false || (backTo cpos (starEach es X.env)).any (·.1)) = false; rw [hplain] <;> rfl) (Calls.evalArgs_plain ?_)
 exact thn hA fun us s2 ⟨vs,H2,I2,r2,q2⟩=>hm pins s2 σ H2 x vs v us Q I2 r1 r2 q2
end
end L2
namespace L2
open PySem PySem.Spec PyProof.Rows
noncomputable def MtM (X : Cx) (id : String) (r : V → List V → Hp → VK → Prop) : Prop :=
 ∀ (pins : List (Addr × Obj)) (s : Shared) (σ : St) (H : Hp) (x : V) (xs : List V) (v : Value) (us : List Value) (Q : VK),Inv X pins σ H s → RelV x v → Vals xs us → r x xs H Q →
  wpAny (model X.prog X.w) X.A (call (.builtin id) (v :: us)) (EP X pins σ Q) X.xe s
theorem Vals.one : ∀ {x : V} {us : List Value},Vals [x] us → ∃ u,us = [u] ∧ RelV x u
 | _,_,.cons r .nil=>⟨_,rfl,r⟩
theorem Vals.two : ∀ {x y : V} {us : List Value},Vals [x,y] us → ∃ u v,us = [u,v] ∧ RelV x u ∧ RelV y v
 | _,_,_,.cons r (.cons q .nil)=>⟨_,_,rfl,r,q⟩
theorem Vals.zero : ∀ {us : List Value},Vals [] us → us = []
 | _,.nil=>rfl
section
variable {X : Cx} {pins : List (Addr × Obj)} {σ : St} {H : Hp} {s : Shared} {l b : Addr} {xs ys zs : List V}
theorem Inv.lset {its its' : List Value} {n : Nat} {f : Array Value → Array Value} {t' : Nat} (I : Inv X pins σ H s) (hH : H l = some (.lst xs))
  (e : s.heap.get? l = some { cls:=.type "list",data:=.seq its.toArray n }) (hf : f its.toArray = its'.toArray) (hv : Vals ys its') (hz : ys.length ≤ sizeLine) :
  Inv X pins σ (upd H l (.lst ys)) { s with heap:=s.heap.update l (Obj.mapSeq f),toks:=t' }:=by
 have q:=PySem.IsL.update e f
 rw [hf] at q
 refine I.write (x:=l) (e:=l) (by rw [hH]; exact trivial) (.inl rfl) (fun b' u hb hu=>(Heap.get?_update_other s.heap (Obj.mapSeq f) (Ne.symm hb)).trans hu) ⟨_,q⟩ ?_
 exact ⟨hz,its',_,hv,q⟩
theorem Inv.lnew {its : List Value} {t' : Nat} (I : Inv X pins σ H s) (hv : Vals ys its) (hz : ys.length ≤ sizeLine) :
  Inv X pins σ (upd H s.heap.objs.size (.lst ys)) { s with heap:=s.heap.push { cls:=.type "list",data:=.seq its.toArray },toks:=t' } :=
 I.laid (fun _ _ q=>Heap.get?_push_of_some _ q) (Nat.le_refl _) ⟨hz,its,0,hv,Heap.get?_push_size _ rfl⟩
theorem Inv.fresh (I : Inv X pins σ H s) : H s.heap.objs.size = none:=I.hok.fresh (Nat.le_refl _)
theorem Inv.lstM (I : Inv X pins σ H s) (hH : H l = some (.lst xs)) : xs.length ≤ sizeLine ∧ ∃ (its : List Value) (n : Nat),Vals xs its ∧ xs.length = its.length ∧ s.heap.get? l = some { cls:=.type "list",data:=.seq its.toArray n }:=by
 obtain ⟨z,its,n,r,e⟩:=I.hok l _ hH
 exact ⟨z,its,n,r,r.length,e⟩
theorem JeJ {n : Nat} (h : n ≤ sizeLine) : Builtin.List.listTooLong n = false:=by
 unfold Builtin.List.listTooLong
 exact decide_eq_false (by omega)
end
section
variable {X : Cx}
noncomputable def Jfs : V → List V → Hp → VK → Prop:=fun x vs H Q=>∃ l xs y,x = .ref l ∧ vs = [y] ∧ H l = some (.lst xs) ∧ xs.length < sizeLine ∧ Q .non (upd H l (.lst (xs ++ [y])))
theorem JP : MtM X "list.append" Jfs:=by
 intro pins s σ H x vs v us Q I rx rv h
 obtain ⟨l,xs,y,rfl,rfl,hH,hz,q⟩:=h
 cases rx
 obtain ⟨u,rfl,ru⟩:=rv.one
 obtain ⟨z,its,n,r,hl,e⟩:=I.lstM hH
 refine call_meets F.slot_list_append ⟨_,e,rfl⟩ F.entry_list_append (F.args_list_append_2 _ _) (PySem.list_append l its.toArray n u (by rw [List.size_toArray]; omega)) ⟨e,?_⟩
 refine ⟨.non,_,I.lset (its':=its ++ [u]) hH e (by simp) (r.append (.cons ru .nil)) ?_,rfl,q⟩
 rw [List.length_append,List.length_singleton]
 omega
noncomputable def Jgx : V → List V → Hp → VK → Prop:=fun x vs H Q=>∃ l xs,x = .ref l ∧ vs = [] ∧ H l = some (.lst xs) ∧ Q .non (upd H l (.lst []))
theorem Jec : MtM X "list.clear" Jgx:=by
 intro pins s σ H x vs v us Q I rx rv h
 obtain ⟨l,xs,rfl,rfl,hH,q⟩:=h
 cases rx
 have hus:=rv.zero
 subst hus
 obtain ⟨z,its,n,r,hl,e⟩:=I.lstM hH
 refine call_meets F.slot_list_clear ⟨_,e,rfl⟩ F.entry_list_clear (F.args_list_clear_1 _) (AutoSeq1.list_clear_list_0 l its.toArray n (by rw [List.size_toArray]; omega)) ⟨e,?_⟩
 exact ⟨.non,_,I.lset (its':=[]) (ys:=[]) hH e rfl .nil (Nat.zero_le _),rfl,q⟩
noncomputable def rCat : R2:=fun x y H Q=>∃ l b xs zs,x = .ref l ∧ y = .ref b ∧ H l = some (.lst xs) ∧ H b = some (.lst zs) ∧ xs.length + zs.length ≤ sizeLine ∧ ∀ p,H p = none → Q (.ref p) (upd H p (.lst (xs ++ zs)))
theorem Je7 : OpR X (binaryOp .Add) rCat:=by
 intro pins s σ H x y v u Q I rx ry h
 obtain ⟨l,b,xs,zs,rfl,rfl,hH,hB,hz,q⟩:=h
 cases rx
 cases ry
 obtain ⟨z,its,n,r,hl,e⟩:=I.lstM hH
 obtain ⟨z2,its2,n2,r2,hl2,e2⟩:=I.lstM hB
 refine PySem.P.add_list e e2 ?_ (by rw [List.size_toArray,List.size_toArray]; omega)
 have ea : its.toArray ++ its2.toArray = (its ++ its2).toArray:=by simp
 rw [ea]
 exact ⟨.ref _,_,I.lnew (t':=s.toks) (r.append r2) (by rw [List.length_append]; omega),rfl,q _ I.fresh⟩
end
section
variable {prog : Program} {w : World} {A : Around} {E : Value → Shared → Prop} {s : Shared}
end
section
variable {X : Cx}
end
end L2
namespace Att
open PySem PySem.W PySem.Calls PyProof.Rows
theorem J6E {P : Params} {h : Heap} : ∀ (ns : List Int) (vs : List Value),WellAll P h vs (ns.map WData.int) → IntsAre vs ns:=by
 intro ns
 induction ns with
 | nil =>
  intro vs w
  rw [List.map_nil] at w
  cases w
  exact .nil
 | cons n ns ih =>
  intro vs w
  rw [List.map_cons] at w
  cases w with
  | cons a b =>
   cases a
   exact .cons _ _ (ih _ b)
theorem JcS {l : OpenLaw} {n : Nat} (hn : l.most = some n) {P : Params} {h : Heap} {args : List WData} {vals : List Value}
  (hpre : l.row.toRowW.claim.pre args = true) (hwl : WellAll P h vals args) :
  ∃ a vs ns,vals = [Value.ref a] ∧ args = [WData.list (ns.map WData.int)] ∧ h.get? a = some { cls:=.type "list",data:=.seq vs.toArray } ∧ IntsAre vs ns ∧ ns.length ≤ n:=by
 have hsh : WShape.hasAll [] args [.list .int] = true:=(pre_splitW hpre).1
 have hc : l.pre.holds [] { args:=args } = true:=(pre_splitW hpre).2
 obtain ⟨d,r,rfl,h1,h2⟩:=hasAllW_cons hsh
 obtain rfl:=hasAllW_nil h2
 obtain ⟨xs,rfl,h3⟩:=hasW_list h1
 obtain ⟨ns,rfl⟩:=items_int h3
 have hlen : ns.length ≤ n:=by
  unfold OpenLaw.pre at hc
  have h4 : (WTm.not (.lt (.lit (.int (n : Int))) (.len (.arg 0)))).holds [] { args:=[.list (ns.map .int)] } = true:=by
   have h4:=(holds_andW hc).1
   rw [hn] at h4
   exact h4
  have h5:=condW_of h4 (w_not (w_lt w_lit (w_len_list (w_arg rfl))))
  rw [List.length_map] at h5
  refine Nat.le_of_not_lt fun q=>?_
  have q' : (n : Int) < ((ns.length : Nat) : Int):=by omega
  first
   | (rw [decide_eq_true q'] at h5; exact absurd h5 (by decide))
   | (simp at h5; omega)
 cases hwl with
 | cons w1 w2 =>
  cases w2
  cases w1 with
  | list ho hall=>exact ⟨_,_,ns,rfl,rfl,ho,J6E ns _ hall,hlen⟩
theorem JcR (l : OpenLaw) (args : List WData) : l.row.toRowW.claim.post args (.bool true) args = true :=
 postW_of (r:=l.row.toRowW) (X:=(true == true))
  (show WShape.has [] (.bool true) .bool = true by first | rfl | decide | simp [WShape.has,WShape.arms,WShape.armsAll])
  (show (WTm.eq .res (.lit (.bool true))).value [] { args:=args,res:=some (.bool true),after:=args } = some (.bool (true == true)) from w_eq_bool (w_res rfl) w_lit) rfl
theorem attach_call {l : OpenLaw} {n : Nat} {q : Program} {loose : List Str} {XP : (Str → Option Value) → Heap → Prop} {YP : World → Heap → Prop} {d : DefRec}
  (hn : l.most = some n) (hdf : d.params.defaults = [])
  (call : ∀ (w : World) (s₀ s₁ : Shared) (mg mb : Str → Option Value) (fa : Addr) (o : Obj) (pm cd doc : Value) (a : Addr) (vs : List Value) (ns : List Int),
   Ground q loose [] XP w s₀ mg mb s₁.heap → YP w s₁.heap →
   s₁.heap.get? fa = some o → o.data = .func (docDef d.name d.params d.body d.scope pm cd doc) → s₁.heap.CodeRec cd d.name → mg d.name = some (.ref fa) →
   s₁.heap.get? a = some { cls:=.type "list",data:=.seq vs.toArray } → IntsAre vs ns → ns.length ≤ n → s₁.gens = #[] →
   codeAny (model l.prog w) callerA (.call (.ref fa) ⟨[.ref a],[]⟩) (fun r s'=>r = .ok (.ret (.bool true)) ∧ OldK s₁.heap s'.heap ∧ s'.os = s₁.os ∧ AllBare s'.gens) s₁) :
  WalkO q loose XP YP l.row.toRowW d [] (fun f vs=>PySem.call f vs):=by
 intro w s₀ s₁ mg mb G Y fa o pm cd doc dV kV ho hd hcd hD hmg hg args vals as hpre hlay hrd hwl hlo
 obtain rfl : dV = .none:=Dflts.none hD hdf
 obtain rfl : kV = .none:=Dflts.noKw hD
 obtain ⟨a,vs,ns,rfl,rfl,hobj,hints,hlen⟩:=JcS hn hpre hwl
 refine enter_call (codeAny_mono (call w s₀ s₁ mg mb fa o pm cd doc a vs ns G Y ho (fd_plain hd) hcd hmg hobj hints hlen hg) fun r s' hq=>?_)
 obtain ⟨rfl,h2,h3,h4⟩:=hq
 exact ⟨.inl ⟨.bool true,.bool true,[],rfl,fun _=>rfl,.bool true,JcR l _,fun _=>⟨List.Pairwise.nil,fun _ hm=>(nomatch hm)⟩⟩,h2,h3,h4⟩
section
variable {prog : Program} {w : World} {A : Around} {E : Value → Shared → Prop} {s : Shared} {K : Frag}
end
end Att
namespace L2
open PySem PySem.Spec PyProof.Rows
theorem J8q : ∀ {vs : List Value} {ns : List Int},IntsAre vs ns → Vals (ns.map V.int) vs
 | _,_,.nil=>.nil
 | _,_,.cons n t h=>.cons ⟨t,rfl⟩ (J8q h)
noncomputable def Only (H : Hp) : Prop:=∀ b,H b = none ∨ ∃ o xs,H b = some (.frz o (.lst xs))
theorem JeD {P : Program} {w : World} {K : PySem.W.Frag} {mg mb : Str → Option Value} {CX : CXT} {k : Nat} {fa a : Addr} {fd : FuncData} {x : Str} {sp : Sp} {s₁ : Shared} {vs : List Value} {ns : List Int}
  (KX : K.In s₁.heap) (hns : s₁.heap.Ns mainGlobals mg) (hb : s₁.heap.Ns builtinsNs mb) (hbb : ∀ x : Str,x ≠ "__name__" → mb x = bootBuiltins x) (hlim : s₁.heap.NoLimit) (hg : s₁.gens = #[])
  (ha : s₁.heap.get? a = some { cls:=.type "list",data:=.seq vs.toArray }) (hi : IntsAre vs ns) (hl : ns.length ≤ sizeLine) (hr : Room k callerA)
  (F : ∀ base : Heap,K.In base → base.Ns mainGlobals mg → FnOk P w K mg base CX k fa fd [x] sp) (hbind : ∀ (s : Shared) (u : Value),BindsTo s fd ⟨[u],[]⟩ [(x,u)])
  (hsp : ∀ H : Hp,Only H → SqL K H a (ns.map V.int) → sp [.ref a] H (fun v _=>v = .bl true) fun _ _ _=>False)
  (hCX : ∀ H e s',CX [] H s₁ (fun _ _ _=>False) e s' → False) :
  codeAny (model P w) callerA (.call (.ref fa) ⟨[.ref a],[]⟩) (fun r s'=>r = .ok (.ret (.bool true)) ∧ OldK s₁.heap s'.heap ∧ s'.os = s₁.os ∧ AllBare s'.gens) s₁:=by
 have rv:=J8q hi
 have lenV:=hi.length
 have core : ∀ H : Hp,Only H → SqL K H a (ns.map V.int) → HOk P w H s₁.heap → (∀ b,H b ≠ none → b = a) → (H a ≠ none → K.lookup a = none) →
   codeAny (model P w) callerA (.call (.ref fa) ⟨[.ref a],[]⟩) (fun r s'=>r = .ok (.ret (.bool true)) ∧ OldK s₁.heap s'.heap ∧ s'.os = s₁.os ∧ AllBare s'.gens) s₁:=by
  intro H hO hS hok hA hK
  have base_of : ∀ {b : Addr} {o : Obj},s₁.heap.get? b = some o → H b = none → (hidT s₁.heap H).get? b = some o:=fun e n=>JeC e n
  have noA : ∀ {b : Addr} {o : Obj} {es : Array DictEntry} {ep : Nat},s₁.heap.get? b = some o → o.data = .dict es ep → H b = none:=fun {b o es ep} e d=>by
   cases q : H b with
   | none=>rfl
   | some u =>
    have e' : b = a:=hA b (by rw [q]; simp)
    subst e'
    rw [ha] at e; cases e
    have d' : Data.seq vs.toArray _ = Data.dict es ep:=d
    cases d'
  have nsK : ∀ {b : Addr} {m : Str → Option Value},s₁.heap.Ns b m → (hidT s₁.heap H).Ns b m:=fun {b m} ⟨o,es,ep,e,d,r⟩=>⟨o,es,ep,base_of e (noA e d),d,r⟩
  have hKb : K.In (hidT s₁.heap H):=fun b o e=>base_of (KX b o e) (by
   cases q : H b with
   | none=>rfl
   | some u =>
    have e' : b = a:=hA b (by rw [q]; simp)
    subst e'
    rw [hK (by rw [q]; simp)] at e; cases e)
  have hM : Mod K mg (hidT s₁.heap H):=⟨hKb,nsK hns,⟨mb,nsK hb,hbb⟩,let ⟨mc,h1,h2⟩:=hlim; ⟨mc,nsK h1,h2⟩⟩
  have e0 : Env0 P w K mg (hidT s₁.heap H) callerA [] s₁ H:=⟨rfl,hM,fun b o e=>Jfh e,Nat.le_of_eq (JcO _ _),trivial,fun b hb=>absurd (show b ∈ ([] : List Addr) from hb) (by simp),hok,.of_eq hg⟩
  refine codeAny_mono ((F _ hKb (nsK hns)).run callerA [] s₁ H ⟨[.ref a],[]⟩ [.ref a] [.ref a] _ _ hr e0 (hbind s₁ (.ref a)) (.cons rfl .nil) (hsp H hO hS)) fun r s' h=>?_
  cases r with
  | error e=>exact (hCX H e s' h).elim
  | ok fl =>
   cases fl with
   | next=>exact False.elim h
   | brk=>exact False.elim h
   | cont=>exact False.elim h
   | ret u =>
    obtain ⟨v,H',os,bare,un,hok',r',q⟩:=h
    have q' : v = .bl true:=q
    subst q'
    obtain rfl : u = Value.bool true:=r'
    refine ⟨rfl,OldK.of_keep fun b o e=>?_,os,bare⟩
    cases q : H b with
    | none=>exact un.keep b o e q (by intro z; exact absurd (show b ∈ ([] : List Addr) from z) (by simp)) (by simp)
    | some u =>
     rcases hO b with z | ⟨ob,xs,z⟩
     ·rw [q] at z; cases z
     ·have z2:=un.frzs b ob _ z
      obtain ⟨e1,_⟩:=hok b _ z
      obtain ⟨e2,_⟩:=hok' b _ z2
      rw [e] at e1; cases e1
      exact e2
 cases hk : K.lookup a with
 | some o =>
  have e:=KX a o hk
  rw [ha] at e
  cases e
  refine core (fun _=>none) (fun _=>.inl rfl) (.inr ⟨_,vs.toArray,_,hk,rfl,rfl,rfl,by rw [List.size_toArray,lenV]; exact hl,by simpa using rv⟩) (fun b u z=>by have z' : (none : Option HO) = some u:=z; cases z') (fun b z=>absurd rfl z) fun z=>absurd rfl z
 | none =>
  refine core (fun b=>if b = a then some (.frz { cls:=.type "list",data:=.seq vs.toArray } (.lst (ns.map V.int))) else none) (fun b=>?_) (.inl (.inr ⟨{ cls:=.type "list",data:=.seq vs.toArray },if_pos rfl⟩)) (fun b u z=>?_) (fun b z=>?_) fun _=>hk
  ·by_cases hb : b = a
   ·exact .inr ⟨_,_,if_pos hb⟩
   ·exact .inl (if_neg hb)
  ·by_cases hb : b = a
   ·have z':=(if_pos hb).symm.trans z
    cases z'
    subst hb
    exact ⟨ha,by rw [List.length_map]; exact hl,vs,_,rv,ha⟩
   ·have z':=(if_neg hb).symm.trans z
    cases z'
  ·by_cases hb : b = a
   ·exact hb
   ·exact absurd (if_neg hb) z
end L2
namespace L2
open PySem PySem.Spec PyProof.Rows
theorem walk_of {l : PySem.W.OpenLaw} {n k : Nat} {q : Program} {loose : List Str} {XP : (Str → Option Value) → Heap → Prop} {YP : World → Heap → Prop} {d : DefRec} {K : Params → PySem.W.Frag} {CX : World → CXT} {sp : World → Sp} {x : Str}
  (hn : l.most = some n) (hn2 : n ≤ sizeLine) (hdf : d.params.defaults = []) (hr : Room k callerA)
  (hY : ∀ (w : World) (h : Heap),YP w h → (K w.params).In h)
  (F : ∀ (w : World) (mg : Str → Option Value) (fa : Addr) (h : Heap),(K w.params).In h → h.Ns mainGlobals mg → mg d.name = some (.ref fa) →
   ∃ fd : FuncData,(∀ (s : Shared) (u : Value),BindsTo s fd ⟨[u],[]⟩ [(x,u)]) ∧
    ∀ base : Heap,(K w.params).In base → base.Ns mainGlobals mg → FnOk l.prog w (K w.params) mg base (CX w) k fa fd [x] (sp w))
  (hsp : ∀ (w : World) (H : Hp) (a : Addr) (ns : List Int),ns.length ≤ n → Only H → SqL (K w.params) H a (ns.map V.int) → sp w [.ref a] H (fun v _=>v = .bl true) fun _ _ _=>False)
  (hCX : ∀ (w : World) (H : Hp) (s : Shared) (e : Value) (s' : Shared),CX w [] H s (fun _ _ _=>False) e s' → False) :
  PySem.W.WalkO q loose XP YP l.row.toRowW d [] (fun f vs=>PySem.call f vs):=by
 refine Att.attach_call hn hdf fun w s₀ s₁ mg mb fa o pm cd doc a vs ns G Y ho hd hcd hmg hobj hints hlen hg=>?_
 have KX:=hY w _ Y
 obtain ⟨fd,hb,hF⟩:=F w mg fa _ KX G.T.g hmg
 exact JeD KX G.T.g G.T.b G.T.builtins G.T.nolimit hg hobj hints (Nat.le_trans hlen hn2) hr hF hb (fun H hO hS=>hsp w H a ns hlen hO hS) fun H e s'=>hCX w H s₁ e s'
end L2
namespace L2
open PySem PySem.Spec PyProof.Rows
noncomputable def J1b (s : Stmt) (j : Nat) : Stmt:=match s with
 | .ClassDef _ _ _ body _ _ _ _ _ _ _=>body.getD j (.Pass ⟨0,0,0,0⟩)
 | _=>.Pass ⟨0,0,0,0⟩
noncomputable def Jo (s : Stmt) : Arguments:=match s with
 | .FunctionDef _ a _ _ _ _ _ _ _ _=>a
 | _=>{ posonlyargs:=[],args:=[],vararg:=none,kwonlyargs:=[],kw_defaults:=[],kwarg:=none,defaults:=[] }
noncomputable def Jm (s : Stmt) : List Stmt:=match s with
 | .FunctionDef _ _ b _ _ _ _ _ _ _=>b
 | _=>[]
noncomputable def J7 (s : Stmt) : Scope:=match s with
 | .FunctionDef _ _ _ _ _ _ sc _ _ _=>sc
 | _=>{ kind:=.function,names:=[],isGenerator:=false,isCoroutine:=false }
noncomputable abbrev CX0 : CXT:=fun _ _ _ _ _ _=>False
noncomputable abbrev E0 : XK:=fun _ _ _=>False
theorem Jdx {X : Cx} : J9t CX0 X E0:=fun _ _ _ _ _ _ _ h=>h.elim
structure Fun (K : PySem.W.Frag) (x qual : Str) (st : Stmt) (f : Addr) (fd : FuncData) : Prop where
 ex : ∃ (oc : Value) (od : Option Addr) (kV doc pm : Value) (an : Option Addr) (cdv ct : Value) (osl : Array (Option Value)),
  fd = PySem.W.fnOf x qual (Jo st) (Jm st) (J7 st) .none kV doc pm an cdv ct ∧ K.lookup f = some ⟨oc,od,.func fd,osl⟩ ∧ PySem.W.codeIn K cdv qual = true
 kp : PySem.W.keepIn K (.ref f) = true
section
variable {P : Program} {w : World} {K : PySem.W.Frag} {mg : Str → Option Value} {base : Heap}
theorem Fun.ok {x qual : Str} {st : Stmt} {f : Addr} {fd : FuncData} {N ps : List Str} {k : Nat} {sp : Sp} (F : Fun K x qual st f fd) (S : Jq N ps (J7 st)) (len : ∀ vs H Q E,sp vs H Q E → vs.length = ps.length)
  (hbody : ∀ (cdv : Value) (A : Around) (outer : List Env) (s : Shared) (H : Hp) (vs : List V) (Q : VK) (E : XK),Room k (A.deeper (envOfC qual (J7 st) s.heap.objs.size f cdv)) → sp vs H Q E →
   ∃ t,PSs (cxOf CX0 P w K mg base N qual (J7 st) f cdv A outer s H E).nox (Jm st) t ∧ t { nx:=fun _ H'=>Q .non H',rt:=Q } (start N vs) H) : FnOk P w K mg base CX0 (k + 1) f fd ps sp:=by
 obtain ⟨oc,od,kV,doc,pm,an,cdv,ct,osl,rfl,lk,hcd⟩:=F.ex
 refine Jhf lk hcd S len fun A outer s H vs Q E hr hsp=>?_
 obtain ⟨t,h,q⟩:=hbody cdv A outer s H vs Q E hr hsp
 exact ⟨t,h.nox,q⟩
theorem Fun.binds {x qual : Str} {st : Stmt} {f : Addr} {fd : FuncData} {ps : List Str} (F : Fun K x qual st f fd)
  (h : ∀ (kV doc pm : Value) (an : Option Addr) (cdv ct : Value) (us : List Value),us.length = ps.length → bindArgs (PySem.W.fnOf x qual (Jo st) (Jm st) (J7 st) .none kV doc pm an cdv ct) ⟨us,[]⟩ = pure (ps.zip us)) : J5M K fd ps []:=by
 obtain ⟨oc,od,kV,doc,pm,an,cdv,ct,osl,rfl,lk,hcd⟩:=F.ex
 exact .all (h kV doc pm an cdv ct)
theorem JC {x qual : Str} {st : Stmt} {f : Addr} {oc : Value} {od an : Option Addr} {osl : Array (Option Value)} {kV doc pm cdv ct : Value} (l : K.lookup f = some ⟨oc,od,.func (PySem.W.fnOf x qual (Jo st) (Jm st) (J7 st) .none kV doc pm an cdv ct),osl⟩)
  (c : PySem.W.codeIn K cdv qual = true) (k : PySem.W.keepIn K (.ref f) = true) : Fun K x qual st f (PySem.W.fnOf x qual (Jo st) (Jm st) (J7 st) .none kV doc pm an cdv ct):=⟨⟨oc,od,kV,doc,pm,an,cdv,ct,osl,rfl,l,c⟩,k⟩
end
section
variable {X : Cx}
theorem pv (i : Nat) {x : Str} {pos : Pos} (hN : X.N[i]? = some x:=by rfl) (hv : Vis X.env.scope x:=by first | exact Or.inl rfl | exact Or.inr (Or.inl rfl) | exact Or.inr (Or.inr rfl)) (hd : (x == ("__debug__" : Str)) = false:=by decide)
  (hcd : (x == ("__classdict__" : Str)) = false:=by decide) : PE X (.Name x pos) (tVar i):=Jgc hN hv hd hcd
end
theorem iteF {A B : Prop} (h : B) : if false = true then A else B:=by
 rw [if_neg Bool.false_ne_true]
 exact h
theorem iteT {A B : Prop} (h : A) : if true = true then A else B:=by
 rw [if_pos rfl]
 exact h
theorem ite2 {c A B : Prop} [Decidable c] (h1 : c → A) (h2 : ¬ c → B) : if c then A else B:=by
 by_cases h : c
 ·rw [if_pos h]
  exact h1 h
 ·rw [if_neg h]
  exact h2 h
noncomputable def Same (H H' : Hp) : Prop:=∀ b o,H b = some o → H' b = some o
theorem Same.refl (H : Hp) : Same H H:=fun _ _ h=>h
theorem Same.trans {H H1 H2 : Hp} (a : Same H H1) (b : Same H1 H2) : Same H H2:=fun c o h=>b c o (a c o h)
theorem Same.free {H H' : Hp} (e : Same H H') {l : Addr} (h : H' l = Option.none) : H l = Option.none:=by
 cases q : H l with
 | none=>rfl
 | some o =>
  rw [e l o q] at h
  cases h
theorem Same.seq {K : PySem.W.Frag} {H H' : Hp} {a : Addr} {xs : List V} (e : Same H H') (h : SqL K H a xs) : SqL K H' a xs:=by
 rcases h with (h | ⟨o,h⟩) | h
 ·exact .inl (.inl (e _ _ h))
 ·exact .inl (.inr ⟨o,e _ _ h⟩)
 ·exact .inr h
end L2
set_option linter.all false
set_option maxRecDepth 100000
set_option maxHeartbeats 4000000
namespace L2
open PySem PySem.Spec PyProof.Rows
theorem J53 {scope : Scope} {env : Env} (h : ∀ y ∈ scope.names,y.2 = .free → ∃ c,env.cells.lookup y.1 = some c) :
  ∃ cl,closureFor scope env = pure cl ∧ (∀ y ∈ scope.names,y.2 = NameKind.free → cl.lookup y.1 = env.cells.lookup y.1) ∧ (∀ x c,cl.lookup x = some c → env.cells.lookup x = some c):=by
 have key : ∀ (names : List (Str × NameKind)) (acc : List (Str × Addr)) (f : Str × NameKind → List (Str × Addr) → Sem (ForInStep (List (Str × Addr)))),
   (∀ x cs,f x cs = if (x.2 == NameKind.free) = true then (cellOf env x.1 >>= fun a=>pure (ForInStep.yield ((x.1,a) :: cs))) else pure (ForInStep.yield cs)) →
   (∀ y ∈ names,y.2 = .free → ∃ c,env.cells.lookup y.1 = some c) → (∀ x c,acc.lookup x = some c → env.cells.lookup x = some c) →
   ∃ cl,forIn names acc f = pure cl ∧ (∀ x c,acc.lookup x = some c → cl.lookup x = env.cells.lookup x) ∧ (∀ y ∈ names,y.2 = NameKind.free → cl.lookup y.1 = env.cells.lookup y.1) ∧ (∀ x c,cl.lookup x = some c → env.cells.lookup x = some c):=by
  intro names
  induction names with
  | nil =>
   intro acc f _ _ ha
   exact ⟨acc,rfl,fun x c e=>by rw [e,ha x c e],fun _ h=>(nomatch h),ha⟩
  | cons y r ih =>
   intro acc f hf hn ha
   obtain ⟨n,k⟩:=y
   rw [List.forIn_cons,hf]
   by_cases hk : k = .free
   ·subst hk
    obtain ⟨c,hc⟩:=hn (n,.free) List.mem_cons_self rfl
    have hc' : cellOf env n = pure c:=by unfold cellOf; rw [hc]
    have ha' : ∀ x d,((n,c) :: acc).lookup x = some d → env.cells.lookup x = some d:=fun x d e=>by
     rw [List.lookup_cons] at e
     cases hx : x == n with
     | true =>
      rw [hx] at e
      have e' : c = d:=Option.some.inj e
      have hx' : x = n:=by simpa using hx
      rw [hx',hc,e']
     | false =>
      rw [hx] at e
      exact ha x d e
    obtain ⟨cl,e,h1,h2,h3⟩:=ih ((n,c) :: acc) f hf (fun y hy=>hn y (List.mem_cons_of_mem _ hy)) ha'
    refine ⟨cl,?_,fun x d ex=>?_,fun y hy hyf=>?_,h3⟩
    ·rw [if_pos (by rfl)]
     show ((cellOf env n >>= fun a=>pure (ForInStep.yield ((n,a) :: acc))) >>= _) = pure cl
     rw [hc',pure_bind,pure_bind]
     exact e
    ·by_cases hxn : x = n
     ·subst hxn
      exact h1 x c (by rw [List.lookup_cons,beq_self_eq_true])
     ·refine h1 x d ?_
      rw [List.lookup_cons,beq_eq_false_iff_ne.mpr hxn]
      exact ex
    ·rcases List.mem_cons.mp hy with rfl | hy
     ·exact h1 _ c (by rw [List.lookup_cons,beq_self_eq_true])
     ·exact h2 y hy hyf
   ·have hb : (k == NameKind.free) = false:=by simpa using hk
    obtain ⟨cl,e,h1,h2,h3⟩:=ih acc f hf (fun y hy=>hn y (List.mem_cons_of_mem _ hy)) ha
    refine ⟨cl,?_,h1,fun y hy hyf=>?_,h3⟩
    ·show ((if (k == NameKind.free) = true then _ else pure (ForInStep.yield acc)) >>= _) = pure cl
     rw [if_neg (by rw [hb]; exact Bool.false_ne_true),pure_bind]
     exact e
    ·rcases List.mem_cons.mp hy with rfl | hy
     ·exact absurd hyf hk
     ·exact h2 y hy hyf
 have z:=key scope.names [] (fun x cs=>if (x.2 == NameKind.free) = true then (cellOf env x.1 >>= fun a=>pure (ForInStep.yield ((x.1,a) :: cs))) else pure (ForInStep.yield cs)) (fun _ _=>rfl) h (fun _ _ e=>(nomatch e))
 obtain ⟨cl,e,_,h2,h3⟩:=z
 refine ⟨cl,?_,h2,h3⟩
 show (forIn scope.names [] _ >>= pure) = pure cl
 exact (congrArg (· >>= pure) e).trans (pure_bind _ _)
noncomputable abbrev J1e (X : Cx) (scope : Scope) (N : List Str) (s₀ : Shared) (H₀ : Hp) (cl : List (Str × Addr)) (C : Addr) (ex : List Addr) : Cx :=
 {prog:=X.prog,w:=X.w,K:=X.K,mg:=X.mg,base:=X.base,A:=X.A,N:=N,s₀:=s₀,H₀:=H₀,env:=compEnvC scope cl C X.env,
  outer:=X.stack,stack:=X.stack,ex:=ex,fn:=fun _=>false,calm:=X.calm,pn:=[],xe:=fun _ _=>False }
theorem J5P {prog : Program} {w : World} {A : Around} {R : Result → Shared → Prop} {s : Shared} {elt target iter : Expr} {ifs : List Expr} {scope : Scope} {pos : Pos} {it acc : Value} {env : Env} (I : Nat → Shared → Prop)
  (turn : ∀ n s,I n s → wpAny (model prog w) A (pyNext it) (fun r s₁=>match r with
   | none=>R (.ok .next) s₁
   | some v=>wpAny (model prog w) A (letOwnedTupleGo target it v) (fun _ s₁'=>wpAny (model prog w) A (assign target env v) (fun _ s₂ =>
     wpAny (model prog w) A (forIn ifs true fun c r=>if r = true then do let ok ← isTrue c env (eval c env); pure (ForInStep.yield ok) else pure (ForInStep.yield r)) (fun ok s₃ =>
      if ok = true then wpAny (model prog w) A (eval elt env) (fun x s₄ =>
       wpAny (model prog w) A (call (.builtin "list.append") [acc,x]) (fun _ s₅=>∃ m,m < n ∧ I m s₅) (fun _ _=>False) s₄) (fun _ _=>False) s₃
      else ∃ m,m < n ∧ I m s₃) (fun _ _=>False) s₂) (fun _ _=>False) s₁') (fun _ _=>False) s₁) (fun _ _=>False) s)
  (n : Nat) (h : I n s) :
  codeAny (model prog w) A (.compLoop (.ListComp elt [⟨target,iter,ifs,0⟩] scope pos) 0 it acc env) R s:=by
 refine codeAny_loop rfl I (fun n s hI=>?_) n h
 show wpAny _ A ((compTurn (.ListComp elt [⟨target,iter,ifs,0⟩] scope pos) 0 it acc env).onRaise (fun x=>do noteFrame x env; theTreesLotGoes x)) _ _ s
 refine wpAny_noted ?_
 rw [compTurn_list]
 refine wpAny_bind (wpAny_standAt (wpAny_bind (wpAny_mono (turn n s hI) (fun r s₁ h₁=>?_) fun _ _ z=>z.elim)))
 cases r with
 | none=>exact wpAny_pure h₁
 | some v =>
  refine wpAny_bind (wpAny_mono h₁ (fun _ s₁' h₁'=>?_) fun _ _ z=>z.elim)
  refine wpAny_bind (wpAny_mono h₁' (fun _ s₂ h₂=>wpAny_bind (wpAny_mono h₂ (fun ok s₃ h₃=>?_) fun _ _ z=>z.elim)) fun _ _ z=>z.elim)
  cases ok with
  | false=>exact wpAny_pure ⟨rfl,h₃⟩
  | true =>
   exact wpAny_bind (wpAny_bind (wpAny_mono h₃ (fun x s₄ h₄=>wpAny_bind (wpAny_mono h₄ (fun _ s₅ h₅=>wpAny_pure (wpAny_pure ⟨rfl,h₅⟩)) fun _ _ z=>z.elim)) fun _ _ z=>z.elim))
noncomputable def PIfs (X : Cx) (ifs : List Expr) (t : TT) : Prop :=
 ∀ (pins : List (Addr × Obj)) (s : Shared) (σ : St) (H : Hp) (Q : Bool → Hp → Prop),Inv X pins σ H s → t σ H Q →
  wpAny (model X.prog X.w) X.A (forIn ifs true fun c r=>if r = true then do let ok ← isTrue c X.env (eval c X.env); pure (ForInStep.yield ok) else pure (ForInStep.yield r)) (TP X pins σ Q) X.xe s
noncomputable def tYes : TT:=fun _ H Q=>Q true H
theorem J0q {X : Cx} : PIfs X [] tYes:=fun _ _ _ H _ I h=>wpAny_tests_nil ⟨H,I,h⟩
theorem Jeh {X : Cx} {c : Expr} {t : TT} (hc : PT X c t) : PIfs X [c] t:=fun pins s σ H Q I h=>wpAny_tests_one (hc pins s σ H Q I h)
noncomputable def J7O (J : It) (H1 : Hp) (σ0 : St) (g : TG) (tc : TT) (te : TE) (Q : VK) : Prop:=∀ D,H1 D = none →
  ∃ W : Nat → Nat → St → List V → Hp → Prop,(∃ m,W 0 m σ0 [] (upd H1 D (.lst []))) ∧ ∀ i m σ1 ys H,W i m σ1 ys H →
    (J.stop i H ∧ Q (.ref D) H) ∨ (J.go i H ∧ ∀ x H',J.yld i H x H' → g x σ1 H' fun σ2 H2=>tc σ2 H2 fun b H3 =>
       if b = true then te σ2 H3 fun y H4=>H4 D = some (.lst ys) ∧ ys.length < sizeLine ∧ ∃ m',m' < m ∧ W (i + 1) m' σ2 (ys ++ [y]) (upd H4 D (.lst (ys ++ [y])))
       else ∃ m',m' < m ∧ W (i + 1) m' σ2 ys H3)
noncomputable def JeF (wi : TI) (sub : St → St) (g : TG) (tc : TT) (te : TE) : TE:=fun σ H Q=>wi σ H fun J H1=>J7O J H1 (sub σ) g tc te Q
noncomputable def subσ (js : List (Option Nat)) (σ : St) : St:=js.map fun o=>o.bind fun j=>(σ[j]?).join
theorem J1P {env : Env} : ∀ {names : List (Str × NameKind)} {x : Str},names.lookup x = some .free →
  (names.map fun (n,k)=>if (k == NameKind.free && env.scope.kind == .function && env.kindOf n == some .cell) then (n,NameKind.cell) else (n,k)).lookup x = some .cell ∨
  (names.map fun (n,k)=>if (k == NameKind.free && env.scope.kind == .function && env.kindOf n == some .cell) then (n,NameKind.cell) else (n,k)).lookup x = some .free
 | [],_,h=>by simp at h
 | (n,k) :: r,x,h=>by
  have ih:=@J1P env r x
  show List.lookup x ((if (k == NameKind.free && env.scope.kind == .function && env.kindOf n == some .cell) = true then (n,NameKind.cell) else (n,k)) :: _) = _ ∨ List.lookup x ((if (k == NameKind.free && env.scope.kind == .function && env.kindOf n == some .cell) = true then (n,NameKind.cell) else (n,k)) :: _) = _
  cases hx : x == n with
  | true =>
   simp only [List.lookup_cons,hx] at h
   cases h
   by_cases hc : (NameKind.free == NameKind.free && env.scope.kind == .function && env.kindOf n == some .cell) = true
   ·rw [if_pos hc]; left; simp only [List.lookup_cons,hx]
   ·rw [if_neg hc]; right; simp only [List.lookup_cons,hx]
  | false =>
   simp only [List.lookup_cons,hx] at h
   by_cases hc : (k == NameKind.free && env.scope.kind == .function && env.kindOf n == some .cell) = true
   ·rw [if_pos hc]; simp only [List.lookup_cons,hx]; exact ih h
   ·rw [if_neg hc]; simp only [List.lookup_cons,hx]; exact ih h
theorem J4o {env : Env} : ∀ {names : List (Str × NameKind)} {x : Str},(∀ y ∈ names,y.2 ≠ NameKind.cell) →
  ((names.map fun (n,k)=>if (k == NameKind.free && env.scope.kind == .function && env.kindOf n == some .cell) then (n,NameKind.cell) else (n,k)).lookup x = some .cell ∨
  (names.map fun (n,k)=>if (k == NameKind.free && env.scope.kind == .function && env.kindOf n == some .cell) then (n,NameKind.cell) else (n,k)).lookup x = some .free) → (x,NameKind.free) ∈ names
 | [],_,_,h=>by simp at h
 | (n,k) :: r,x,hn,h=>by
  have ih:=@J4o env r x fun y hy=>hn y (List.mem_cons_of_mem _ hy)
  have hk : k ≠ .cell:=hn (n,k) List.mem_cons_self
  change List.lookup x ((if (k == NameKind.free && env.scope.kind == .function && env.kindOf n == some .cell) = true then (n,NameKind.cell) else (n,k)) :: _) = _ ∨ List.lookup x ((if (k == NameKind.free && env.scope.kind == .function && env.kindOf n == some .cell) = true then (n,NameKind.cell) else (n,k)) :: _) = _ at h
  cases hx : x == n with
  | true =>
   have hx' : x = n:=by simpa using hx
   subst hx'
   by_cases hc : (k == NameKind.free && env.scope.kind == .function && env.kindOf x == some .cell) = true
   ·have : k = .free:=by
     have:=(Bool.and_eq_true _ _).mp ((Bool.and_eq_true _ _).mp hc).1
     simpa using this.1
    subst this
    exact List.mem_cons_self
   ·rw [if_neg hc] at h
    simp only [List.lookup_cons,beq_self_eq_true] at h
    rcases h with h | h
    ·exact absurd (Option.some.inj h) hk
    ·have:=Option.some.inj h
     subst this
     exact List.mem_cons_self
  | false =>
   by_cases hc : (k == NameKind.free && env.scope.kind == .function && env.kindOf n == some .cell) = true
   ·rw [if_pos hc] at h; simp only [List.lookup_cons,hx] at h; exact List.mem_cons_of_mem _ (ih h)
   ·rw [if_neg hc] at h; simp only [List.lookup_cons,hx] at h; exact List.mem_cons_of_mem _ (ih h)
section
variable {X : Cx} {elt tg iter : Expr} {ifs : List Expr} {scope : Scope} {pos : Pos} {N : List Str} {js : List (Option Nat)} {wi : TI} {g : TG} {tc : TT} {te : TE}
structure J4U (osc : Scope) (ON : List Str) (scope : Scope) (N : List Str) (js : List (Option Nat)) : Prop where
 kind : scope.kind = .function
 cell : ∀ y ∈ scope.names,y.2 ≠ .cell
 names : ∀ y ∈ scope.names,y.2 = .local → scope.names.lookup y.1 = some .local
 free : ∀ y ∈ scope.names,y.2 = .free → osc.names.lookup y.1 = some .cell ∨ osc.names.lookup y.1 = some .free
 len : js.length = N.length
 slots : (js.zip N).all (fun p=>match p.1 with | none=>true | some j=>decide (ON[j]? = some p.2) && decide (scope.names.lookup p.2 = some .free)) = true
theorem J4U.sub {osc : Scope} {ON : List Str} {scope : Scope} {N : List Str} {js : List (Option Nat)} (cs : J4U osc ON scope N js) : ∀ (i j : Nat),js[i]? = some (some j) → ∃ x,N[i]? = some x ∧ ON[j]? = some x ∧ scope.names.lookup x = some .free:=by
 intro i j h
 have hi : i < js.length:=(List.getElem?_eq_some_iff.mp h).1
 have hN : N[i]? = some (N[i]'(by rw [← cs.len]; exact hi)):=List.getElem?_eq_getElem _
 have hz : (js.zip N)[i]? = some (some j,N[i]'(by rw [← cs.len]; exact hi)):=by
  rw [List.getElem?_zip_eq_some]
  exact ⟨h,hN⟩
 have hm:=List.all_eq_true.mp cs.slots _ (List.mem_of_getElem? hz)
 have hm2:=(Bool.and_eq_true _ _).mp hm
 exact ⟨_,hN,of_decide_eq_true hm2.1,of_decide_eq_true hm2.2⟩
theorem mem_of_lookup {α : Type} : ∀ {l : List (Str × α)} {x : Str} {k : α},l.lookup x = some k → (x,k) ∈ l
 | [],_,_,h=>by simp at h
 | (n,v) :: r,x,k,h=>by
  rw [List.lookup_cons] at h
  cases hx : x == n with
  | true =>
   rw [hx] at h
   have hx' : x = n:=by simpa using hx
   have : v = k:=Option.some.inj h
   subst hx' this
   exact List.mem_cons_self
  | false =>
   rw [hx] at h
   exact List.mem_cons_of_mem _ (mem_of_lookup h)
theorem J1L {osc : Scope} {ON : List Str} (cs : J4U osc ON scope N js) (ho : X.env.scope = osc) (hON : X.N = ON) (hc : X.calm = true) (hi : PI X tg iter wi)
    (hg : ∀ s₀ H₀ cl C ex,PG (J1e X scope N s₀ H₀ cl C ex) tg g) (hif : ∀ s₀ H₀ cl C ex,PIfs (J1e X scope N s₀ H₀ cl C ex) ifs tc) (he : ∀ s₀ H₀ cl C ex,PE (J1e X scope N s₀ H₀ cl C ex) elt te)
    (hs : ∀ x,foldedSetIterable iter X.env x = pure x:=by intro _; rfl) : PE X (.ListComp elt [⟨tg,iter,ifs,0⟩] scope pos) (JeF wi (subσ js) g tc te):=by
  intro pins s σ H Q I h
  subst ho hON
  obtain ⟨cl,hcl,cl1,cl2⟩:=J53 (scope:=scope) (env:=X.env) fun y hy hf=>I.ok.has y.1 (cs.free y hy hf)
  rw [eval_ListComp]
  refine wpAny_comprehension_free (use:=none) rfl hs hcl cs.kind cs.names ?_
  refine thn (hi pins s σ H _ I h) fun v s1 h1=>thn h1 fun itv s2 h2=>?_
  obtain ⟨it,fp,tn,J,H2,e,I2,T,st2,f2,hW⟩:=h2
  subst e
  have hD0 : H2 s2.heap.objs.size = none:=I2.hok.fresh (Nat.le_refl _)
  obtain ⟨W,⟨m0,w0⟩,turn⟩:=hW s2.heap.objs.size hD0
  have I3:=I2.lnew (t':=s2.toks) (ys:=[]) (its:=[]) .nil (Nat.zero_le _)
  refine wpAny_newObj_type (wpAny_newFunctionEnv cs.cell (by intro y hy; simp at hy) (fun h₁ hns₁ hsb₁=>?_) cs.kind)
  dsimp only at hns₁ hsb₁ ⊢
  obtain ⟨s3,hs3⟩ : ∃ s3 : Shared,s3 = { s2 with heap:=s2.heap.push { cls:=.type "list",data:=.seq ([] : List Value).toArray },toks:=s2.toks }:=⟨_,rfl⟩
  rw [← hs3] at I3
  have e3 : s3.heap = s2.heap.push { cls:=.type "list",dict:=none,data:=.seq ([] : List Value).toArray }:=by rw [hs3]
  have e3o : s3.os = s2.os:=by rw [hs3]
  have e3g : s3.gens = s2.gens:=by rw [hs3]
  rw [← e3] at hns₁ hsb₁ ⊢
  obtain ⟨H3,hH3⟩ : ∃ H3 : Hp,H3 = upd H2 s2.heap.objs.size (.lst []):=⟨_,rfl⟩
  rw [← hH3] at I3 w0
  have up1 : ∀ b o,s2.heap.get? b = some o → s3.heap.get? b = some o:=fun b o q=>by rw [e3]; exact Heap.get?_push_of_some _ q
  have up2 : ∀ b o,s3.heap.get? b = some o → h₁.get? b = some o:=fun b o q=>hsb₁.extBut b o (Nat.ne_of_lt (Heap.lt_size q)) (Heap.get?_push_of_some _ q)
  have fpo : ∀ b ∈ fp,∃ o,s3.heap.get? b = some o:=fun b hb=>by
    obtain ⟨o,ho,_⟩:=T.obj 0 _ st2 b hb
    exact ⟨o,up1 b o ho⟩
  have fr3 : ∀ b ∈ fp,H3 b = none:=fun b hb=>by
    obtain ⟨o,ho,_⟩:=T.obj 0 _ st2 b hb
    rw [hH3,Jj (Nat.ne_of_lt (Heap.lt_size ho))]
    exact (f2 b hb).1
  have fpC : ∀ b ∈ fp,b ≠ s3.heap.objs.size:=fun b hb=>by
    obtain ⟨o,ho⟩:=fpo b hb
    exact Nat.ne_of_lt (Heap.lt_size ho)
  have fpS : ∀ b ∈ fp,b ∉ frs X.stack:=fun b hb hs'=>by
    rcases List.mem_cons.mp (I2.stkSub b hs') with z | z
    · exact (f2 b hb).2.1 z
    · exact (f2 b hb).2.2.1 z
  have ok' : (J1e X scope N s3 H3 cl s3.heap.objs.size fp).Ok:=by
    refine ⟨I.ok.mod,cs.kind,I.ok.glob,I.ok.blt,Nat.le_refl _,fun x y c e1 e2=>I.ok.inj x y c (cl2 x c e1) (cl2 y c e2),fun x hx=>?_,fun x c hf=>(nomatch hf),I.ok.hd,I.ok.frames,.inl rfl,fun b hb=>⟨fpC b hb,fun x c e=>(f2 b hb).2.2.2.2.1 x c (cl2 x c e)⟩,
      I3.bs,Nat.le_trans I.ok.bsz I3.sz,fun b o e hb=>?_,fun b hb=>fpS b hb,I3.stack,I3.stkFree⟩
    · have hm : (x,NameKind.free) ∈ scope.names:=J4o cs.cell hx
      obtain ⟨c,hc⟩:=I.ok.has x (cs.free _ hm rfl)
      exact ⟨c,(cl1 _ hm rfl).trans hc⟩
    · rcases (f2 b hb).2.2.2.1 with z | z
      · exact I.ok.noex b o e z
      · exact absurd (Nat.lt_of_lt_of_le (Heap.lt_size e) (Nat.le_trans I.ok.bsz z)) (Nat.lt_irrefl _)
  have cellK : ∀ c v,s3.heap.IsCell c v → h₁.IsCell c v:=fun c v ⟨o,ho,hd⟩=>⟨o,up2 c o ho,hd⟩
  have I4 : ∀ t : Nat,Inv (J1e X scope N s3 H3 cl s3.heap.objs.size fp) [] (subσ js σ) H3 { s2 with heap:=h₁,toks:=t }:=fun t=>by
    refine ⟨ok',e3o.symm,I2.bare,Un.kept up2,⟨_,hns₁,fun i x v hi hv hx=>?_⟩,fun x c e=>?_,I3.hok.fresh (Nat.le_refl _),fun x c e=>I3.freeC x c (cl2 x c e),fun p hp=>(nomatch hp),I3.hok.kept up2,?_⟩
    ·
      have hv' : ∃ j,js[i]? = some (some j) ∧ σ[j]? = some (some v):=by
        unfold subσ at hv
        rw [List.getElem?_map] at hv
        cases hj : js[i]? with
        | none=>rw [hj] at hv; cases hv
        | some o =>
          rw [hj] at hv
          cases o with
          | none=>cases hv
          | some j =>
            refine ⟨j,rfl,?_⟩
            have hv2 : (σ[j]?).join = some v:=Option.some.inj hv
            cases hs2 : σ[j]? with
            | none=>rw [hs2] at hv2; cases hv2
            | some u=>rw [hs2] at hv2; exact congrArg some hv2
      obtain ⟨j,hj,hσ⟩:=hv'
      obtain ⟨x',h1',h2',h3'⟩:=cs.sub i j hj
      have hxx : x = x':=Option.some.inj (hi.symm.trans h1')
      subst hxx
      have hm : (x,NameKind.free) ∈ scope.names:=mem_of_lookup h3'
      have hk:=cs.free _ hm rfl
      obtain ⟨m,hn,hl⟩:=id I3.loc
      obtain ⟨u,ru,lk⟩:=hl j x v h2' hσ (by rcases hk with z | z; exact .inr (.inl z); exact .inr (.inr z))
      refine ⟨u,ru,?_⟩
      rcases lk with ⟨k1,_⟩ | ⟨k1,c,e1,z⟩
      · rcases hk with z | z <;> (rw [show X.env.kindOf x = _ from z] at k1; cases k1)
      · exact .inr ⟨J1P h3',c,(cl1 _ hm rfl).trans e1,cellK c _ z⟩
    · obtain ⟨v,z⟩:=I3.cell x c (cl2 x c e)
      exact ⟨v,cellK c v z⟩
    · unfold subσ
      rw [List.length_map]
      exact cs.len
  have hst₁ : tn 0 h₁:=T.keep 0 _ _ st2 fun b hb o q=>up2 b o (up1 b o q)
  have stat : ∀ {H' : Hp},(∀ b ∈ fp,H' b = none) → ∀ b ∈ fp,FpOk (J1e X scope N s3 H3 cl s3.heap.objs.size fp) [] H' b:=fun hn b hb =>
    ⟨hn b hb,fpC b hb,fpS b hb,.inl hb,fun x c e=>(f2 b hb).2.2.2.2.1 x c (cl2 x c e),fun p hp=>(nomatch hp)⟩
  have loop : ∀ s4 : Shared,(∃ t,s4 = { s2 with heap:=h₁,toks:=t }) →
      codeAny (model X.prog X.w) X.A (.compLoop (.ListComp elt [⟨tg,iter,ifs,0⟩] scope pos) 0 (.ref it) (.ref s2.heap.objs.size) (compEnvC scope cl s3.heap.objs.size X.env))
        (compPost (model X.prog X.w) X.A X.xe none (EP X pins σ Q) (.ref s2.heap.objs.size) s3.heap.objs.size) s4:=by
    rintro s4 ⟨t,rfl⟩
    refine J5P (fun n s'=>∃ i σ' ys H',Inv (J1e X scope N s3 H3 cl s3.heap.objs.size fp) [] σ' H' s' ∧ tn i s'.heap ∧ (∀ b ∈ fp,H' b = none) ∧ W i n σ' ys H') ?_ m0 ⟨0,_,[],H3,I4 t,hst₁,fr3,w0⟩
    rintro n s5 ⟨i,σ5,ys,H5,I5,st5,fr5,w5⟩
    rcases turn i n σ5 ys H5 w5 with ⟨stop,qn⟩ | ⟨go,step⟩
    · refine thn (T.done (J1e X scope N s3 H3 cl s3.heap.objs.size fp) rfl rfl rfl hc i [] s5 σ5 H5 _ I5 (stat fr5) st5 stop) fun r s6 ⟨hr,I6⟩=>?_
      subst hr
      obtain ⟨m,hn,_⟩:=id I6.loc
      refine ⟨m,hn,fun h' hs'=>⟨.ref s2.heap.objs.size,H5,?_,rfl,qn⟩⟩
      have neC : ∀ b o,s3.heap.get? b = some o → b ≠ s3.heap.objs.size:=fun b o q=>Nat.ne_of_lt (Heap.lt_size q)
      have un : Un (frs X.stack) fp H3 H5 s3.heap h' :=
        ⟨fun b o q n1 hb hx=>(hs'.2 b (neC b o q)).trans (I6.base.keep b o q n1 hb hx),
         fun b o q n1 hb hx=>by
           obtain ⟨sl,e⟩:=I6.base.slot b o q n1 hb hx
           exact ⟨sl,(hs'.2 b (neC b o q)).trans e⟩,
         fun b o q n1 hx=>I6.base.free b o q n1 hx,
         fun b o q hx=>by
           obtain ⟨o',e⟩:=I6.base.there b o q hx
           exact ⟨o',(hs'.2 b (neC b o q)).trans e⟩,
         I6.base.tups,I6.base.frzs,I6.base.tbls⟩
      refine I3.call' (ch:=fp) (s':={ s6 with heap:=h' }) I6.os un (fun b ob e=>?_) I6.bare (fun b hb=>⟨(f2 b hb).2.2.2.1,(f2 b hb).2.1,(f2 b hb).2.2.2.2.1,(f2 b hb).2.2.2.2.2⟩)
      refine (I6.hok b ob e).stay (fun c w' hc' q=>(hs'.2 c ?_).trans q) (fun _ q=>q) fun _ _ q=>q
      rintro rfl
      have fC : H5 s3.heap.objs.size = none:=I6.free
      rcases hc' with z | z
      · rw [← z,fC] at e; cases e
      · rw [fC] at z; cases z
    · refine thn (T.item (J1e X scope N s3 H3 cl s3.heap.objs.size fp) rfl rfl rfl hc i [] s5 σ5 H5 _ I5 (stat fr5) st5 go) fun r s6 ⟨u,hr,h6⟩=>?_
      subst hr
      refine thn h6 fun _ s7 ⟨x,H7,I7,r7,y7,st7,fr7⟩=>?_
      have I7':=I7.pinned (stat fr7) (T.obj _ _ st7)
      refine thn (hg _ _ _ _ _ _ s7 σ5 H7 x u _ I7' r7 (step x H7 y7)) fun _ s8 ⟨σ8,H8,I8,q8⟩=>?_
      refine thn (hif _ _ _ _ _ _ s8 σ8 H8 _ I8 q8) fun ok s9 ⟨H9,I9,q9⟩=>?_
      have again : ∀ {σ' : St} {H' : Hp} {s' : Shared},Inv (J1e X scope N s3 H3 cl s3.heap.objs.size fp) ([] ++ J6c fp s7.heap) σ' H' s' →
          Inv (J1e X scope N s3 H3 cl s3.heap.objs.size fp) [] σ' H' s' ∧ tn (i + 1) s'.heap ∧ ∀ b ∈ fp,H' b = none:=fun {σ' H' s'} I'=>by
        refine ⟨I'.unpinned,T.keep _ _ _ st7 fun b hb o e=>(I'.pin (b,o) (List.mem_append_right _ (List.mem_append_right _ (J29 hb e)))).1,fun b hb=>?_⟩
        obtain ⟨o,e,d⟩:=T.obj _ _ st7 b hb
        exact (I'.pin (b,o) (List.mem_append_right _ (List.mem_append_right _ (J29 hb e)))).2.1
      cases ok with
      | false =>
        rw [if_neg Bool.false_ne_true] at q9 ⊢
        obtain ⟨m',hm,w9⟩:=q9
        obtain ⟨a1,a2,a3⟩:=again I9
        exact ⟨m',hm,i + 1,σ8,ys,H9,a1,a2,a3,w9⟩
      | true =>
        rw [if_pos rfl] at q9 ⊢
        refine thn (he _ _ _ _ _ _ s9 σ8 H9 _ I9 q9) fun yv s10 ⟨y,H10,I10,r10,q10⟩=>?_
        obtain ⟨hD,hz,m',hm,w10⟩:=q10
        refine thn (JP (X:=J1e X scope N s3 H3 cl s3.heap.objs.size fp) _ s10 σ8 H10 (.ref s2.heap.objs.size) [y] (.ref s2.heap.objs.size) [yv] (fun v H'=>H' = upd H10 s2.heap.objs.size (.lst (ys ++ [y]))) I10 rfl (.cons r10 .nil)
          ⟨s2.heap.objs.size,ys,y,rfl,rfl,hD,hz,rfl⟩) fun _ s11 ⟨v11,H11,I11,_,e11⟩=>?_
        have e11' : H11 = upd H10 s2.heap.objs.size (.lst (ys ++ [y])):=e11
        subst e11'
        obtain ⟨a1,a2,a3⟩:=again I11
        exact ⟨m',hm,i + 1,σ8,ys ++ [y],_,a1,a2,a3,w10⟩
  exact codeAny_compStart_list (loop _ ⟨_,rfl⟩) (T.self X.A 0 _ _ _ hst₁ (loop _ ⟨_,rfl⟩))
end
structure J6y (J : It) (H0 : Hp) (xs : List V) : Prop where
 go : ∀ i H,Same H0 H → i < xs.length → J.go i H
 yld : ∀ i H x H',Same H0 H → i < xs.length → J.yld i H x H' → H' = H ∧ xs[i]? = some x
 stop : ∀ H,Same H0 H → J.stop xs.length H
theorem J0L {K : PySem.W.Frag} {a : Addr} {H : Hp} {xs : List V} (h : SqL K H a xs) : J6y (Itl K a) H xs where
 go:=fun i H' s hi=>⟨xs,xs[i],s.seq h,by simp [hi]⟩
 yld:=fun i H' x H'' s hi y=>⟨y.1,y.2 xs (s.seq h)⟩
 stop:=fun H' s=>⟨xs,s.seq h,Nat.le_refl _⟩
theorem J3h {H : Hp} (lo : Int) (n : Nat) : J6y (Itr lo n) H ((List.range n).map fun i=>.int (lo + (i : Nat))) where
 go:=fun i H' s hi=>by rw [List.length_map,List.length_range] at hi; exact hi
 yld:=fun i H' x H'' s hi y=>by
  rw [List.length_map,List.length_range] at hi
  refine ⟨y.1,?_⟩
  rw [List.getElem?_map,List.getElem?_range hi]
  exact congrArg some y.2.symm
 stop:=fun H' s=>by rw [List.length_map,List.length_range]; exact Nat.le_refl _
theorem JF {H : Hp} {p : Addr} (h : H p = none) (o : HO) : Same H (upd H p o):=fun b u q=>by rw [Jj (Jc q h)]; exact q
theorem Same.upd {H H' : Hp} {p : Addr} {o : HO} (s : Same H H') (h : H p = none) : Same H (upd H' p o):=fun b u q=>by rw [Jj (Jc q h)]; exact s b u q
theorem Jfz {J : It} {H : Hp} {xs : List V} {σ0 : St} {k : Nat} {tc : TT} {te : TE} {Q : VK} (p : V → Bool) (f : V → V) (hJ : J6y J H xs) (hx : xs.length ≤ 1000000)
  (hc : ∀ x ∈ xs,∀ H',Same H H' → ∀ R : Bool → Hp → Prop,(∀ H'',Same H' H'' → R (p x) H'') → tc (σ0.set k (some x)) H' R)
  (he : ∀ x ∈ xs,p x = true → ∀ H',Same H H' → ∀ R : VK,(∀ H'',Same H' H'' → R (f x) H'') → te (σ0.set k (some x)) H' R)
  (hQ : ∀ D H',H D = none → Same H H' → H' D = some (.lst ((xs.filter p).map f)) → Q (.ref D) H') :
  J7O J H σ0 (J4H k) tc te Q:=by
 intro D hD
 refine ⟨fun i m σ1 ys H'=>m = xs.length - i ∧ i ≤ xs.length ∧ (σ1 = σ0 ∨ ∃ v,σ1 = σ0.set k v) ∧ ys = ((xs.take i).filter p).map f ∧ H' D = some (.lst ys) ∧ Same H H',⟨xs.length,by simp,Nat.zero_le _,.inl rfl,rfl,Je,JF hD _⟩,?_⟩
 rintro i m σ1 ys H' ⟨rfl,hi,hσ,rfl,hDD,hs⟩
 by_cases hlt : i < xs.length
 ·refine .inr ⟨hJ.go i H' hs hlt,fun x H'' hy=>?_⟩
  obtain ⟨e1,hx1⟩:=hJ.yld i H' x H'' hs hlt hy
  subst e1
  have hm : x ∈ xs:=List.mem_of_getElem? hx1
  have hset : σ1.set k (some x) = σ0.set k (some x):=by
   rcases hσ with rfl | ⟨v,rfl⟩
   ·rfl
   ·rw [List.set_set]
  show tc (σ1.set k (some x)) H'' _
  rw [hset]
  have tk : ((xs.take (i + 1)).filter p).map f = ((xs.take i).filter p).map f ++ (if p x = true then [f x] else []):=by
   rw [List.take_add_one,hx1,List.filter_append,List.map_append]
   cases hp : p x <;> simp [hp]
  refine hc x hm H'' hs _ fun H3 s3=>?_
  have s03 : Same H H3:=hs.trans s3
  have lenk : (((xs.take i).filter p).map f).length < sizeLine:=by
   have h1:=List.length_filter_le p (xs.take i)
   rw [List.length_take] at h1
   rw [List.length_map]
   have : (1000001 : Nat) ≤ sizeLine:=by decide
   omega
  refine ite2 (fun hp=>?_) (fun hp=>?_)
  ·refine he x hm hp H3 s03 _ fun H4 s4=>⟨s4 _ _ (s3 _ _ hDD),lenk,xs.length - (i + 1),by omega,rfl,hlt,.inr ⟨_,rfl⟩,?_,?_,?_⟩
   ·rw [tk,if_pos hp]
   ·exact Je
   ·exact (s03.trans s4).upd hD
  ·refine ⟨xs.length - (i + 1),by omega,rfl,hlt,.inr ⟨_,rfl⟩,?_,s3 _ _ hDD,s03⟩
   rw [tk,if_neg hp,List.append_nil]
 ·have e : i = xs.length:=by omega
  subst e
  refine .inl ⟨hJ.stop H' hs,hQ D H' hD hs ?_⟩
  rw [hDD,List.take_length]
theorem J7E {J : It} {H : Hp} {xs : List V} {σ0 : St} {k : Nat} {te : TE} {Q : VK} (f : V → V) (hJ : J6y J H xs) (hx : xs.length ≤ 1000000)
  (he : ∀ x ∈ xs,∀ H',Same H H' → ∀ R : VK,(∀ H'',Same H' H'' → R (f x) H'') → te (σ0.set k (some x)) H' R)
  (hQ : ∀ D H',H D = none → Same H H' → H' D = some (.lst (xs.map f)) → Q (.ref D) H') :
  J7O J H σ0 (J4H k) tYes te Q :=
 Jfz (fun _=>true) f hJ hx (fun x _ H' _ R hR=>hR H' (Same.refl _)) (fun x hm _=>he x hm) (fun D H' h1 h2 h3=>hQ D H' h1 h2 (by rw [h3,List.filter_eq_self.mpr fun _ _=>rfl]))
end L2
set_option linter.all false
set_option maxRecDepth 100000
set_option maxHeartbeats 4000000
namespace L2
open PySem PySem.Spec PyProof.Rows
noncomputable abbrev T (l : List Nat) : V:=.str ⟨l.toArray⟩
theorem J1M {a b : List Nat} (h : T a = T b) : a = b:=by
 have h1 : (⟨a.toArray⟩ : Str) = ⟨b.toArray⟩:=V.str.inj h
 have h2 : a.toArray = b.toArray:=congrArg Str.cps h1
 simpa using h2
theorem J3l (l : List Nat) : (⟨l.toArray⟩ : Str).length = l.length:=by simp [Str.length]
theorem JaJ (a b : List Nat) : (⟨a.toArray⟩ : Str) ++ ⟨b.toArray⟩ = ⟨(a ++ b).toArray⟩:=by
 show (⟨a.toArray ++ b.toArray⟩ : Str) = _
 simp
section
variable {X : Cx}
theorem Jk {x : Str} {l : List Nat} {j pos} (h : x = ⟨l.toArray⟩) : PE X (.Constant (.str x) j pos) (tC (T l)):=by subst h; exact Jgz
noncomputable def Jhe : R2:=fun x y H Q=>∃ a b,x = T a ∧ y = T b ∧ a.length + b.length ≤ sizeLine ∧ Q (T (a ++ b)) H
theorem Jn : OpR X (binaryOp .Add) Jhe:=by
 intro pins s σ H x y v u Q I rx ry h
 obtain ⟨a,b,rfl,rfl,hz,q⟩:=h
 exact Jbv pins s σ H _ _ v u Q I rx ry ⟨_,_,rfl,rfl,by rw [J3l,J3l]; exact hz,by rw [JaJ]; exact q⟩
noncomputable def Jh9 : R2:=fun x y H Q=>∃ l i c,x = T l ∧ y = .int i ∧ l.length ≤ sizeLine ∧ atI l i = some c ∧ Q (T [c]) H
theorem J4l : IxR X Jh9:=by
 intro value slice pins s σ H x y v u Q I rx ry h hs
 obtain ⟨l,i,c,rfl,rfl,hz,he,q⟩:=h
 exact Jgh value slice pins s σ H _ _ v u Q I rx ry ⟨_,i,c,rfl,rfl,by rw [J3l]; exact hz,by simpa using he,q⟩ hs
theorem JbC : OpR X (compareOp .In) (fun x y H Q=>∃ c m,x = T [c] ∧ y = T m ∧ Q (.bl (decide (c ∈ m))) H):=by
 intro pins s σ H x y v u Q I rx ry h
 obtain ⟨c,m,rfl,rfl,q⟩:=h
 refine JcM pins s σ H _ _ v u Q I rx ry ⟨_,_,rfl,rfl,?_⟩
 have e:=StrLaws.found_one ⟨m.toArray⟩ c
 rw [show (!(Builtin.Str.occurrences ⟨m.toArray⟩ ⟨[c].toArray⟩ 0 (⟨m.toArray⟩ : Str).length 1).isEmpty) = decide (c ∈ m) from by simpa using e]
 exact q
theorem JT : J21 X (.builtin "len") (fun xs H Q=>∃ l,xs = [T l] ∧ l.length ≤ sizeLine ∧ Q (.int l.length) H):=by
 intro pins s σ H xs us Q I r h
 obtain ⟨l,rfl,hz,q⟩:=h
 exact J9v pins s σ H _ us Q I r ⟨_,rfl,by rw [J3l]; exact hz,by rw [J3l]; exact q⟩
end
noncomputable def cutN {α : Type} (xs : List α) (lo hi : Option Int) : List α:=(xs.drop (HT.sIx xs.length 0 lo)).take (HT.sIx xs.length xs.length hi - HT.sIx xs.length 0 lo)
noncomputable def JdQ (n : Nat) (d : Int) : Option Int → Int
 | none=>d
 | some i=>max 0 (min (if i < 0 then i + (n : Int) else i) (n : Int))
theorem JaD (n d : Nat) (o : Option Int) : JdQ n (d : Int) o = ((HT.sIx n d o : Nat) : Int):=by
 cases o with
 | none=>rfl
 | some i =>
  show max 0 (min (if i < 0 then i + (n : Int) else i) (n : Int)) = (((if i < 0 then (i + (n : Int)).toNat else min i.toNat n) : Nat) : Int)
  by_cases hi : i < 0
  ·rw [if_pos hi,if_pos hi]; omega
  ·rw [if_neg hi,if_neg hi]; omega
theorem Jgt (a b : Nat) : sliceRange (a : Int) (b : Int) 1 = (List.range (b - a)).map fun k=>a + k:=by
 unfold sliceRange
 simp only [show (1 : Int) > 0 by decide,if_true]
 have e1 : (if (a : Int) < (b : Int) then ((b : Int) - (a : Int) + 1 - 1) / 1 else 0).toNat = b - a:=by
  split <;> simp <;> omega
 rw [e1]
 refine List.map_congr_left fun k _=>?_
 omega
theorem J9H (lo hi : Option Int) (n : Nat) : Builtin.Str.strSliceIndices lo hi 1 n = (List.range (HT.sIx n n hi - HT.sIx n 0 lo)).map fun k=>HT.sIx n 0 lo + k:=by
 have e : Builtin.Str.strSliceIndices lo hi 1 n = sliceRange (JdQ n ((0 : Nat) : Int) lo) (JdQ n ((n : Nat) : Int) hi) 1:=by
  cases lo <;> cases hi <;> rfl
 rw [e,JaD,JaD,Jgt]
theorem Jh8 (l : List Nat) (i k : Nat) : ((List.range k).map fun m=>i + m).filterMap (fun j=>l.toArray[j]?) = (l.drop i).take k:=by
 induction k generalizing i with
 | zero=>simp
 | succ k ih =>
  rw [List.range_succ_eq_map,List.map_cons,List.filterMap_cons,List.map_map]
  have e : ((fun m=>i + m) ∘ Nat.succ) = fun m=>(i + 1) + m:=by funext m; simp; omega
  rw [e,ih (i + 1)]
  by_cases h : i < l.length
  ·have : l.toArray[i + 0]? = some l[i]:=by simp [h]
   rw [this,List.drop_eq_getElem_cons h,List.take_succ_cons]
  ·have : l.toArray[i + 0]? = none:=by simp; omega
   rw [this,List.drop_eq_nil_of_le (by omega),List.drop_eq_nil_of_le (by omega)]
   simp
theorem JcK {α : Type} {l : List α} {lo hi : Option Int} (h : (cutN l lo hi).length = l.length) : cutN l lo hi = l:=by
 unfold cutN at h ⊢
 rw [List.length_take,List.length_drop] at h
 have h2:=HT.sIx_le l.length l.length (Nat.le_refl _) hi
 by_cases h0 : l.length = 0
 ·have : l = []:=List.length_eq_zero_iff.mp h0
  subst this; simp
 ·have e0 : HT.sIx l.length 0 lo = 0:=by omega
  rw [e0,List.drop_zero]
  exact List.take_of_length_le (by omega)
theorem JcY (l : List Nat) (lo hi : Option Int) : Txt.slice ⟨l.toArray⟩ lo hi = ⟨(cutN l lo hi).toArray⟩:=by
 unfold Txt.slice
 rw [J3l,J9H]
 have e:=Jh8 l (HT.sIx l.length 0 lo) (HT.sIx l.length l.length hi - HT.sIx l.length 0 lo)
 have e2 : ((List.range (HT.sIx l.length l.length hi - HT.sIx l.length 0 lo)).map fun k=>HT.sIx l.length 0 lo + k).filterMap (fun x=>(⟨l.toArray⟩ : Str).cps[x]?) = cutN l lo hi:=e
 by_cases h : ((1 : Int) == 1 && ((List.range (HT.sIx l.length l.length hi - HT.sIx l.length 0 lo)).map fun k=>HT.sIx l.length 0 lo + k).length == l.length) = true
 ·rw [if_pos h]
  have h' : HT.sIx l.length l.length hi - HT.sIx l.length 0 lo = l.length:=by
   have:=((Bool.and_eq_true _ _).mp h).2
   simpa using this
  have : (cutN l lo hi).length = l.length:=by
   unfold cutN
   rw [List.length_take,List.length_drop]
   have:=HT.sIx_le l.length l.length (Nat.le_refl _) hi
   omega
  rw [JcK this]
 ·rw [if_neg h,e2]
section
variable {X : Cx}
noncomputable def rSlS : V → Option Int → Option Int → Hp → VK → Prop:=fun x lo hi H Q=>∃ l,x = T l ∧ l.length ≤ sizeLine ∧ Q (T (cutN l lo hi)) H
theorem JbO : SlR X rSlS:=by
 intro pins s σ H x v vl vu lo hi sl Q I rx hs pl pu h
 obtain ⟨l,rfl,hz,q⟩:=h
 obtain ⟨t,rfl⟩:=rx
 refine ⟨"str",_,F.slot_str_getitem.lookup,typeIs_str _ _ _,?_⟩
 have fin : ∀ t' k,EP X pins σ Q (.str (Txt.slice ⟨l.toArray⟩ lo hi) t') { s with toks:=k }:=fun t' k=>⟨T (cutN l lo hi),H,I.tok _,⟨t',by rw [JcY]⟩,q⟩
 have hlen : (Txt.slice ⟨l.toArray⟩ lo hi).length ≤ sizeLine:=Nat.le_trans (Txt.slice_le _ _ _) (by rw [J3l]; exact hz)
 cases pl with
 | none =>
  cases pu with
  | none=>exact wpAny_getItem_str_slice (l:=none) (u:=none) (st:=none) hs rfl (post_val_or_str ⟨hlen,fin⟩)
  | int j uj=>exact wpAny_getItem_str_slice (l:=none) (u:=some (j,uj)) (st:=none) hs rfl (post_val_or_str ⟨hlen,fin⟩)
 | int i ui =>
  cases pu with
  | none=>exact wpAny_getItem_str_slice (l:=some (i,ui)) (u:=none) (st:=none) hs rfl (post_val_or_str ⟨hlen,fin⟩)
  | int j uj=>exact wpAny_getItem_str_slice (l:=some (i,ui)) (u:=some (j,uj)) (st:=none) hs rfl (post_val_or_str ⟨hlen,fin⟩)
end
theorem Jf9 (l : List Nat) (u : Tok) : Txt.sliceBy ⟨l.toArray⟩ none none (-1,u) = ⟨l.reverse.toArray⟩:=by
 have h:=step_rev_list ⟨l.toArray⟩ u
 have e : ((List.range (⟨l.toArray⟩ : Str).length).map fun k=>(⟨l.toArray⟩ : Str).cps.getD ((⟨l.toArray⟩ : Str).length - 1 - k) 0) = l.reverse:=by
  rw [J3l]
  refine List.ext_getElem? fun i=>?_
  rw [List.getElem?_map]
  by_cases hi : i < l.length
  ·rw [List.getElem?_range hi,List.getElem?_reverse hi]
   have hj : l.length - 1 - i < l.length:=by omega
   rw [List.getElem?_eq_getElem hj]
   simp [hj]
  ·rw [List.getElem?_eq_none (by simpa using hi),List.getElem?_eq_none (by simpa using hi)]
   rfl
 rw [e] at h
 generalize Txt.sliceBy ⟨l.toArray⟩ none none (-1,u) = z at h
 obtain ⟨⟨zl⟩⟩:=z
 have h' : zl = l.reverse:=h
 rw [h']
noncomputable def tRev (te t3 : TE) : TE:=fun σ H Q=>te σ H fun x H1=>t3 σ H1 fun y H2=>y = .int (-1) ∧ ∃ l,x = T l ∧ l.length ≤ sizeLine ∧ Q (T l.reverse) H2
theorem Jgo {X : Cx} {e e3 : Expr} {te t3 : TE} {pos p2 : Pos} (he : PE X e te) (h3 : PE X e3 t3) : PE X (.Subscript e (.Slice none none (some e3) p2) pos) (tRev te t3):=by
 intro pins s σ H Q I h
 refine Subscript_ (thn (he pins s σ H _ I h) fun v s1 ⟨x,H1,I1,r1,q1⟩=>?_)
 refine wpAny_Slice ?_
 rw [evalPart_none]
 refine wpAny_pure ?_
 refine wpAny_pure ?_
 rw [evalPart_some]
 refine thn (h3 pins s1 σ H1 _ I1 q1) fun vs s2 ⟨y,H2,I2,r2,hy,l,hx,hz,q⟩=>?_
 subst hy hx
 obtain ⟨t,rfl⟩:=r1
 obtain ⟨uk,rfl⟩:=r2
 have I4 : Inv X pins σ H2 { s2 with heap:=s2.heap.push { cls:=.type "slice",data:=.fields #[.none,.none,.int (-1) uk] } }:=I2.kept (t':=s2.toks) fun b ob q=>Heap.get?_push_of_some _ q
 have fin : ∀ t' k,EP X pins σ Q (.str (Txt.sliceBy ⟨l.toArray⟩ none none (-1,uk)) t') { s2 with heap:=s2.heap.push { cls:=.type "slice",data:=.fields #[.none,.none,.int (-1) uk] },toks:=k }:=fun t' k=>⟨T l.reverse,H2,I4.tok _,⟨t',by rw [Jf9]⟩,q⟩
 have hlen : (Txt.sliceBy ⟨l.toArray⟩ none none (-1,uk)).length ≤ sizeLine:=Nat.le_trans (Txt.sliceBy_le _ _ _ _ (show (-1 : Int) ≠ 0 by decide)) (by rw [J3l]; exact hz)
 show wpAny (model X.prog X.w) X.A (subscriptTail e (.Slice none none (some e3) p2) (.str ⟨l.toArray⟩ t) (.ref s2.heap.objs.size)) (EP X pins σ Q) X.xe { s2 with heap:=s2.heap.push { cls:=.type "slice",data:=.fields #[.none,.none,.int (-1) uk] } }
 refine tail_any (ops:=[.ref s2.heap.objs.size,.str ⟨l.toArray⟩ t]) (typeIs_str _ _ _) F.slot_str_getitem.lookup ?_ (by with_unfolding_all rfl)
 exact wpAny_getItem_str_slice (l:=none) (u:=none) (st:=some (-1,uk)) ⟨_,Heap.get?_push_size _ rfl,rfl,rfl⟩ (by rfl) (post_val_or_str ⟨hlen,fin⟩)
noncomputable def Its (l : List Nat) : It:=⟨fun i _=>i < l.length,fun i H x H'=>H' = H ∧ ∃ c,l[i]? = some c ∧ x = T [c],fun i _=>l.length ≤ i⟩
theorem Je3 {P : Program} {w : World} {K : PySem.W.Frag} {tg : Expr} {it : Addr} {l : List Nat} {t : Tok} {nm : String} (hn : nm = "str_ascii_iterator" ∨ nm = "str_iterator") :
  Turn P w K tg (Its l) [it] it (fun i h=>h.IsStrIter it nm ⟨l.toArray⟩ t i) where
 mem:=by simp
 obj:=fun i h st b hb=>by
  have e : b = it:=by simpa using hb
  subst e
  obtain ⟨o,e,c,d⟩:=st
  exact ⟨o,e,fun v z=>by rw [d] at z; cases z⟩
 keep:=fun i h h' st k=>by
  obtain ⟨o,e,r⟩:=st
  exact ⟨o,k it (by simp) o e,r⟩
 item:=by
  intro X hP hw hK hc i pins s σ H E I hf st hg
  subst hP hw hK
  obtain ⟨f0,f1,f2,f3,f4,f5⟩:=hf it (by simp)
  have hi : i < l.length:=hg
  have hx : (⟨l.toArray⟩ : Str).cps[i]? = some l[i]:=by simp [hi]
  have fin : ∀ h',h'.IsStrIter it nm ⟨l.toArray⟩ t (i + 1) → Heap.SameBut it s.heap h' → ∃ u,(some (Value.str ⟨#[l[i]]⟩ s.toks) : Option Value) = some u ∧
    wpAny (model X.prog X.w) X.A (letOwnedTupleGo tg (.ref it) u) (fun _ s2=>∃ x H',Inv X pins σ H' s2 ∧ RelV x u ∧ (Its l).yld i H x H' ∧ s2.heap.IsStrIter it nm ⟨l.toArray⟩ t (i + 1) ∧ ∀ b ∈ [it],H' b = none) E { s with heap:=h',toks:=s.toks + 1 }:=fun h' st' sb=>by
   have I1 : Inv X pins σ H { s with heap:=h',toks:=s.toks + 1 }:=I.turned (t':=s.toks + 1) (fun b o hb e=>(sb.2 b hb).trans e) f0 f1 f3 f4 f5
   obtain ⟨o,e,c,d⟩:=id st'
   refine ⟨_,rfl,Jeb (s:={ s with heap:=h',toks:=s.toks + 1 }) e c d (by rcases hn with rfl | rfl <;> decide) ⟨T [l[i]],H,I1,⟨_,rfl⟩,⟨rfl,l[i],by simp [hi],rfl⟩,st',fun b hb=>(hf b hb).1⟩⟩
  rcases hn with rfl | rfl
  ·exact wpAny_pyNext_ascii_item st hx fin
  ·exact wpAny_pyNext_wide_item st hx fin
 done:=by
  intro X hP hw hK hc i pins s σ H E I hf st hg
  subst hP hw hK
  obtain ⟨f0,f1,f2,f3,f4,f5⟩:=hf it (by simp)
  have hi : l.length ≤ i:=hg
  have hx : (⟨l.toArray⟩ : Str).cps[i]? = none:=by simp; exact hi
  have fin : ∀ h',Heap.ExtBut it s.heap h' → (none : Option Value) = none ∧ Inv X pins σ H { s with heap:=h' }:=fun h' eb=>⟨rfl,I.turned (t':=s.toks) (fun b o hb e=>eb b o hb e) f0 f1 f3 f4 f5⟩
  rcases hn with rfl | rfl
  ·exact wpAny_pyNext_ascii_end (I.ok.hd hc) st hx fin
  ·exact wpAny_pyNext_wide_end (I.ok.hd hc) st hx fin
 self:=fun _ _ _ _ _ st h=>by
  rcases hn with rfl | rfl
  ·exact wpAny_pyIter_striter_ascii st h
  ·exact wpAny_pyIter_striter_wide st h
section
variable {X : Cx} {tg : Expr}
noncomputable def iTxt (tl : TE) : TI:=fun σ H R=>tl σ H fun x H1=>∃ l,x = T l ∧ R (Its l) H1
theorem Jgk {e : Expr} {tl : TE} (hl : PE X e tl) : PI X tg e (iTxt tl):=by
 intro pins s σ H R I h
 refine thn (hl pins s σ H _ I h) fun v s1 ⟨x,H1,I1,r1,q1⟩=>?_
 obtain ⟨l,e,q⟩:=q1
 subst e
 obtain ⟨t,rfl⟩:=r1
 have fin : ∀ nm : String,(nm = "str_ascii_iterator" ∨ nm = "str_iterator") → PIE X pins σ tg R (.ref s1.heap.objs.size) { s1 with heap:=s1.heap.push { cls:=.type nm,data:=.fields #[.str ⟨l.toArray⟩ t,.int 0 0] } }:=fun nm hn=>by
  refine ⟨s1.heap.objs.size,[s1.heap.objs.size],_,_,H1,rfl,I1.kept (t':=s1.toks) fun b o e=>Heap.get?_push_of_some _ e,Je3 (t:=t) hn,⟨_,Heap.get?_push_size _ rfl,rfl,rfl⟩,fun b hb=>?_,q⟩
  have e : b = s1.heap.objs.size:=by simpa using hb
  subst e
  exact I1.fpOk (Nat.le_refl _) (I1.hok.fresh (Nat.le_refl _))
 cases ha : (⟨l.toArray⟩ : Str).cps.all (· < 128) with
 | true=>exact wpAny_pyIter_ascii ha (fin _ (.inl rfl))
 | false=>exact wpAny_pyIter_wide ha (fin _ (.inr rfl))
end
theorem JcP {H : Hp} (l : List Nat) : J6y (Its l) H (l.map fun c=>T [c]) where
 go:=fun i H' s hi=>by rw [List.length_map] at hi; exact hi
 yld:=fun i H' x H'' s hi y=>by
  obtain ⟨e,c,hc,rfl⟩:=y
  exact ⟨e,by rw [List.getElem?_map,hc]; rfl⟩
 stop:=fun H' s=>by rw [List.length_map]; exact Nat.le_refl _
theorem J8m : ∀ {ts : List (List Nat)} {us : List Value},Vals (ts.map T) us → PyProof.Rows.StrsAre us (ts.map fun l=>⟨l.toArray⟩)
 | [],_,h=>by cases h; exact .nil
 | l :: r,_,h=>by
  cases h with
  | cons r1 r2 =>
   obtain ⟨t,rfl⟩:=r1
   exact .cons _ t (J8m r2)
noncomputable def JV (sep : List Nat) : List (List Nat) → List Nat
 | []=>[]
 | [x]=>x
 | x :: y :: r=>x ++ sep ++ JV sep (y :: r)
theorem JaO (sep : List Nat) : ∀ ts : List (List Nat),Str.join ⟨sep.toArray⟩ (ts.map fun l=>⟨l.toArray⟩) = ⟨(JV sep ts).toArray⟩
 | []=>rfl
 | [x]=>rfl
 | x :: y :: r=>by
  show (⟨x.toArray⟩ : Str) ++ ⟨sep.toArray⟩ ++ Str.join ⟨sep.toArray⟩ ((y :: r).map fun l=>⟨l.toArray⟩) = _
  rw [JaO sep (y :: r),JaJ,JaJ]
  rfl
theorem J41 : ∀ ts : List (List Nat),JV [] ts = ts.flatten
 | []=>rfl
 | [x]=>by simp [JV]
 | x :: y :: r=>by
  show x ++ [] ++ JV [] (y :: r) = _
  rw [J41 (y :: r),List.append_nil]
  rfl
theorem J4B : ∀ cs : List Nat,(((cs.map fun c=>[c]).map List.length).sum) = cs.length
 | []=>rfl
 | c :: r=>by
  rw [List.map_cons,List.map_cons,List.sum_cons,J4B r]
  simp
  omega
theorem J46 : ∀ cs : List Nat,(cs.map fun c=>[c]).flatten = cs
 | []=>rfl
 | c :: r=>by
  rw [List.map_cons,List.flatten_cons,J46 r]
  rfl
section
variable {X : Cx}
noncomputable def JdY (K : PySem.W.Frag) : V → List V → Hp → VK → Prop:=fun x vs H Q=>∃ sep ts D,x = T sep ∧ vs = [.ref D] ∧ SqL K H D (ts.map T) ∧ (ts.map List.length).sum + ts.length * sep.length ≤ 16777216 ∧ Q (T (JV sep ts)) H
theorem Jfp : MtR X "str.join" (JdY X.K):=by
 intro pins s σ H x vs v us Q I rx rv h
 obtain ⟨sep,ts,D,rfl,rfl,hq,hz,q⟩:=h
 obtain ⟨t,rfl⟩:=rx
 obtain ⟨u,rfl,ru⟩:=rv.one
 cases ru
 obtain ⟨its,r,pl,_⟩:=I.list hq
 refine join_list (ys:=ts.map fun l=>⟨l.toArray⟩) pl.isList (by simpa using J8m r) ?_ fun t' k=>⟨T (JV sep ts),H,I.tok _,⟨t',?_⟩,q⟩
 ·rw [List.map_map,List.length_map,J3l]
  have e : ((fun x=>x.length) ∘ fun l : List Nat=>(⟨l.toArray⟩ : Str)) = List.length:=by funext l; exact J3l l
  rw [e]
  exact hz
 ·rw [← JaO]
  show Value.str (Builtin.Str.glued _ _) t' = _
  rw [StrLaws.glued_eq_join]
end
theorem JfF {X : Cx} {o e : Expr} {to : TE} {t : TA} {apos cpos : Pos} (ho : PE X o to) (ha : PA X [e] t)
  (hbase : attributeBase o "join" X.env (eval o X.env) = eval o X.env:=by rfl)
  (hfew : ((backTo cpos (starEach [e] X.env)).all (fun x=>!x.1) && (backToKw cpos (keywordEach [] X.env)).all (fun x=>x.1.isSome)
   && decide ([e].length + ([] : List Keyword).length + (if ([] : List Keyword).isEmpty then 0 else 1) < 30)) = true:=by rfl)
  (hline : (apos.endLine == cpos.line) = true:=by rfl) (hs : starEach [e] X.env = (false,eval e X.env) :: starEach [] X.env:=by rfl) (hplain : (backTo cpos (starEach [] X.env)).any (·.1) = false:=by rfl) :
  PE X (.Call (.Attribute o "join" apos) [e] [] cpos) (tBM X.K "str" (JdY X.K) to t) :=
 J20 F.plainAttrs_str F.slot_str_join F.type_str_join Jfp ho ha hbase hfew hline hs hplain
theorem JaT {bs : List Bool} {us : List Value} (h : Vals (bs.map V.bl) us) : us = bs.map Value.bool:=by
 induction bs generalizing us with
 | nil=>cases h; rfl
 | cons b r ih =>
  cases h with
  | cons r1 r2 =>
   cases r1
   rw [ih r2]; rfl
theorem JcV (bs : List Bool) : (List.range bs.length).all (fun i=>bs.getD i false) = bs.all id:=by
 rw [Bool.eq_iff_iff,List.all_eq_true,List.all_eq_true]
 constructor
 ·intro h b hb
  obtain ⟨i,hi,rfl⟩:=List.mem_iff_getElem.mp hb
  have:=h i (List.mem_range.mpr hi)
  simpa [List.getD_eq_getElem?_getD,hi] using this
 ·intro h i hi
  have hi:=List.mem_range.mp hi
  have:=h bs[i] (List.getElem_mem hi)
  simpa [List.getD_eq_getElem?_getD,hi] using this
theorem JcC (bs : List Bool) : (List.range bs.length).any (fun i=>bs.getD i false) = bs.any id:=by
 rw [Bool.eq_iff_iff,List.any_eq_true,List.any_eq_true]
 constructor
 ·rintro ⟨i,hi,h⟩
  have hi:=List.mem_range.mp hi
  refine ⟨bs[i],List.getElem_mem hi,?_⟩
  simpa [List.getD_eq_getElem?_getD,hi] using h
 ·rintro ⟨b,hb,h⟩
  obtain ⟨i,hi,rfl⟩:=List.mem_iff_getElem.mp hb
  refine ⟨i,List.mem_range.mpr hi,?_⟩
  simpa [List.getD_eq_getElem?_getD,hi] using h
section
variable {X : Cx}
theorem J8z (bs : List Bool) {A : Around} : TruthOf X.prog X.w A (fun i v=>(bs.map Value.bool).toArray[i]? = some v) (fun i=>bs.getD i false):=fun i v s Q E hP hQ=>by
 have : ∃ b,bs[i]? = some b ∧ v = .bool b:=by
  have hP' : (bs.map Value.bool).toArray[i]? = some v:=hP
  rw [List.getElem?_toArray,List.getElem?_map] at hP'
  cases hb : bs[i]? with
  | none=>rw [hb] at hP'; cases hP'
  | some b=>rw [hb] at hP'; exact ⟨b,rfl,(Option.some.inj hP').symm⟩
 obtain ⟨b,hb,rfl⟩:=this
 refine wpAny_truthy_bool ?_
 simpa [List.getD_eq_getElem?_getD,hb] using hQ
theorem JcT (hc : X.calm = true) : J21 X (.builtin "all") (fun xs H Q=>∃ (D : Addr) (bs : List Bool),xs = [.ref D] ∧ SqL X.K H D (bs.map V.bl) ∧ Q (.bl (bs.all id)) H):=by
 intro pins s σ H xs us Q I r h
 obtain ⟨D,bs,rfl,hq,q⟩:=h
 obtain ⟨u,rfl,ru⟩:=r.one
 cases ru
 obtain ⟨its,rv,pl,_⟩:=I.list hq
 obtain rfl:=JaT rv
 have hD : D < s.heap.objs.size:=by obtain ⟨o,n,e,_⟩:=pl; exact Heap.lt_size e
 refine call_all_walk (wpAny_pyIter_list pl.isList ⟨s.heap.objs.size,_,_,_,_,_,fun i=>bs.getD i false,rfl,Walks.list (A:=X.A.in1) (I.ok.hd hc) _ D (Nat.ne_of_lt hD) (bs.map Value.bool).toArray,
  ⟨⟨_,Heap.get?_push_size _ rfl,rfl,rfl⟩,pl.isList.push _⟩,J8z bs,fun h' tk hk=>?_⟩)
 rw [List.size_toArray,List.length_map,JcV]
 exact ⟨.bl (bs.all id),H,I.kept fun b o e=>hk b o (by simpa using Nat.ne_of_lt (Heap.lt_size e)) (Heap.get?_push_of_some _ e),rfl,q⟩
theorem JcD (hc : X.calm = true) : J21 X (.builtin "any") (fun xs H Q=>∃ (D : Addr) (bs : List Bool),xs = [.ref D] ∧ SqL X.K H D (bs.map V.bl) ∧ Q (.bl (bs.any id)) H):=by
 intro pins s σ H xs us Q I r h
 obtain ⟨D,bs,rfl,hq,q⟩:=h
 obtain ⟨u,rfl,ru⟩:=r.one
 cases ru
 obtain ⟨its,rv,pl,_⟩:=I.list hq
 obtain rfl:=JaT rv
 have hD : D < s.heap.objs.size:=by obtain ⟨o,n,e,_⟩:=pl; exact Heap.lt_size e
 refine call_any_walk (wpAny_pyIter_list pl.isList ⟨s.heap.objs.size,_,_,_,_,_,fun i=>bs.getD i false,rfl,Walks.list (A:=X.A.in1) (I.ok.hd hc) _ D (Nat.ne_of_lt hD) (bs.map Value.bool).toArray,
  ⟨⟨_,Heap.get?_push_size _ rfl,rfl,rfl⟩,pl.isList.push _⟩,J8z bs,fun h' tk hk=>?_⟩)
 rw [List.size_toArray,List.length_map,JcC]
 exact ⟨.bl (bs.any id),H,I.kept fun b o e=>hk b o (by simpa using Nat.ne_of_lt (Heap.lt_size e)) (Heap.get?_push_of_some _ e),rfl,q⟩
theorem JcW : J21 X (.builtin "isinstance") (fun xs H Q=>(∃ b,xs = [.bl b,.ty "bool"] ∧ Q (.bl true) H) ∨ (∃ i,xs = [.int i,.ty "bool"] ∧ Q (.bl false) H) ∨ (∃ i,xs = [.int i,.ty "int"] ∧ Q (.bl true) H) ∨ (∃ x,xs = [.str x,.ty "str"] ∧ Q (.bl true) H) ∨
  (∃ p ys,xs = [.ref p,.ty "list"] ∧ H p = some (.lst ys) ∧ Q (.bl true) H)):=by
 intro pins s σ H xs us Q I r h
 rcases h with ⟨b,rfl,q⟩ | ⟨i,rfl,q⟩ | ⟨i,rfl,q⟩ | ⟨x,rfl,q⟩ | ⟨p,ys,rfl,hp,q⟩
 ·obtain ⟨u,v,rfl,r1,r2⟩:=r.two
  cases r1; cases r2
  exact PySem.W.kia_one PySem.W.kitx_bool I.kIn True.intro (by rfl) (fun z=>nomatch z) fun tk=>⟨.bl true,H,I.tok _,rfl,q⟩
 ·obtain ⟨u,v,rfl,r1,r2⟩:=r.two
  obtain ⟨t,rfl⟩:=r1; cases r2
  exact PySem.W.kia_one PySem.W.kitx_int I.kIn True.intro (by rfl) (fun z=>nomatch z) fun tk=>⟨.bl false,H,I.tok _,rfl,q⟩
 ·obtain ⟨u,v,rfl,r1,r2⟩:=r.two
  obtain ⟨t,rfl⟩:=r1; cases r2
  exact PySem.W.kia_one PySem.W.kitx_int I.kIn True.intro (by rfl) (fun z=>nomatch z) fun tk=>⟨.bl true,H,I.tok _,rfl,q⟩
 ·obtain ⟨u,v,rfl,r1,r2⟩:=r.two
  obtain ⟨t,rfl⟩:=r1; cases r2
  exact PySem.W.kia_one PySem.W.kitx_str I.kIn True.intro (by rfl) (fun z=>nomatch z) fun tk=>⟨.bl true,H,I.tok _,rfl,q⟩
 ·obtain ⟨u,v,rfl,r1,r2⟩:=r.two
  cases r1; cases r2
  obtain ⟨_,its,n,_,h1⟩:=I.hok p _ hp
  exact PySem.W.kia_one PySem.W.kitx_list I.kIn ⟨_,h1,rfl⟩ (by rfl) (fun z=>nomatch z) fun tk=>⟨.bl true,H,I.tok _,rfl,q⟩
end
end L2
set_option linter.all false
set_option maxRecDepth 100000
set_option maxHeartbeats 4000000
namespace L2
open PySem PySem.Spec PyProof.Rows
open Builtin Builtin.Str
section
variable {prog : Program} {w : World} {A : Around} {E : Value → Shared → Prop} {s : Shared}
end
section
variable {X : Cx} {es : List Expr} {k : Nat} {tpos : Pos}
end
end L2
set_option linter.all false
set_option maxRecDepth 100000
set_option maxHeartbeats 4000000
namespace L2
open PySem PySem.Spec PyProof.Rows
end L2
set_option linter.all false
set_option maxRecDepth 100000
set_option maxHeartbeats 4000000
namespace L2
open PySem PySem.Spec PyProof.Rows
noncomputable def GF (K : PySem.W.Frag) (mg : Str → Option Value) (x : Str) (st : Stmt) : Prop:=∃ f fd,Fun K x x st f fd ∧ mg x = some (.ref f)
noncomputable def FnG (P : Program) (w : World) (K : PySem.W.Frag) (mg : Str → Option Value) (base : Heap) (x : Str) (k : Nat) (ps : List Str) (sp : Sp) : Prop :=
 ∃ f fd,FnOk P w K mg base CX0 k f fd ps sp ∧ mg x = some (.ref f) ∧ PySem.W.keepIn K (.ref f) = true ∧ J5M K fd ps []
noncomputable def MF (K : PySem.W.Frag) (C : Addr) (m qual : Str) (st : Stmt) : Prop:=∃ f fd,Fun K m qual st f fd ∧ Meth K C m f
noncomputable def MtG (P : Program) (w : World) (K : PySem.W.Frag) (mg : Str → Option Value) (base : Heap) (C : Addr) (m : Str) (k : Nat) (ps : List Str) (sp : Sp) : Prop :=
 ∃ f fd,FnOk P w K mg base CX0 k f fd ps sp ∧ Cls K C ∧ Meth K C m f ∧ J5M K fd ps []
structure CF (K : PySem.W.Frag) (mg : Str → Option Value) (x : Str) (C : Addr) : Prop where
 cl : Cls K C
 mg : mg x = some (.ref C)
 makes : PySem.W.makesIn K C = true
 kp : PySem.W.keepIn K (.ref C) = true
noncomputable def MkG (P : Program) (w : World) (K : PySem.W.Frag) (mg : Str → Option Value) (base : Heap) (C : Addr) (x : Str) (k : Nat) (ps : List Str) (sp : Sp) : Prop :=
 ∃ f fd,FnOk P w K mg base CX0 k f fd ps sp ∧ Mk K C f ∧ mg x = some (.ref C) ∧ J5M K fd ps []
section
variable {P : Program} {w : World} {K : PySem.W.Frag} {mg : Str → Option Value} {base : Heap}
theorem FnG.mono {x : Str} {j k : Nat} {ps : List Str} {sp : Sp} (G : FnG P w K mg base x j ps sp) (h : j ≤ k) : FnG P w K mg base x k ps sp:=by
 obtain ⟨f,fd,a,b⟩:=G
 exact ⟨f,fd,a.mono h,b⟩
theorem MtG.mono {C : Addr} {m : Str} {j k : Nat} {ps : List Str} {sp : Sp} (G : MtG P w K mg base C m j ps sp) (h : j ≤ k) : MtG P w K mg base C m k ps sp:=by
 obtain ⟨f,fd,a,b⟩:=G
 exact ⟨f,fd,a.mono h,b⟩
theorem GF.g {x : Str} {st : Stmt} {N ps : List Str} {k : Nat} {sp : Sp} (F : GF K mg x st) (S : Jq N ps (J7 st))
  (bnd : ∀ (kV doc pm : Value) (an : Option Addr) (cdv ct : Value) (us : List Value),us.length = ps.length → bindArgs (PySem.W.fnOf x x (Jo st) (Jm st) (J7 st) .none kV doc pm an cdv ct) ⟨us,[]⟩ = pure (ps.zip us))
  (len : ∀ vs H Q E,sp vs H Q E → vs.length = ps.length)
  (hbody : ∀ (f : Addr) (cdv : Value) (A : Around) (outer : List Env) (s : Shared) (H : Hp) (vs : List V) (Q : VK) (E : XK),Room k (A.deeper (envOfC x (J7 st) s.heap.objs.size f cdv)) → sp vs H Q E →
   ∃ t,PSs (cxOf CX0 P w K mg base N x (J7 st) f cdv A outer s H E).nox (Jm st) t ∧ t { nx:=fun _ H'=>Q .non H',rt:=Q } (start N vs) H) : FnG P w K mg base x (k + 1) ps sp:=by
 obtain ⟨f,fd,F,m⟩:=F
 exact ⟨f,fd,F.ok S len fun cdv A outer s H vs Q E hr h=>hbody f cdv A outer s H vs Q E hr h,m,F.kp,F.binds bnd⟩
theorem MF.g {C : Addr} {m qual : Str} {st : Stmt} {N ps : List Str} {k : Nat} {sp : Sp} (F : MF K C m qual st) (cl : Cls K C) (S : Jq N ps (J7 st))
  (bnd : ∀ (kV doc pm : Value) (an : Option Addr) (cdv ct : Value) (us : List Value),us.length = ps.length → bindArgs (PySem.W.fnOf m qual (Jo st) (Jm st) (J7 st) .none kV doc pm an cdv ct) ⟨us,[]⟩ = pure (ps.zip us))
  (len : ∀ vs H Q E,sp vs H Q E → vs.length = ps.length)
  (hbody : ∀ (f : Addr) (cdv : Value) (A : Around) (outer : List Env) (s : Shared) (H : Hp) (vs : List V) (Q : VK) (E : XK),Room k (A.deeper (envOfC qual (J7 st) s.heap.objs.size f cdv)) → sp vs H Q E →
   ∃ t,PSs (cxOf CX0 P w K mg base N qual (J7 st) f cdv A outer s H E).nox (Jm st) t ∧ t { nx:=fun _ H'=>Q .non H',rt:=Q } (start N vs) H) : MtG P w K mg base C m (k + 1) ps sp:=by
 obtain ⟨f,fd,F,m⟩:=F
 exact ⟨f,fd,F.ok S len fun cdv A outer s H vs Q E hr h=>hbody f cdv A outer s H vs Q E hr h,cl,m,F.binds bnd⟩
theorem CF.g {C : Addr} {x : Str} {k : Nat} {ps : List Str} {sp : Sp} (c : CF K mg x C) (G : MtG P w K mg base C "__init__" k ps sp) : MkG P w K mg base C x k ps sp:=by
 obtain ⟨f,fd,a,_,m,b⟩:=G
 exact ⟨f,fd,a,⟨c.makes,m.at_,m.fn,c.kp⟩,c.mg,b⟩
end
section
variable {X : Cx} {x m : Str} {k : Nat} {ps : List Str} {sp : Sp} {C : Addr} {p pos apos : Pos} {e o : Expr} {es : List Expr} {t : TA} {to : TE}
theorem Jv (G : FnG X.prog X.w X.K X.mg X.base x k ps sp) (hr : Room k X.A) (ha : PA X (e :: es) t) (hg : Gl X x:=by rfl) (hdb : (x == ("__debug__" : Str)) = false:=by decide)
  (he : starEach (e :: es) X.env = (false,eval e X.env) :: starEach es X.env:=by rfl) (hpl : (backTo pos (starEach es X.env)).any (·.1) = false:=by rfl) : PE X (.Call (.Name x p) (e :: es) [] pos) (JfL sp [] E0 t):=by
 obtain ⟨f,fd,a,b,c,d⟩:=G
 exact Jfv a hr hg b c d .nil Jdx ha hdb he hpl
noncomputable def JgD (P : Program) (w : World) (K : PySem.W.Frag) (mg : Str → Option Value) (base : Heap) (n : Nat) (m : Str) (ta : TE) (t : TA) : TE:=fun σ H Q=>ta σ H fun x H1=>∃ a C dx fs k ps sp,x = .ref a ∧ H1 a = some (.ins C dx fs) ∧ fs.lookup m = none ∧
 MtG P w K mg base C m k ps sp ∧ k ≤ n ∧ t σ H1 fun vs H2=>sp (x :: vs) H2 Q E0
theorem J9D {P : Program} {w : World} {K : PySem.W.Frag} {mg : Str → Option Value} {base : Heap} {n : Nat} {pl : Sem Bool} (hr : Room n X.A) (ho : PE X o to) (hP : X.prog = P) (hw : X.w = w) (hK : X.K = K) (hmg : X.mg = mg) (hbs : X.base = base)
  (ht : eval (.Call (.Attribute o m apos) [] [] pos) X.env = (do
   let ov ← eval o X.env
   standAt apos.atName
   let (f,first) ← holding [ov] (getMethod ov m pl)
   callWith pos f first (backTo pos (starEach [] X.env)) (backToKw pos (keywordEach [] X.env))):=by rfl) :
  PE X (.Call (.Attribute o m apos) [] [] pos) (JgD P w K mg base n m to tNil):=by
 subst hP hw hK hmg hbs
 intro pins s σ H Q I h
 refine PySem.W.methodCall_KW (pl:=pl) (thn (ho pins s σ H _ I h) fun u s1 ⟨x,H1,I1,rx,a,C,dx,fs,k,ps,sp,ex,ea,l,G,hk,q⟩=>?_) ht
 have hr:=hr.mono hk
 obtain ⟨f,fd,F,c,hm,hb⟩:=G
 subst ex
 obtain rfl : u = Value.ref a:=rx
 refine Jbw I1 ea c hm l ?_
 exact PySem.W.callWith_K0 (first:=[.ref a]) I1.kIn hm.kp (JdZ (us:=[.ref a]) (vs:=[.ref a]) (E:=E0) F hr hb .nil Jdx I1 (.cons rfl .nil) (by rw [List.append_nil]; exact q))
theorem JgW {n : Str} {T : String} (hm : X.mg n = none) (hv : bootBuiltins n = some (.type T)) (hg : Gl X n:=by rfl) (hn : n ≠ "__name__":=by decide) (hd : (n == ("__debug__" : Str)) = false:=by decide) : PE X (.Name n pos) (tC (.ty T)) :=
 Jfr hg hm hv rfl hn hd
end
section
variable {X : Cx} {K : PySem.W.Frag}
theorem Jg (h : X.K = K) : IxR X (rIxL K):=h ▸ Jf6
theorem J0E (h : X.K = K) : IxR X (rIxT K):=h ▸ Jgn
theorem J0S (h : X.K = K) : SlR X (rSlL K):=h ▸ Jf7
theorem JE (h : X.K = K) : J21 X (.builtin "len") (fun xs H Q=>∃ p ys,xs = [.ref p] ∧ (SqL K H p ys ∨ SqT K H p ys) ∧ Q (.int ys.length) H):=h ▸ J9C
theorem JbE (hc : X.calm = true) (h : X.K = K) : J21 X (.builtin "all") (fun xs H Q=>∃ (D : Addr) (bs : List Bool),xs = [.ref D] ∧ SqL K H D (bs.map V.bl) ∧ Q (.bl (bs.all id)) H):=h ▸ JcT hc
theorem JbW (hc : X.calm = true) (h : X.K = K) : J21 X (.builtin "any") (fun xs H Q=>∃ (D : Addr) (bs : List Bool),xs = [.ref D] ∧ SqL K H D (bs.map V.bl) ∧ Q (.bl (bs.any id)) H):=h ▸ JcD hc
theorem JD {e : Expr} {f : Str} {ta : TE} {pos : Pos} (h : X.K = K) (he : PE X e ta) (hb : attributeBase e f X.env (eval e X.env) = eval e X.env) : PE X (.Attribute e f pos) (tFld K ta f):=h ▸ Jg5 he hb
theorem J2L {o e : Expr} {to : TE} {t : TA} {apos cpos : Pos} (h : X.K = K) (ho : PE X o to) (ha : PA X [e] t)
  (hbase : attributeBase o "join" X.env (eval o X.env) = eval o X.env:=by rfl)
  (hfew : ((backTo cpos (starEach [e] X.env)).all (fun x=>!x.1) && (backToKw cpos (keywordEach [] X.env)).all (fun x=>x.1.isSome)
   && decide ([e].length + ([] : List Keyword).length + (if ([] : List Keyword).isEmpty then 0 else 1) < 30)) = true:=by rfl)
  (hline : (apos.endLine == cpos.line) = true:=by rfl) (hs : starEach [e] X.env = (false,eval e X.env) :: starEach [] X.env:=by rfl) (hplain : (backTo cpos (starEach [] X.env)).any (·.1) = false:=by rfl) :
  PE X (.Call (.Attribute o "join" apos) [e] [] cpos) (tBM K "str" (JdY K) to t):=h ▸ JfF ho ha hbase hfew hline hs hplain
theorem J02 {tg l : Expr} {tl : TE} (h : X.K = K) (hl : PE X l tl) : PI X tg l (JfM K tl):=h ▸ Jff hl
theorem Jel {i j : Nat} {x y : Str} {px py pos : Pos} {k : Nat} (h : X.K = K) (hc : X.calm = true) (hN : X.N.Nodup) (hi : X.N[i]? = some x) (hj : X.N[j]? = some y) (hx : Loc X.env.scope x) (hy : Loc X.env.scope y)
  (hfx : X.fn x = true ∨ X.env.scope.names.lookup x = some .local:=by first | exact .inl rfl | exact .inr rfl | assumption) (hfy : X.fn y = true ∨ X.env.scope.names.lookup y = some .local:=by first | exact .inl rfl | exact .inr rfl | assumption) :
  PG X (.Tuple [.Name x px,.Name y py] k pos) (gTup K 2 (JdG (J4H i) (JdG (J4H j) gNil))):=h ▸ J3H hc (JB (Ju hN hi hx hfx) (JB (Ju hN hj hy hfy) J1f))
end
theorem J44 : bootBuiltins "int" = some (.type "int"):=by decide +kernel
theorem J0o : bootBuiltins "str" = some (.type "str"):=by decide +kernel
theorem J0s : bootBuiltins "list" = some (.type "list"):=by decide +kernel
theorem Jgp : bootBuiltins "all" = some (.builtin "all"):=by decide +kernel
theorem Jgi : bootBuiltins "any" = some (.builtin "any"):=by decide +kernel
theorem J22 : bootBuiltins "isinstance" = some (.builtin "isinstance"):=by decide +kernel
theorem JeB {J : It} {H : Hp} {xs : List V} {σ0 : St} {k : Nat} {te : TE} {Q : VK} (Pe : V → V → Prop) (hJ : J6y J H xs) (hx : xs.length ≤ 1000000)
  (he : ∀ x ∈ xs,∀ H',Same H H' → ∀ R : VK,(∀ y H'',Pe x y → Same H' H'' → R y H'') → te (σ0.set k (some x)) H' R)
  (hQ : ∀ D H' ys,H D = none → Same H H' → ys.length = xs.length → (∀ (i : Nat) (x y : V),xs[i]? = some x → ys[i]? = some y → Pe x y) → H' D = some (.lst ys) → Q (.ref D) H') :
  J7O J H σ0 (J4H k) tYes te Q:=by
 intro D hD
 refine ⟨fun i m σ1 ys H'=>m = xs.length - i ∧ i ≤ xs.length ∧ (σ1 = σ0 ∨ ∃ v,σ1 = σ0.set k v) ∧ ys.length = i ∧ (∀ (j : Nat) (x y : V),xs[j]? = some x → ys[j]? = some y → Pe x y) ∧ H' D = some (.lst ys) ∧ Same H H',
  ⟨xs.length,by simp,Nat.zero_le _,.inl rfl,rfl,fun j x y _ h=>by simp at h,Je,JF hD _⟩,?_⟩
 rintro i m σ1 ys H' ⟨rfl,hi,hσ,hlen,hP,hDD,hs⟩
 by_cases hlt : i < xs.length
 ·refine .inr ⟨hJ.go i H' hs hlt,fun x H'' hy=>?_⟩
  obtain ⟨e1,hx1⟩:=hJ.yld i H' x H'' hs hlt hy
  subst e1
  have hm : x ∈ xs:=List.mem_of_getElem? hx1
  have hset : σ1.set k (some x) = σ0.set k (some x):=by
   rcases hσ with rfl | ⟨v,rfl⟩
   ·rfl
   ·rw [List.set_set]
  unfold J4H tYes
  dsimp only
  rw [hset]
  refine iteT ?_
  refine he x hm H'' hs _ fun y H4 hPy s4=>⟨s4 _ _ hDD,?_,xs.length - (i + 1),by omega,rfl,hlt,.inr ⟨_,rfl⟩,?_,?_,Je,(hs.trans s4).upd hD⟩
  ·have : (1000001 : Nat) ≤ sizeLine:=by decide
   omega
  ·rw [List.length_append,List.length_singleton,hlen]
  ·intro j x' y' h1 h2
   by_cases hj : j < i
   ·rw [List.getElem?_append_left (by omega)] at h2
    exact hP j x' y' h1 h2
   ·have hji : j = i:=by
     have:=(List.getElem?_eq_some_iff.mp h2).1
     rw [List.length_append,List.length_singleton,hlen] at this
     omega
    subst hji
    rw [List.getElem?_append_right (by omega),hlen,Nat.sub_self] at h2
    rw [hx1] at h1
    cases h1
    have : y = y':=by simpa using h2
    subst this
    exact hPy
 ·have e : i = xs.length:=by omega
  subst e
  exact .inl ⟨hJ.stop H' hs,hQ D H' ys hD hs hlen hP hDD⟩
end L2
set_option linter.all false
set_option maxRecDepth 100000
set_option maxHeartbeats 4000000
namespace L2
open PySem PySem.Spec PyProof.Rows
theorem Vals.rel {xs : List V} {us : List Value} (r : Vals xs us) : ∀ (j : Nat) (h1 : j < xs.length) (h2 : j < us.length),RelV xs[j] us[j]:=by
 induction r with
 | nil=>intro j h1; simp at h1
 | cons a t ih =>
  intro j h1 h2
  cases j with
  | zero=>exact a
  | succ j=>exact ih j (by simpa using h1) (by simpa using h2)
noncomputable def eqVs : List V → List V → Bool
 | [],[]=>true
 | x :: xs,y :: ys=>eqV x y && eqVs xs ys
 | _,_=>false
theorem JaG : ∀ {xs ys : List V},xs.length ≠ ys.length → eqVs xs ys = false
 | [],[],h=>absurd rfl h
 | [],_ :: _,_=>rfl
 | _ :: _,[],_=>rfl
 | x :: xs,y :: ys,h=>by
  have : xs.length ≠ ys.length:=fun e=>h (by simp [e])
  rw [eqVs,JaG this,Bool.and_false]
theorem J7C : ∀ {xs ys : List V},xs.length = ys.length → (List.range xs.length).all (fun j=>eqV (xs.getD j .non) (ys.getD j .non)) = eqVs xs ys
 | [],[],_=>rfl
 | [],_ :: _,h=>by simp at h
 | _ :: _,[],h=>by simp at h
 | x :: xs,y :: ys,h=>by
  have h' : xs.length = ys.length:=by simpa using h
  rw [List.length_cons,List.range_succ_eq_map,List.all_cons,List.all_map,eqVs,← J7C h']
  rfl
section
variable {X : Cx} {K : PySem.W.Frag}
theorem JdK {A : Around} {s : Shared} {xs ys : List V} {ia ib : List Value} (ra : Vals xs ia) (rb : Vals ys ib) (fx : xs.all J5J = true) (fy : ys.all J5J = true) :
  ∀ j (h1 : j < ia.toArray.size) (h2 : j < ib.toArray.size),SeqAt.EqAt A s ia.toArray[j] ib.toArray[j] (eqV (xs.getD j .non) (ys.getD j .non)):=by
 intro j h1 h2
 have la:=ra.length
 have lb:=rb.length
 have g1 : j < ia.length:=by simpa using h1
 have g2 : j < ib.length:=by simpa using h2
 have e1 : xs.getD j .non = xs[j]'(by omega):=by rw [List.getD_eq_getElem?_getD,List.getElem?_eq_getElem (by omega)]; rfl
 have e2 : ys.getD j .non = ys[j]'(by omega):=by rw [List.getD_eq_getElem?_getD,List.getElem?_eq_getElem (by omega)]; rfl
 rw [e1,e2]
 have k1:=ra.rel j (by omega) g1
 have k2:=rb.rel j (by omega) g2
 have q:=Jg4 (A:=A) (s:=s) k1 k2 (List.all_eq_true.mp fx _ (List.getElem_mem _)) (List.all_eq_true.mp fy _ (List.getElem_mem _))
 simpa using q
noncomputable def rEqL (K : PySem.W.Frag) (neg : Bool) : R2:=fun x y H Q=>∃ p r xs ys,x = .ref p ∧ y = .ref r ∧ SqL K H p xs ∧ SqL K H r ys ∧ xs.all J5J = true ∧ ys.all J5J = true ∧ Q (.bl (if neg then !eqVs xs ys else eqVs xs ys)) H
theorem JbQ (h : X.K = K) (hu : X.A.units < cLine) : OpR X (compareOp .Eq) (rEqL K false):=by
 subst h
 intro pins s σ H x y v u Q I rx ry h
 obtain ⟨p,r,xs,ys,rfl,rfl,hp,hr,fx,fy,q⟩:=h
 cases rx; cases ry
 obtain ⟨ia,ra,pa,za⟩:=I.list hp
 obtain ⟨ib,rb,pb,zb⟩:=I.list hr
 have la:=ra.length
 have lb:=rb.length
 by_cases hsz : xs.length = ys.length
 ·refine SeqAt.eq_listAt (e:=fun j=>eqV (xs.getD j .non) (ys.getD j .non)) pa.isList pb.isList (by simp; omega) hu (JdK ra rb fx fy) ⟨.bl _,H,I,rfl,?_⟩
  rw [List.size_toArray,← la,J7C hsz]
  exact q
 ·refine SeqAt.eq_list_lengthsAt pa.isList pb.isList (by simp; omega) hu ⟨.bl false,H,I,rfl,?_⟩
  have q' : Q (.bl (eqVs xs ys)) H:=q
  rw [JaG hsz] at q'
  exact q'
end
end L2
set_option linter.all false
set_option maxRecDepth 100000
set_option maxHeartbeats 4000000
namespace L2
open PySem PySem.Spec PyProof.Rows
structure J6w (K : PySem.W.Frag) (C : Addr) : Prop where
 cl : Cls K C
 ha : PySem.W.findIn K (.ref C) "__class__" = some (some (.builtin "object.__class__"))
 hn : PySem.W.specialIn K (.builtin "object.__class__") "__get__" = some (some (.builtin "getset_descriptor.__get__"))
 htk : PySem.W.takesIn K (.builtin "object.__class__") = some true
 hm : PySem.W.mroIn K C (.type "object") = some true
section
variable {X : Cx} {K : PySem.W.Frag}
theorem J4k (h : X.K = K) : J21 X (.builtin "isinstance") (fun xs H Q=>∃ p D C dx fs b,xs = [.ref p,.ref D] ∧ H p = some (.ins C dx fs) ∧ J6w K C ∧ PySem.W.kitOne K (.ref C) (.ref D) = some b ∧ Q (.bl b) H):=by
 subst h
 intro pins s σ H xs us Q I r h
 obtain ⟨p,D,C,dx,fs,b,rfl,hp,ty,hk,q⟩:=h
 obtain ⟨u,v,rfl,r1,r2⟩:=r.two
 cases r2
 exact Jda I r1 (.ins hp ty.cl ty.ha ty.hn ty.htk ty.hm) hk fun tk=>⟨.bl b,H,I.tok _,rfl,q⟩
end
section
variable {prog : Program} {w : World} {A : Around} {E : Value → Shared → Prop} {s : Shared}
theorem J8B {it l : Addr} {items : Array Value} (hne : l ≠ it) : ∀ (n i : Nat) (s : Shared) (Q : List Value → Shared → Prop),s.heap.IsListIter it l i → s.heap.IsList l items → i + n ≤ items.size →
  (∀ h',h'.IsListIter it l (i + n) → Heap.SameBut it s.heap h' → Q ((items.toList.drop i).take n) { s with heap:=h' }) → wpAny (model prog w) A (draw (.ref it) n) Q E s
 | 0,i,s,Q,hit,_,_,hQ=>by
  show wpAny _ _ (pure []) Q E s
  exact wpAny_pure (by simpa using hQ s.heap hit (Heap.SameBut.refl ..))
 | n + 1,i,s,Q,hit,ht,hle,hQ=>by
  have hlt : i < items.size:=by omega
  show wpAny _ _ (pyNext (.ref it) >>= _) Q E s
  refine wpAny_bind (wpAny_pyNext_list_item hit ht (x:=items[i]) (by simp [hlt]) fun h₁ hit₁ hs₁=>?_)
  refine wpAny_bind (wpAny_holding (J8B hne n (i + 1) _ _ hit₁ (ht.extBut hs₁.extBut hne) (by omega) fun h₂ hit₂ hs₂=>wpAny_pure ?_))
  have hd : items.toList.drop i = items[i] :: items.toList.drop (i + 1):=by simp [List.drop_eq_getElem_cons,hlt]
  have:=hQ h₂ (by rw [show i + (n + 1) = i + 1 + n by omega]; exact hit₂) (hs₁.trans hs₂)
  rw [hd,List.take_succ_cons] at this
  exact this
theorem J6d {t : Addr} {items : Array Value} {Q : List Value → Shared → Prop} (hh : A.handled = none) (ht : s.heap.IsList t items)
  (hQ : ∀ h',Heap.ExtBut s.heap.objs.size s.heap h' → Q items.toList { s with heap:=h' }) : wpAny (model prog w) A (unpackItems (.ref t) items.size none) Q E s:=by
 have hlt : t ≠ s.heap.objs.size:=by obtain ⟨o,ho,_⟩:=ht; exact Nat.ne_of_lt (Heap.lt_size ho)
 unfold unpackItems
 refine wpAny_bind ?_
 ·unfold notIterableAtAll
  refine wpAny_bind (wpAny_specialOf ht.typeIs slot_list_iter.lookup ?_)
  refine wpAny_pure ?_
  simp only [Bool.false_eq_true,if_false]
  refine wpAny_bind (wpAny_holding (wpAny_pyIter_list ht ?_))
  refine wpAny_bind (wpAny_holding (J8B hlt items.size 0 _ _ ⟨_,Heap.get?_push_size _ rfl,rfl,rfl⟩ (ht.push _) (by omega) fun h₁ hit₁ hs₁=>?_))
  have hall : List.take items.size (List.drop 0 items.toList) = items.toList:=by
   rw [List.drop_zero]; exact List.take_of_length_le (by simp)
  rw [hall]
  rw [if_neg (by simp)]
  have ht₁ : h₁.IsList t items:=(ht.push _).extBut hs₁.extBut hlt
  refine wpAny_bind (wpAny_holding (wpAny_pyNext_list_end hh hit₁ ht₁ (by simp) fun h₂ he₂=>?_))
  simp only [Option.isSome_none,Bool.false_eq_true,if_false]
  refine wpAny_pure (hQ h₂ fun b o hb e=>he₂ b o hb (hs₁.extBut b o hb (Heap.get?_push_of_some _ e)))
theorem Jar {t : Addr} {items : Array Value} {targets : List (Bool × (Value → Sem Unit))} {Q : Unit → Shared → Prop} (hh : A.handled = none) (ht : s.heap.IsList t items)
  (hn : targets.length = items.size) (hstar : targets.findIdx? (·.1) = none)
  (h : ∀ h',Heap.ExtBut s.heap.objs.size s.heap h' → wpAny (model prog w) A (assignInOrder (targets.map (·.2)) items.toList) Q E { s with heap:=h' }) :
  wpAny (model prog w) A (unpack (.ref t) targets) Q E s:=by
 unfold unpack
 rw [hn,hstar]
 exact wpAny_bind (wpAny_holding (J6d hh ht h))
theorem J5N {env : Env} {elts : List Expr} {x1} {pos : Pos} {t : Addr} {items : Array Value} {Q : Unit → Shared → Prop} (hh : A.handled = none) (ht : s.heap.IsList t items)
  (hn : (assignEach elts env).length = items.size) (hstar : (assignEach elts env).findIdx? (·.1) = none)
  (h : ∀ h',Heap.ExtBut s.heap.objs.size s.heap h' → wpAny (model prog w) A (assignInOrder ((assignEach elts env).map (·.2)) items.toList) Q E { s with heap:=h' }) :
  wpAny (model prog w) A (assign (.Tuple elts x1 pos) env (.ref t)) Q E s:=by
 rw [assign_Tuple]
 exact wpAny_bind (wpAny_standAt (Jar hh ht hn hstar h))
end
section
variable {X : Cx} {K : PySem.W.Frag} {pos : Pos}
noncomputable def gLst (K : PySem.W.Frag) (n : Nat) (t : TGs) : TG:=fun v σ H Q=>∃ a xs,v = .ref a ∧ SqL K H a xs ∧ xs.length = n ∧ t xs σ H Q
theorem Jgd {es : List Expr} {k : Nat} {t : TGs} {n : Nat} (hc : X.calm = true) (h : PGs X es t)
  (hn : (assignEach es X.env).length = n:=by rfl) (hst : (assignEach es X.env).findIdx? (·.1) = none:=by rfl) : PG X (.Tuple es k pos) (gLst X.K n t):=by
 intro pins s σ H v u Q I r hw
 obtain ⟨a,xs,e1,hq,hl,hw⟩:=hw
 subst e1
 cases r
 obtain ⟨its,rv,ht,hz⟩:=I.list hq
 refine J5N (I.ok.hd hc) ht.isList (by simp [hn,← hl,rv.length]) hst fun h' hx=>?_
 have I1 : Inv X pins σ H { s with heap:=h' }:=I.kept (t':=s.toks) fun b o e=>hx b o (Nat.ne_of_lt (Heap.lt_size e)) e
 exact h pins _ σ H xs _ Q I1 (by simpa using rv) hw
end
end L2
set_option linter.all false
set_option maxRecDepth 100000
set_option maxHeartbeats 4000000
namespace L2
open PySem PySem.Spec PyProof.Rows
section
variable {X : Cx} {es : List Expr} {k : Nat} {tpos : Pos}
end
end L2
set_option linter.all false
set_option maxRecDepth 100000
set_option maxHeartbeats 4000000
namespace L2
open PySem PySem.Spec PyProof.Rows
section
variable {X : Cx} {elt tg iter : Expr} {ifs : List Expr} {scope : Scope} {pos : Pos} {N : List Str} {js : List (Option Nat)} {wi : TI} {g : TG} {tc : TT} {te : TE}
theorem J9G {osc : Scope} {ON : List Str} {k : Nat} {y : Str} {py spos : Pos} (hN : X.N.Nodup) (hk : X.N[k]? = some y) (hky : Loc X.env.scope y) (cs : J4U osc ON scope N js) (ho : X.env.scope = osc) (hON : X.N = ON) (hc : X.calm = true) (hi : PI X tg iter wi)
    (hg : ∀ s₀ H₀ cl C ex,PG (J1e X scope N s₀ H₀ cl C ex) tg g) (hif : ∀ s₀ H₀ cl C ex,PIfs (J1e X scope N s₀ H₀ cl C ex) ifs tc) (he : ∀ s₀ H₀ cl C ex,PE (J1e X scope N s₀ H₀ cl C ex) elt te)
    (hsw : swapsWith (.ListComp elt [⟨tg,iter,ifs,0⟩] scope pos) (some (.Name y py)) spos.line X.env = pure true:=by rfl)
    (hs : ∀ x,foldedSetIterable iter X.env x = pure x:=by intro _; rfl) (hf : X.fn y = true ∨ X.env.scope.names.lookup y = some .local:=by first | exact .inl rfl | exact .inr rfl | assumption) :
    PS X (.Assign [.Name y py] (.ListComp elt [⟨tg,iter,ifs,0⟩] scope pos) spos) (tAsg (JeF wi (subσ js) g tc te) (J4H k)):=by
  intro pins s σ H Dn I h0
  have h : JeF wi (subσ js) g tc te σ H (fun v H'=>Dn.nx (σ.set k (some v)) H'):=h0
  subst ho hON
  obtain ⟨cl,hcl,cl1,cl2⟩:=J53 (scope:=scope) (env:=X.env) fun y hy hf=>I.ok.has y.1 (cs.free y hy hf)
  rw [exec_Assign_Name_used _ _ _ _ hsw]
  refine wpAny_bind (wpAny_standAt (wpAny_bind ?_))
  show wpAny _ X.A (do let _ ← comprehension (.ListComp elt [⟨tg,iter,ifs,0⟩] scope pos) scope X.env _ (newList []) false (eval iter X.env) (some (assign (.Name y py) X.env))) _ _ s
  refine wpAny_bind (wpAny_mono (wpAny_comprehension_free (use:=some (assign (.Name y py) X.env)) (Q:=fun _ s'=>SP X pins Dn .next s') rfl hs hcl cs.kind cs.names ?_) (fun _ s' hq=>wpAny_pure (wpAny_pure hq)) fun _ _ e=>e)
  refine thn (hi pins s σ H _ I h) fun v s1 h1=>thn h1 fun itv s2 h2=>?_
  obtain ⟨it,fp,tn,J,H2,e,I2,T,st2,f2,hW⟩:=h2
  subst e
  have hD0 : H2 s2.heap.objs.size = none:=I2.hok.fresh (Nat.le_refl _)
  obtain ⟨W,⟨m0,w0⟩,turn⟩:=hW s2.heap.objs.size hD0
  have I3:=I2.lnew (t':=s2.toks) (ys:=[]) (its:=[]) .nil (Nat.zero_le _)
  refine wpAny_newObj_type (wpAny_newFunctionEnv cs.cell (by intro y hy; simp at hy) (fun h₁ hns₁ hsb₁=>?_) cs.kind)
  dsimp only at hns₁ hsb₁ ⊢
  obtain ⟨s3,hs3⟩ : ∃ s3 : Shared,s3 = { s2 with heap:=s2.heap.push { cls:=.type "list",data:=.seq ([] : List Value).toArray },toks:=s2.toks }:=⟨_,rfl⟩
  rw [← hs3] at I3
  have e3 : s3.heap = s2.heap.push { cls:=.type "list",dict:=none,data:=.seq ([] : List Value).toArray }:=by rw [hs3]
  have e3o : s3.os = s2.os:=by rw [hs3]
  have e3g : s3.gens = s2.gens:=by rw [hs3]
  rw [← e3] at hns₁ hsb₁ ⊢
  obtain ⟨H3,hH3⟩ : ∃ H3 : Hp,H3 = upd H2 s2.heap.objs.size (.lst []):=⟨_,rfl⟩
  rw [← hH3] at I3 w0
  have up1 : ∀ b o,s2.heap.get? b = some o → s3.heap.get? b = some o:=fun b o q=>by rw [e3]; exact Heap.get?_push_of_some _ q
  have up2 : ∀ b o,s3.heap.get? b = some o → h₁.get? b = some o:=fun b o q=>hsb₁.extBut b o (Nat.ne_of_lt (Heap.lt_size q)) (Heap.get?_push_of_some _ q)
  have fpo : ∀ b ∈ fp,∃ o,s3.heap.get? b = some o:=fun b hb=>by
    obtain ⟨o,ho,_⟩:=T.obj 0 _ st2 b hb
    exact ⟨o,up1 b o ho⟩
  have fr3 : ∀ b ∈ fp,H3 b = none:=fun b hb=>by
    obtain ⟨o,ho,_⟩:=T.obj 0 _ st2 b hb
    rw [hH3,Jj (Nat.ne_of_lt (Heap.lt_size ho))]
    exact (f2 b hb).1
  have fpC : ∀ b ∈ fp,b ≠ s3.heap.objs.size:=fun b hb=>by
    obtain ⟨o,ho⟩:=fpo b hb
    exact Nat.ne_of_lt (Heap.lt_size ho)
  have fpS : ∀ b ∈ fp,b ∉ frs X.stack:=fun b hb hs'=>by
    rcases List.mem_cons.mp (I2.stkSub b hs') with z | z
    · exact (f2 b hb).2.1 z
    · exact (f2 b hb).2.2.1 z
  have ok' : (J1e X scope N s3 H3 cl s3.heap.objs.size fp).Ok:=by
    refine ⟨I.ok.mod,cs.kind,I.ok.glob,I.ok.blt,Nat.le_refl _,fun x y c e1 e2=>I.ok.inj x y c (cl2 x c e1) (cl2 y c e2),fun x hx=>?_,fun x c hf=>(nomatch hf),I.ok.hd,I.ok.frames,.inl rfl,fun b hb=>⟨fpC b hb,fun x c e=>(f2 b hb).2.2.2.2.1 x c (cl2 x c e)⟩,
      I3.bs,Nat.le_trans I.ok.bsz I3.sz,fun b o e hb=>?_,fun b hb=>fpS b hb,I3.stack,I3.stkFree⟩
    · have hm : (x,NameKind.free) ∈ scope.names:=J4o cs.cell hx
      obtain ⟨c,hc⟩:=I.ok.has x (cs.free _ hm rfl)
      exact ⟨c,(cl1 _ hm rfl).trans hc⟩
    · rcases (f2 b hb).2.2.2.1 with z | z
      · exact I.ok.noex b o e z
      · exact absurd (Nat.lt_of_lt_of_le (Heap.lt_size e) (Nat.le_trans I.ok.bsz z)) (Nat.lt_irrefl _)
  have cellK : ∀ c v,s3.heap.IsCell c v → h₁.IsCell c v:=fun c v ⟨o,ho,hd⟩=>⟨o,up2 c o ho,hd⟩
  have I4 : ∀ t : Nat,Inv (J1e X scope N s3 H3 cl s3.heap.objs.size fp) [] (subσ js σ) H3 { s2 with heap:=h₁,toks:=t }:=fun t=>by
    refine ⟨ok',e3o.symm,I2.bare,Un.kept up2,⟨_,hns₁,fun i x v hi hv hx=>?_⟩,fun x c e=>?_,I3.hok.fresh (Nat.le_refl _),fun x c e=>I3.freeC x c (cl2 x c e),fun p hp=>(nomatch hp),I3.hok.kept up2,?_⟩
    ·
      have hv' : ∃ j,js[i]? = some (some j) ∧ σ[j]? = some (some v):=by
        unfold subσ at hv
        rw [List.getElem?_map] at hv
        cases hj : js[i]? with
        | none=>rw [hj] at hv; cases hv
        | some o =>
          rw [hj] at hv
          cases o with
          | none=>cases hv
          | some j =>
            refine ⟨j,rfl,?_⟩
            have hv2 : (σ[j]?).join = some v:=Option.some.inj hv
            cases hs2 : σ[j]? with
            | none=>rw [hs2] at hv2; cases hv2
            | some u=>rw [hs2] at hv2; exact congrArg some hv2
      obtain ⟨j,hj,hσ⟩:=hv'
      obtain ⟨x',h1',h2',h3'⟩:=cs.sub i j hj
      have hxx : x = x':=Option.some.inj (hi.symm.trans h1')
      subst hxx
      have hm : (x,NameKind.free) ∈ scope.names:=mem_of_lookup h3'
      have hk:=cs.free _ hm rfl
      obtain ⟨m,hn,hl⟩:=id I3.loc
      obtain ⟨u,ru,lk⟩:=hl j x v h2' hσ (by rcases hk with z | z; exact .inr (.inl z); exact .inr (.inr z))
      refine ⟨u,ru,?_⟩
      rcases lk with ⟨k1,_⟩ | ⟨k1,c,e1,z⟩
      · rcases hk with z | z <;> (rw [show X.env.kindOf x = _ from z] at k1; cases k1)
      · exact .inr ⟨J1P h3',c,(cl1 _ hm rfl).trans e1,cellK c _ z⟩
    · obtain ⟨v,z⟩:=I3.cell x c (cl2 x c e)
      exact ⟨v,cellK c v z⟩
    · unfold subσ
      rw [List.length_map]
      exact cs.len
  have hst₁ : tn 0 h₁:=T.keep 0 _ _ st2 fun b hb o q=>up2 b o (up1 b o q)
  have stat : ∀ {H' : Hp},(∀ b ∈ fp,H' b = none) → ∀ b ∈ fp,FpOk (J1e X scope N s3 H3 cl s3.heap.objs.size fp) [] H' b:=fun hn b hb =>
    ⟨hn b hb,fpC b hb,fpS b hb,.inl hb,fun x c e=>(f2 b hb).2.2.2.2.1 x c (cl2 x c e),fun p hp=>(nomatch hp)⟩
  have loop : ∀ s4 : Shared,(∃ t,s4 = { s2 with heap:=h₁,toks:=t }) →
      codeAny (model X.prog X.w) X.A (.compLoop (.ListComp elt [⟨tg,iter,ifs,0⟩] scope pos) 0 (.ref it) (.ref s2.heap.objs.size) (compEnvC scope cl s3.heap.objs.size X.env))
        (compPost (model X.prog X.w) X.A X.xe (some (assign (.Name y py) X.env)) (fun _ s'=>SP X pins Dn .next s') (.ref s2.heap.objs.size) s3.heap.objs.size) s4:=by
    rintro s4 ⟨t,rfl⟩
    refine J5P (fun n s'=>∃ i σ' ys H',Inv (J1e X scope N s3 H3 cl s3.heap.objs.size fp) [] σ' H' s' ∧ tn i s'.heap ∧ (∀ b ∈ fp,H' b = none) ∧ W i n σ' ys H') ?_ m0 ⟨0,_,[],H3,I4 t,hst₁,fr3,w0⟩
    rintro n s5 ⟨i,σ5,ys,H5,I5,st5,fr5,w5⟩
    rcases turn i n σ5 ys H5 w5 with ⟨stop,qn⟩ | ⟨go,step⟩
    · refine thn (T.done (J1e X scope N s3 H3 cl s3.heap.objs.size fp) rfl rfl rfl hc i [] s5 σ5 H5 _ I5 (stat fr5) st5 stop) fun r s6 ⟨hr,I6⟩=>?_
      subst hr
      obtain ⟨m,hn,_⟩:=id I6.loc
      have IX : ∀ h',Heap.SameBut s3.heap.objs.size s6.heap h' → Inv X pins σ H5 { s6 with heap:=h' }:=fun h' hs'=>by
        have neC : ∀ b o,s3.heap.get? b = some o → b ≠ s3.heap.objs.size:=fun b o q=>Nat.ne_of_lt (Heap.lt_size q)
        have un : Un (frs X.stack) fp H3 H5 s3.heap h' :=
          ⟨fun b o q n1 hb hx=>(hs'.2 b (neC b o q)).trans (I6.base.keep b o q n1 hb hx),
           fun b o q n1 hb hx=>by
             obtain ⟨sl,e⟩:=I6.base.slot b o q n1 hb hx
             exact ⟨sl,(hs'.2 b (neC b o q)).trans e⟩,
           fun b o q n1 hx=>I6.base.free b o q n1 hx,
           fun b o q hx=>by
             obtain ⟨o',e⟩:=I6.base.there b o q hx
             exact ⟨o',(hs'.2 b (neC b o q)).trans e⟩,
           I6.base.tups,I6.base.frzs,I6.base.tbls⟩
        refine I3.call' (ch:=fp) (s':={ s6 with heap:=h' }) I6.os un (fun b ob e=>?_) I6.bare (fun b hb=>⟨(f2 b hb).2.2.2.1,(f2 b hb).2.1,(f2 b hb).2.2.2.2.1,(f2 b hb).2.2.2.2.2⟩)
        refine (I6.hok b ob e).stay (fun c w' hc' q=>(hs'.2 c ?_).trans q) (fun _ q=>q) fun _ _ q=>q
        rintro rfl
        have fC : H5 s3.heap.objs.size = none:=I6.free
        rcases hc' with z | z
        · rw [← z,fC] at e; cases e
        · rw [fC] at z; cases z
      have fC : H5 s3.heap.objs.size = none:=I6.free
      have IY : Inv X pins σ H5 s6:=IX s6.heap (Heap.SameBut.refl ..)
      have fo : FpOk X pins H5 s3.heap.objs.size:=I3.fpOk (Nat.le_refl _) fC
      obtain ⟨oC,es,ep,ho1,hd1,hrest⟩:=id hn
      have IZ:=IY.pinned (fp:=[s3.heap.objs.size]) (fun b hb=>by obtain rfl : b = _:=(by simpa using hb); exact fo) (fun b hb=>by obtain rfl : b = _:=(by simpa using hb); exact ⟨oC,ho1,fun v z=>by rw [hd1] at z; cases z⟩)
      show wpAny _ X.A (assign (.Name y py) X.env (.ref s2.heap.objs.size)) _ _ s6
      refine wpAny_assign_Name (J5K IZ hN hk hky (show RelV (.ref s2.heap.objs.size) (.ref s2.heap.objs.size) from rfl) (fun s7 I7=>?_) hf)
      have hC7 : s7.heap.get? s3.heap.objs.size = some oC:=(I7.pin (s3.heap.objs.size,oC) (List.mem_append_right _ (List.mem_append_right _ (J29 (by simp) ho1)))).1
      refine ⟨m,hn.at' fun o e=>?_,fun h' hs'=>⟨_,H5,?_,qn⟩⟩
      · rw [ho1] at e; cases e; exact hC7
      · have I8:=I7.unpinned
        exact I8.turned (t':=s7.toks) (fun b o hb e=>(hs'.2 b hb).trans e) fo.1 fo.2.1 fo.2.2.2.1 fo.2.2.2.2.1 fo.2.2.2.2.2
    · refine thn (T.item (J1e X scope N s3 H3 cl s3.heap.objs.size fp) rfl rfl rfl hc i [] s5 σ5 H5 _ I5 (stat fr5) st5 go) fun r s6 ⟨u,hr,h6⟩=>?_
      subst hr
      refine thn h6 fun _ s7 ⟨x,H7,I7,r7,y7,st7,fr7⟩=>?_
      have I7':=I7.pinned (stat fr7) (T.obj _ _ st7)
      refine thn (hg _ _ _ _ _ _ s7 σ5 H7 x u _ I7' r7 (step x H7 y7)) fun _ s8 ⟨σ8,H8,I8,q8⟩=>?_
      refine thn (hif _ _ _ _ _ _ s8 σ8 H8 _ I8 q8) fun ok s9 ⟨H9,I9,q9⟩=>?_
      have again : ∀ {σ' : St} {H' : Hp} {s' : Shared},Inv (J1e X scope N s3 H3 cl s3.heap.objs.size fp) ([] ++ J6c fp s7.heap) σ' H' s' →
          Inv (J1e X scope N s3 H3 cl s3.heap.objs.size fp) [] σ' H' s' ∧ tn (i + 1) s'.heap ∧ ∀ b ∈ fp,H' b = none:=fun {σ' H' s'} I'=>by
        refine ⟨I'.unpinned,T.keep _ _ _ st7 fun b hb o e=>(I'.pin (b,o) (List.mem_append_right _ (List.mem_append_right _ (J29 hb e)))).1,fun b hb=>?_⟩
        obtain ⟨o,e,d⟩:=T.obj _ _ st7 b hb
        exact (I'.pin (b,o) (List.mem_append_right _ (List.mem_append_right _ (J29 hb e)))).2.1
      cases ok with
      | false =>
        rw [if_neg Bool.false_ne_true] at q9 ⊢
        obtain ⟨m',hm,w9⟩:=q9
        obtain ⟨a1,a2,a3⟩:=again I9
        exact ⟨m',hm,i + 1,σ8,ys,H9,a1,a2,a3,w9⟩
      | true =>
        rw [if_pos rfl] at q9 ⊢
        refine thn (he _ _ _ _ _ _ s9 σ8 H9 _ I9 q9) fun yv s10 ⟨y,H10,I10,r10,q10⟩=>?_
        obtain ⟨hD,hz,m',hm,w10⟩:=q10
        refine thn (JP (X:=J1e X scope N s3 H3 cl s3.heap.objs.size fp) _ s10 σ8 H10 (.ref s2.heap.objs.size) [y] (.ref s2.heap.objs.size) [yv] (fun v H'=>H' = upd H10 s2.heap.objs.size (.lst (ys ++ [y]))) I10 rfl (.cons r10 .nil)
          ⟨s2.heap.objs.size,ys,y,rfl,rfl,hD,hz,rfl⟩) fun _ s11 ⟨v11,H11,I11,_,e11⟩=>?_
        have e11' : H11 = upd H10 s2.heap.objs.size (.lst (ys ++ [y])):=e11
        subst e11'
        obtain ⟨a1,a2,a3⟩:=again I11
        exact ⟨m',hm,i + 1,σ8,ys ++ [y],_,a1,a2,a3,w10⟩
  exact codeAny_compStart_list (loop _ ⟨_,rfl⟩) (T.self X.A 0 _ _ _ hst₁ (loop _ ⟨_,rfl⟩))
end
end L2
set_option linter.all false
namespace L2
open PySem PySem.StrLaws Builtin Builtin.Str
noncomputable def Jh (c : Nat) : List Nat → List (List Nat)
 | []=>[[]]
 | x :: r=>if x = c then [] :: Jh c r else match Jh c r with
  | h :: t=>(x :: h) :: t
  | []=>[[x]]
theorem J0z (c : Nat) : ∀ l,∃ h t,Jh c l = h :: t
 | []=>⟨_,_,rfl⟩
 | x :: r=>by
  obtain ⟨h,t,e⟩:=J0z c r
  unfold Jh
  split
  ·exact ⟨_,_,rfl⟩
  ·rw [e]; exact ⟨_,_,rfl⟩
noncomputable def isAt (l : List Nat) (c i : Nat) : Bool:=decide (l[i]? = some c)
theorem sub1 (l : List Nat) (c i : Nat) : subAt ⟨l.toArray⟩ ⟨#[c]⟩ i = isAt l c i:=by
 rw [subAt_eq]
 show ((l.drop i).take 1 == [c]) = isAt l c i
 unfold isAt
 rw [Bool.eq_iff_iff,take1_drop,decide_eq_true_iff]
theorem J7y (l : List Nat) (c hi limit : Nat) (hl : l.length ≤ hi) : ∀ (n a free : Nat) (arr : Array Nat),free ≤ a → arr.size + n ≤ limit →
  (forIn (List.range' a n) (arr,free) (occBody ⟨l.toArray⟩ ⟨#[c]⟩ hi limit)).run.fst.toList = arr.toList ++ (List.range' a n).filter (isAt l c)
 | 0,a,free,arr,_,_=>by simp
 | n + 1,a,free,arr,hf,hz=>by
  rw [List.range'_succ,List.forIn_cons]
  by_cases h : isAt l c a = true
  ·have hlt : a < l.length:=by
    unfold isAt at h
    exact (List.getElem?_eq_some_iff.mp (of_decide_eq_true h)).1
   have e : occBody ⟨l.toArray⟩ ⟨#[c]⟩ hi limit a (arr,free) = pure (ForInStep.yield (arr.push a,a + 1)):=by
    unfold occBody
    rw [if_pos]
    ·rfl
    ·refine ⟨⟨⟨by show arr.size < limit; omega,hf⟩,?_⟩,by rw [sub1]; exact h⟩
     show a + 1 ≤ hi
     omega
   rw [e,pure_bind]
   show (forIn (List.range' (a + 1) n) (arr.push a,a + 1) (occBody ⟨l.toArray⟩ ⟨#[c]⟩ hi limit)).run.fst.toList = _
   rw [J7y l c hi limit hl n (a + 1) (a + 1) (arr.push a) (Nat.le_refl _) (by rw [Array.size_push]; omega),List.filter_cons_of_pos h,Array.toList_push,List.append_assoc]
   rfl
  ·have e : occBody ⟨l.toArray⟩ ⟨#[c]⟩ hi limit a (arr,free) = pure (ForInStep.yield (arr,free)):=by
    unfold occBody
    rw [if_neg]
    rintro ⟨_,q⟩
    rw [sub1] at q
    exact h q
   rw [e,pure_bind]
   show (forIn (List.range' (a + 1) n) (arr,free) (occBody ⟨l.toArray⟩ ⟨#[c]⟩ hi limit)).run.fst.toList = _
   rw [J7y l c hi limit hl n (a + 1) free arr (by omega) (by omega),List.filter_cons_of_neg h]
theorem JfC (l : List Nat) (c : Nat) : occurrences ⟨l.toArray⟩ ⟨#[c]⟩ 0 l.length (l.length + 1) = (List.range' 0 (l.length + 1)).filter (isAt l c):=by
 rw [occ_eq]
 have:=J7y l c l.length (l.length + 1) (Nat.le_refl _) (l.length + 1) 0 0 #[] (Nat.le_refl _) (by simp)
 simpa using this
theorem J3Z (l : List Nat) (i j : Nat) : strSub ⟨l.toArray⟩ i j = ⟨((l.drop i).take (j - i)).toArray⟩:=by
 apply Str.ext'
 apply Array.toList_inj.mp
 rw [strSub_toList]
theorem JaC (l : List Nat) (a x : Nat) (hx : l[a]? = some x) : ∀ (cuts : List Nat),(∀ i ∈ cuts,a + 1 ≤ i) → ∃ h t,partsFrom ⟨l.toArray⟩ 1 (a + 1) cuts = ⟨List.toArray h⟩ :: t ∧ partsFrom ⟨l.toArray⟩ 1 a cuts = ⟨(x :: h).toArray⟩ :: t:=by
 have hlt : a < l.length:=(List.getElem?_eq_some_iff.mp hx).1
 have key : ∀ j,a + 1 ≤ j → (l.drop a).take (j - a) = x :: (l.drop (a + 1)).take (j - (a + 1)):=fun j hj=>by
  rw [List.drop_eq_getElem_cons hlt,show j - a = (j - (a + 1)) + 1 by omega,List.take_succ_cons]
  congr 1
  rw [List.getElem?_eq_getElem hlt] at hx
  exact Option.some.inj hx
 intro cuts hc
 cases cuts with
 | nil =>
  refine ⟨(l.drop (a + 1)).take (l.length - (a + 1)),[],?_,?_⟩
  ·show [strSub ⟨l.toArray⟩ (a + 1) (⟨l.toArray⟩ : Str).length] = _
   rw [J3Z]; simp [Str.length]
  ·show [strSub ⟨l.toArray⟩ a (⟨l.toArray⟩ : Str).length] = _
   rw [J3Z,show (⟨l.toArray⟩ : Str).length = l.length by simp [Str.length],key _ hlt]
 | cons i r =>
  refine ⟨(l.drop (a + 1)).take (i - (a + 1)),partsFrom ⟨l.toArray⟩ 1 (i + 1) r,?_,?_⟩
  ·show strSub ⟨l.toArray⟩ (a + 1) i :: _ = _
   rw [J3Z]
  ·show strSub ⟨l.toArray⟩ a i :: _ = _
   rw [J3Z,key i (hc i List.mem_cons_self)]
theorem J6t (l : List Nat) (c : Nat) : ∀ (n a : Nat),a + n = l.length + 1 → 0 < n → partsFrom ⟨l.toArray⟩ 1 a ((List.range' a n).filter (isAt l c)) = (Jh c (l.drop a)).map fun w=>⟨w.toArray⟩
 | 0,_,_,h=>absurd h (Nat.lt_irrefl _)
 | n + 1,a,h,_=>by
  rw [List.range'_succ]
  cases hn : n with
  | zero =>
   have ha : a = l.length:=by omega
   have hno : isAt l c a = false:=by
    unfold isAt
    rw [List.getElem?_eq_none (by omega)]
    rfl
   rw [List.filter_cons_of_neg (by rw [hno]; exact Bool.false_ne_true),List.range'_zero,List.drop_eq_nil_of_le (by omega)]
   show [strSub ⟨l.toArray⟩ a (⟨l.toArray⟩ : Str).length] = [⟨([] : List Nat).toArray⟩]
   rw [J3Z,List.drop_eq_nil_of_le (by omega)]
   simp
  | succ m =>
   have hlt : a < l.length:=by omega
   have ih:=J6t l c n (a + 1) (by omega) (by omega)
   rw [hn] at ih
   rw [List.drop_eq_getElem_cons hlt]
   by_cases hx : isAt l c a = true
   ·have hx' : l[a] = c:=by
     unfold isAt at hx
     have:=of_decide_eq_true hx
     rw [List.getElem?_eq_getElem hlt] at this
     exact Option.some.inj this
    rw [List.filter_cons_of_pos hx,Jh,if_pos hx',List.map_cons]
    show strSub ⟨l.toArray⟩ a a :: partsFrom ⟨l.toArray⟩ 1 (a + 1) _ = _
    rw [ih,J3Z,Nat.sub_self,List.take_zero]
   ·have hx' : l[a] ≠ c:=fun e=>hx (by unfold isAt; rw [List.getElem?_eq_getElem hlt,e]; exact decide_eq_true rfl)
    rw [List.filter_cons_of_neg hx,Jh,if_neg hx']
    obtain ⟨h,t,e1,e2⟩:=JaC l a l[a] (List.getElem?_eq_getElem hlt) ((List.range' (a + 1) (m + 1)).filter (isAt l c)) (fun i hi=>by
     have:=(List.mem_filter.mp hi).1
     rw [List.mem_range'_1] at this
     exact this.1)
    rw [e2]
    rw [e1] at ih
    obtain ⟨sh,st,es⟩:=J0z c (l.drop (a + 1))
    rw [es] at ih ⊢
    rw [List.map_cons] at ih ⊢
    injection ih with i1 i2
    have i3 : h = sh:=by
     have:=congrArg (fun s : Str=>s.cps.toList) i1
     simpa using this
    rw [i3,i2]
theorem JaB (x : Str) : 1 ≤ Builtin.Str.strKind x:=by unfold Builtin.Str.strKind; split <;> (try split) <;> omega
theorem Jd1 (l : List Nat) (c : Nat) (hc : c < 256) : Txt.split ⟨l.toArray⟩ ⟨#[c]⟩ = (Jh c l).map fun w=>⟨w.toArray⟩:=by
 have main : partsBetween ⟨l.toArray⟩ (occurrences ⟨l.toArray⟩ ⟨#[c]⟩ 0 l.length (l.length + 1)) 1 = (Jh c l).map fun w=>⟨w.toArray⟩:=by
  rw [partsBetween_eq,JfC,J6t l c (l.length + 1) 0 (by omega) (by omega),List.drop_zero]
 have hk : Builtin.Str.strKind ⟨#[c]⟩ = 1:=by unfold Builtin.Str.strKind; rw [if_pos]; simp [hc]
 have hlen : (⟨l.toArray⟩ : Str).length = l.length:=by simp [Str.length]
 unfold Txt.split
 rw [hlen]
 by_cases h0 : l.length < 1
 ·have : l = []:=List.length_eq_zero_iff.mp (by omega)
  subst this
  rw [if_pos (by rw [decide_eq_true (show ([] : List Nat).length < (⟨#[c]⟩ : Str).length from by simp [Str.length])]; rfl)]
  rfl
 ·rw [if_neg (by
   have h1:=JaB ⟨l.toArray⟩
   rw [hk,decide_eq_false (show ¬ l.length < (⟨#[c]⟩ : Str).length from h0),decide_eq_false (by omega)]
   exact Bool.false_ne_true)]
  by_cases he : (occurrences ⟨l.toArray⟩ ⟨#[c]⟩ 0 l.length (l.length + 1)).isEmpty = true
  ·rw [if_pos he]
   rw [List.isEmpty_iff.mp he] at main
   rw [← main]
   show [_] = [strSub ⟨l.toArray⟩ 0 (⟨l.toArray⟩ : Str).length]
   rw [sub_whole]
  ·rw [if_neg he]
   exact main
end L2
set_option linter.all false
set_option maxRecDepth 100000
set_option maxHeartbeats 4000000
namespace L2
open PySem PySem.Spec PyProof.Rows
noncomputable abbrev TF:=List Nat → St → Hp → VK → Prop
noncomputable def PF (X : Cx) (es : List Expr) (t : TF) : Prop:=∀ (pins : List (Addr × Obj)) (s : Shared) (σ : St) (H : Hp) (out : List Nat) (Q : VK),Inv X pins σ H s → t out σ H Q →
 wpAny (model X.prog X.w) X.A (joinParts ⟨out.toArray⟩ (evalEach es X.env)) (EP X pins σ Q) X.xe s
noncomputable def JgV : TF:=fun out _ H Q=>out.length ≤ sizeLine ∧ Q (T out) H
noncomputable def JgF (te : TE) (tr : TF) : TF:=fun out σ H Q=>te σ H fun x H1=>∃ y,x = T y ∧ (out ++ y).length ≤ sizeLine ∧ tr (out ++ y) σ H1 Q
section
variable {X : Cx} {e : Expr} {es : List Expr} {te : TE} {tr : TF} {pos : Pos}
theorem J2K : PF X [] JgV:=by
 intro pins s σ H out Q I h
 exact joinParts_nil ⟨T out,H,I.tok _,⟨_,rfl⟩,h.2⟩ (by rw [J3l]; exact h.1)
theorem Jy (he : PE X e te) (hr : PF X es tr) (hs : evalEach (e :: es) X.env = eval e X.env :: evalEach es X.env:=by rfl) : PF X (e :: es) (JgF te tr):=by
 intro pins s σ H out Q I h
 rw [hs]
 refine joinParts_cons (thn (he pins s σ H _ I h) fun v s1 ⟨x,H1,I1,r1,y,e1,hz,q⟩=>?_)
 subst e1
 obtain ⟨t,rfl⟩:=r1
 refine ⟨by rw [JaJ,J3l]; exact hz,?_⟩
 rw [JaJ]
 exact hr pins s1 σ H1 _ Q I1 q
theorem J0w {x : Str} {l : List Nat} {j} (h : x = ⟨l.toArray⟩) : PE X (.Constant (.str x) j pos) (tC (T l)):=Jk h
noncomputable def tFs (te : TE) : TE:=fun σ H Q=>te σ H fun x H1=>∃ y,x = T y ∧ y.length ≤ sizeLine ∧ Q (T y) H1
theorem J1p (he : PE X e te) : PE X (.FormattedValue e (-1) none pos) (tFs te):=by
 intro pins s σ H Q I h
 refine FormattedValue_plain (thn (he pins s σ H _ I h) fun v s1 ⟨x,H1,I1,r1,y,e1,hz,q⟩=>?_)
 subst e1
 obtain ⟨t,rfl⟩:=r1
 exact formatField_str (fun t' tk=>⟨T y,H1,I1.tok _,⟨t',rfl⟩,q⟩) (by rw [J3l]; exact hz)
noncomputable def tFd (te : TE) : TE:=fun σ H Q=>te σ H fun x H1=>∃ n : Nat,x = .int n ∧ n ≤ 9 ∧ Q (T [48 + n]) H1
theorem JaF : ∀ n : Nat,n ≤ 9 → toString ((n : Nat) : Int) = (⟨[48 + n].toArray⟩ : Str):=by
 intro n hn
 have : n = 0 ∨ n = 1 ∨ n = 2 ∨ n = 3 ∨ n = 4 ∨ n = 5 ∨ n = 6 ∨ n = 7 ∨ n = 8 ∨ n = 9:=by omega
 rcases this with rfl | rfl | rfl | rfl | rfl | rfl | rfl | rfl | rfl | rfl <;> decide +kernel
theorem Jcb {n : Nat} (h : n ≤ 9) : ((n : Int).natAbs).log2 < 1920:=by
 have : n = 0 ∨ n = 1 ∨ n = 2 ∨ n = 3 ∨ n = 4 ∨ n = 5 ∨ n = 6 ∨ n = 7 ∨ n = 8 ∨ n = 9:=by omega
 rcases this with rfl | rfl | rfl | rfl | rfl | rfl | rfl | rfl | rfl | rfl <;> decide +kernel
theorem JdO (he : PE X e te) : PE X (.FormattedValue e (-1) none pos) (tFd te):=by
 intro pins s σ H Q I h
 refine FormattedValue_plain (thn (he pins s σ H _ I h) fun v s1 ⟨x,H1,I1,r1,n,e1,hn,q⟩=>?_)
 subst e1
 obtain ⟨t,rfl⟩:=r1
 exact formatField_int_small (Jcb hn) ⟨T [48 + n],H1,I1.tok _,⟨_,by rw [JaF n hn]⟩,q⟩
theorem J2O {e1 e2 : Expr} (h : PF X (e1 :: e2 :: es) tr) : PE X (.JoinedStr (e1 :: e2 :: es) pos) (tr []):=by
 intro pins s σ H Q I hw
 exact JoinedStr_many (h pins s σ H [] Q I hw)
theorem J8f : J21 X (.type "str") (fun xs H Q=>∃ n : Nat,xs = [.int n] ∧ n ≤ 9 ∧ Q (T [48 + n]) H):=by
 intro pins s σ H xs us Q I r h
 obtain ⟨n,rfl,hn,q⟩:=h
 refine J5F pins s σ H _ us Q I r ⟨_,rfl,Jcb hn,?_⟩
 rw [JaF n hn]
 exact q
noncomputable def JdH : V → List V → Hp → VK → Prop:=fun x vs H Q=>∃ l c,x = T l ∧ vs = [T [c]] ∧ c < 256 ∧ l.length ≤ 100000 ∧ ∀ p,H p = none → Q (.ref p) (upd H p (.lst ((Jh c l).map T)))
theorem J5b (c : Nat) : ∀ l,(Jh c l).length ≤ l.length + 1
 | []=>by simp [Jh]
 | x :: r=>by
  have ih:=J5b c r
  obtain ⟨h,t,e⟩:=J0z c r
  unfold Jh
  split
  ·simp; omega
  ·rw [e] at ih ⊢; simp at ih ⊢; omega
theorem J8t : ∀ (ws : List (List Nat)) (k : Nat),Vals (ws.map T) (strsFrom k (ws.map fun w=>⟨w.toArray⟩))
 | [],_=>.nil
 | w :: r,k=>.cons ⟨_,rfl⟩ (J8t r (k + 1))
theorem Jej : MtR X "str.split" JdH:=by
 intro pins s σ H x vs v us Q I rx rv h
 obtain ⟨l,c,rfl,rfl,hc,hl,q⟩:=h
 obtain ⟨t,rfl⟩:=rx
 obtain ⟨u,rfl,ru⟩:=rv.one
 obtain ⟨t2,rfl⟩:=ru
 have hsp:=Jd1 l c hc
 have hlen : (⟨l.toArray⟩ : Str).length = l.length:=J3l l
 have fin : ∀ (its : List Value) (tk : Nat),Vals ((Jh c l).map T) its → EP X pins σ Q (.ref s.heap.objs.size) { s with heap:=s.heap.push { cls:=.type "list",data:=.seq its.toArray },toks:=tk }:=fun its tk hv =>
  ⟨.ref s.heap.objs.size,_,I.lnew (t':=tk) hv (by rw [List.length_map]; have:=J5b c l; have : (100001 : Nat) ≤ sizeLine:=(by decide); omega),rfl,q _ (I.hok.fresh (Nat.le_refl _))⟩
 have hy : ((⟨#[c]⟩ : Str).length == 0) = false:=by rfl
 have one : (Jh c l).map (fun w=>(⟨w.toArray⟩ : Str)) = [⟨l.toArray⟩] → Vals ((Jh c l).map T) [.str ⟨l.toArray⟩ t]:=fun e=>by
  have : Jh c l = [l]:=by
   obtain ⟨a,b,e2⟩:=J0z c l
   rw [e2,List.map_cons] at e
   injection e with e3 e4
   have e5 : a = l:=by simpa using congrArg (fun s : Str=>s.cps.toList) e3
   have e6 : b = []:=by simpa using e4
   rw [e2,e5,e6]
  rw [this]
  exact .cons ⟨_,rfl⟩ .nil
 by_cases h1 : (decide ((⟨l.toArray⟩ : Str).length < (⟨#[c]⟩ : Str).length) || decide (Builtin.Str.strKind ⟨l.toArray⟩ < Builtin.Str.strKind ⟨#[c]⟩)) = true
 ·refine call_meets F.slot_str_split (typeIs_str _ _ _) F.entry_str_split (F.args_str_split_2 _ _) (meets_str_split_cannot_occur ⟨l.toArray⟩ ⟨#[c]⟩ t t2 h1) (fin _ s.toks (one ?_))
  rw [← hsp]; unfold Txt.split; rw [if_pos h1]
 ·have h1':=Bool.eq_false_iff.mpr h1
  by_cases hf : (Builtin.Str.occurrences ⟨l.toArray⟩ ⟨#[c]⟩ 0 (⟨l.toArray⟩ : Str).length ((⟨l.toArray⟩ : Str).length + 1)).isEmpty = true
  ·refine call_meets F.slot_str_split (typeIs_str _ _ _) F.entry_str_split (F.args_str_split_2 _ _) (meets_str_split_not_found ⟨l.toArray⟩ ⟨#[c]⟩ t t2 h1' hy hf) (fin _ s.toks (one ?_))
   rw [← hsp]; unfold Txt.split; rw [if_neg h1,if_pos hf]
  ·have hf':=Bool.eq_false_iff.mpr hf
   have e : Builtin.Str.partsBetween ⟨l.toArray⟩ (Builtin.Str.occurrences ⟨l.toArray⟩ ⟨#[c]⟩ 0 (⟨l.toArray⟩ : Str).length ((⟨l.toArray⟩ : Str).length + 1)) (⟨#[c]⟩ : Str).length = (Jh c l).map fun w=>⟨w.toArray⟩:=by
    rw [← hsp]; unfold Txt.split; rw [if_neg h1,if_neg hf]
   refine call_meets F.slot_str_split (typeIs_str _ _ _) F.entry_str_split (F.args_str_split_2 _ _) (meets_str_split_sep ⟨l.toArray⟩ ⟨#[c]⟩ t t2 h1' hy hf' ?_ ?_) ?_
   ·rw [hlen]; exact Nat.le_trans hl (by decide)
   ·rw [e,List.length_map]; have:=J5b c l; have : (100001 : Nat) ≤ sizeLine:=by decide
    omega
   ·rw [e]
    exact fin _ _ (J8t _ _)
theorem J6a {K : PySem.W.Frag} {o e : Expr} {to : TE} {t : TA} {apos cpos : Pos} (h : X.K = K) (ho : PE X o to) (ha : PA X [e] t)
  (hbase : attributeBase o "split" X.env (eval o X.env) = eval o X.env:=by rfl)
  (hfew : ((backTo cpos (starEach [e] X.env)).all (fun x=>!x.1) && (backToKw cpos (keywordEach [] X.env)).all (fun x=>x.1.isSome)
   && decide ([e].length + ([] : List Keyword).length + (if ([] : List Keyword).isEmpty then 0 else 1) < 30)) = true:=by rfl)
  (hline : (apos.endLine == cpos.line) = true:=by rfl) (hs : starEach [e] X.env = (false,eval e X.env) :: starEach [] X.env:=by rfl) (hplain : (backTo cpos (starEach [] X.env)).any (·.1) = false:=by rfl) :
  PE X (.Call (.Attribute o "split" apos) [e] [] cpos) (tBM K "str" JdH to t):=h ▸ J20 F.plainAttrs_str F.slot_str_split F.type_str_split Jej ho ha hbase hfew hline hs hplain
end
end L2
set_option linter.all false
set_option maxRecDepth 100000
set_option maxHeartbeats 4000000
namespace L2
open PySem PySem.Spec PyProof.Rows
section
variable {X : Cx} {x m : Str} {k : Nat} {ps : List Str} {sp : Sp} {C : Addr} {p pos apos : Pos} {e o : Expr} {es : List Expr} {t : TA} {to : TE}
theorem J3U {r : List V → Hp → VK → Prop} (G : MkG X.prog X.w X.K X.mg X.base C x k ps sp) (hr : Room (k + 1) X.A)
  (imp : ∀ vs H Q,r vs H Q → ∀ x dx,H x = none → H dx = none → dx ≠ x → sp (.ref x :: (vs ++ [])) (upd (upd H dx (.own x)) x (.ins C dx [])) (fun v H2=>v = .non ∧ Q (.ref x) H2) E0)
  (ha : PA X (e :: es) t) (hg : Gl X x:=by rfl) (hdb : (x == ("__debug__" : Str)) = false:=by decide)
  (he : starEach (e :: es) X.env = (false,eval e X.env) :: starEach es X.env:=by rfl) (hpl : (backTo pos (starEach es X.env)).any (·.1) = false:=by rfl) : PE X (.Call (.Name x p) (e :: es) [] pos) (tCB r t):=by
 obtain ⟨f,fd,a,M,hm,hb⟩:=G
 intro pins s σ H Q I h
 refine wpAny_Call_Name_kw (J9J I hg hm ?_ hdb)
 refine PySem.W.callWith_K (h₀:=X.base) I.ok.mod.kin M.kp (thn (ha pos pins s σ H _ I h) fun us s1 ⟨vs,H1,I1,rv,q⟩=>⟨I1.kIn,?_⟩) he hpl
 exact JeI M a hr hb .nil Jdx I1 rv (imp vs H1 Q q)
end
end L2
set_option linter.all false
set_option maxRecDepth 100000
set_option maxHeartbeats 4000000
namespace L2
open PySem PySem.Spec PyProof.Rows
noncomputable def All2 {α : Type} (P : α → V → Hp → Prop) (H : Hp) : List α → List V → Prop
 | [],[]=>True
 | a :: as,y :: ys=>P a y H ∧ All2 P H as ys
 | _,_=>False
section
variable {α : Type} {P : α → V → Hp → Prop} {H H' : Hp}
theorem All2.len : ∀ {as : List α} {ys : List V},All2 P H as ys → ys.length = as.length
 | [],[],_=>rfl
 | _ :: _,_ :: _,h=>by rw [List.length_cons,List.length_cons,All2.len h.2]
 | [],_ :: _,h=>h.elim
 | _ :: _,[],h=>h.elim
theorem All2.snoc : ∀ {as : List α} {ys : List V} {a : α} {y : V},All2 P H as ys → P a y H → All2 P H (as ++ [a]) (ys ++ [y])
 | [],[],_,_,_,p=>⟨p,trivial⟩
 | _ :: _,_ :: _,_,_,h,p=>⟨h.1,All2.snoc h.2 p⟩
 | [],_ :: _,_,_,h,_=>h.elim
 | _ :: _,[],_,_,h,_=>h.elim
theorem All2.imp {P' : α → V → Hp → Prop} : ∀ {as : List α} {ys : List V},All2 P H as ys → (∀ a y,P a y H → P' a y H') → All2 P' H' as ys
 | [],[],_,_=>trivial
 | _ :: _,_ :: _,h,f=>⟨f _ _ h.1,All2.imp h.2 f⟩
 | [],_ :: _,h,_=>h.elim
 | _ :: _,[],h,_=>h.elim
theorem All2.get : ∀ {as : List α} {ys : List V} {i : Nat} {a : α},All2 P H as ys → as[i]? = some a → ∃ y,ys[i]? = some y ∧ P a y H
 | [],[],_,_,_,e=>by simp at e
 | b :: _,y :: _,0,a,h,e=>⟨y,rfl,by rw [← (Option.some.inj e : b = a)]; exact h.1⟩
 | _ :: as,_ :: ys,i + 1,a,h,e=>All2.get (as:=as) (ys:=ys) (i:=i) h.2 (by simpa using e)
 | [],_ :: _,_,_,h,_=>h.elim
 | _ :: _,[],_,_,h,_=>h.elim
theorem All2.back : ∀ {as : List α} {ys : List V} {i : Nat} {y : V},All2 P H as ys → ys[i]? = some y → ∃ a,as[i]? = some a ∧ P a y H
 | [],[],_,_,_,e=>by simp at e
 | b :: _,z :: _,0,y,h,e=>⟨b,rfl,by rw [← (Option.some.inj e : z = y)]; exact h.1⟩
 | _ :: as,_ :: ys,i + 1,y,h,e=>All2.back (as:=as) (ys:=ys) (i:=i) h.2 (by simpa using e)
 | [],_ :: _,_,_,h,_=>h.elim
 | _ :: _,[],_,_,h,_=>h.elim
theorem All2.eqmap {f : α → V} : ∀ {as : List α} {ys : List V},All2 P H as ys → (∀ a y,P a y H → y = f a) → ys = as.map f
 | [],[],_,_=>rfl
 | _ :: _,_ :: _,h,g=>by rw [List.map_cons,← g _ _ h.1,← All2.eqmap h.2 g]
 | [],_ :: _,h,_=>h.elim
 | _ :: _,[],h,_=>h.elim
end
noncomputable def Keeps (Ha Hb : Hp) : Prop:=∀ a ob,Ha a = some ob → (∀ zs,ob ≠ .lst zs) → Hb a = some ob
theorem Same.keeps {Ha Hb : Hp} (h : Same Ha Hb) : Keeps Ha Hb:=fun a ob e _=>h a ob e
theorem Keeps.trans {Ha Hb Hc : Hp} (h : Keeps Ha Hb) (h' : Keeps Hb Hc) : Keeps Ha Hc:=fun a ob e n=>h' a ob (h a ob e n) n
theorem J0a {Ha : Hp} {D : Addr} {zs ys : List V} (h : Ha D = some (.lst zs)) : Keeps Ha (upd Ha D (.lst ys)):=fun a ob e hn=>by
 by_cases c : a = D
 ·subst c; rw [h] at e; cases e; exact absurd rfl (hn zs)
 ·rw [Jj c]; exact e
theorem Jeo {α : Type} {J : It} {H : Hp} {σ0 : St} {g : TG} {tc : TT} {te : TE} {Q : VK} (xs : List α) (p : α → Bool) (P : α → V → Hp → Prop) (sh : St → Prop) (hx : xs.length ≤ 1000000) (h0 : sh σ0)
  (hgo : ∀ i H',Same H H' → i < xs.length → J.go i H') (hstop : ∀ H',Same H H' → J.stop xs.length H')
  (hk : ∀ a y Ha Hb,Keeps Ha Hb → P a y Ha → P a y Hb)
  (step : ∀ (i : Nat) a σ x H' H'',xs[i]? = some a → sh σ → Same H H' → J.yld i H' x H'' → ∀ (Rf : St → Hp → Prop) (Rt : St → V → Hp → Prop),
   (∀ σ2 H3,p a = false → sh σ2 → Same H' H3 → Rf σ2 H3) → (∀ σ2 y H4,p a = true → sh σ2 → Same H' H4 → P a y H4 → Rt σ2 y H4) →
   g x σ H'' fun σ2 H2=>tc σ2 H2 fun b H3=>if b = true then te σ2 H3 (fun y H4=>Rt σ2 y H4) else Rf σ2 H3)
  (hQ : ∀ D H' ys,H D = none → Same H H' → All2 P H' (xs.filter p) ys → H' D = some (.lst ys) → Q (.ref D) H') : J7O J H σ0 g tc te Q:=by
 intro D hD
 refine ⟨fun i m σ1 ys H'=>m = xs.length - i ∧ i ≤ xs.length ∧ sh σ1 ∧ All2 P H' ((xs.take i).filter p) ys ∧ H' D = some (.lst ys) ∧ Same H H',⟨xs.length,by simp,Nat.zero_le _,h0,trivial,Je,JF hD _⟩,?_⟩
 rintro i m σ1 ys H' ⟨rfl,hi,hσ,hP,hDD,hs⟩
 by_cases hlt : i < xs.length
 ·refine .inr ⟨hgo i H' hs hlt,fun x H'' hy=>?_⟩
  have ha : xs[i]? = some xs[i]:=List.getElem?_eq_getElem hlt
  have ht : xs.take (i + 1) = xs.take i ++ [xs[i]]:=by rw [List.take_add_one,ha]; rfl
  refine step i xs[i] σ1 x H' H'' ha hσ hs hy _ _ (fun σ2 H3 hf sh2 s3=>?_) (fun σ2 y H4 hf sh2 s4 py=>?_)
  ·refine ⟨xs.length - (i + 1),by omega,rfl,hlt,sh2,?_,s3 _ _ hDD,hs.trans s3⟩
   rw [ht,List.filter_append,List.filter_cons,hf]
   show All2 P H3 (List.filter p (xs.take i) ++ []) ys
   rw [List.append_nil]
   exact hP.imp fun a y=>hk a y _ _ s3.keeps
  ·have hl:=hP.len
   refine ⟨s4 _ _ hDD,?_,xs.length - (i + 1),by omega,rfl,hlt,sh2,?_,Je,(hs.trans s4).upd hD⟩
   ·have h1:=List.length_filter_le p (xs.take i)
    rw [List.length_take] at h1
    have : (1000001 : Nat) ≤ sizeLine:=by decide
    omega
   ·rw [ht,List.filter_append,List.filter_cons,hf]
    have kk : Keeps H4 (upd H4 D (.lst (ys ++ [y]))):=J0a (s4 _ _ hDD)
    exact All2.snoc (hP.imp fun a y=>hk a y _ _ (s4.keeps.trans kk)) (hk _ _ _ _ kk py)
 ·have e : i = xs.length:=by omega
  subst e
  refine .inl ⟨hstop H' hs,hQ D H' ys hD hs ?_ hDD⟩
  rw [List.take_of_length_le (Nat.le_refl _)] at hP
  exact hP
theorem J0r {α : Type} {J : It} {H : Hp} {σ0 : St} {g : TG} {tc : TT} {te : TE} {Q : VK} {vs : List V} (xs : List α) (p : α → Bool) (P : α → V → Hp → Prop) (sh : St → Prop) (hJ : J6y J H vs) (hv : vs.length = xs.length) (hx : xs.length ≤ 1000000) (h0 : sh σ0)
  (hk : ∀ a y Ha Hb,Keeps Ha Hb → P a y Ha → P a y Hb)
  (step : ∀ (i : Nat) a v σ H',xs[i]? = some a → vs[i]? = some v → sh σ → Same H H' → ∀ (Rf : St → Hp → Prop) (Rt : St → V → Hp → Prop),
   (∀ σ2 H3,p a = false → sh σ2 → Same H' H3 → Rf σ2 H3) → (∀ σ2 y H4,p a = true → sh σ2 → Same H' H4 → P a y H4 → Rt σ2 y H4) →
   g v σ H' fun σ2 H2=>tc σ2 H2 fun b H3=>if b = true then te σ2 H3 (fun y H4=>Rt σ2 y H4) else Rf σ2 H3)
  (hQ : ∀ D H' ys,H D = none → Same H H' → All2 P H' (xs.filter p) ys → H' D = some (.lst ys) → Q (.ref D) H') : J7O J H σ0 g tc te Q:=by
 refine Jeo xs p P sh hx h0 (fun i H' s hi=>hJ.go i H' s (by omega)) (fun H' s=>by rw [← hv]; exact hJ.stop H' s) hk (fun i a σ x H' H'' ha hσ s hy=>?_) hQ
 have hi : i < xs.length:=(List.getElem?_eq_some_iff.mp ha).1
 obtain ⟨e,hx⟩:=hJ.yld i H' x H'' s (by omega) hy
 subst e
 exact step i a x σ H'' ha hx hσ s
section
variable {X : Cx} {K : PySem.W.Frag}
theorem J9K {es : List Expr} {k : Nat} {t : TGs} {n : Nat} {pos : Pos} (hK : X.K = K) (hc : X.calm = true) (h : PGs X es t)
  (hn : (assignEach es X.env).length = n:=by rfl) (hst : (assignEach es X.env).findIdx? (·.1) = none:=by rfl) : PG X (.Tuple es k pos) (gTup K n t):=hK ▸ J3H hc h hn hst
end
end L2
set_option linter.all false
set_option maxRecDepth 100000
set_option maxHeartbeats 4000000
namespace L2
open PySem PySem.Spec PyProof.Rows
noncomputable def Iel (K : PySem.W.Frag) (l : Addr) : It :=
  ⟨fun i H=>∃ xs x,SqL K H l xs ∧ xs[i]? = some x,
   fun i H v H'=>∃ p x,H p = none ∧ (∀ xs,SqL K H l xs → xs[i]? = some x) ∧ v = .ref p ∧ H' = upd H p (.tup [.int i,x]),
   fun i H=>∃ xs,SqL K H l xs ∧ xs.length ≤ i⟩
theorem JbA {P : Program} {w : World} {K : PySem.W.Frag} {es : List Expr} {k : Nat} {pos : Pos} {z it l : Addr} (zi : z ≠ it) :
  Turn P w K (.Tuple es k pos) (Iel K l) [z,it] z (fun i h=>(∃ old,IsEnum h z it (i : Int) old) ∧ h.IsListIter it l i) where
 mem:=by simp
 obj:=fun i h st b hb=>by
  obtain ⟨⟨old,hz⟩,o1,e1,c1,d1⟩:=st
  simp only [List.mem_cons,List.not_mem_nil,or_false] at hb
  rcases hb with rfl | rfl
  ·exact ⟨_,hz,fun v q=>by cases q⟩
  ·exact ⟨o1,e1,fun v q=>by rw [d1] at q; cases q⟩
 keep:=fun i h h' st kk=>by
  obtain ⟨⟨old,hz⟩,o1,e1,r1⟩:=st
  exact ⟨⟨old,kk z (by simp) _ hz⟩,⟨o1,kk it (by simp) _ e1,r1⟩⟩
 item:=by
  intro X hP hw hK hc i pins s σ H E I hf st hg
  subst hP hw hK
  obtain ⟨⟨old,hz⟩,h1⟩:=st
  obtain ⟨xs,x,hq1,hx⟩:=hg
  obtain ⟨ia,ra,pa,_⟩:=I.list hq1
  obtain ⟨u,hu,ru⟩:=ra.get hx
  refine wpAny_pyNext_enum_item hz h1 pa.isList (x:=u) (by simpa using hu) zi fun h' a1 a2 a3 a4 kp=>?_
  refine ⟨_,rfl,?_⟩
  refine wpAny_letOwnedTupleGo_enum (s:={ s with heap:=h',toks:=s.toks + 1 }) a1 fun h2' hz' hs'=>?_
  replace hs' : Heap.SameBut z h' h2':=hs'
  have zlt : z < s.heap.objs.size:=Heap.lt_size hz
  have far : ∀ q ∈ [z,it],q < s.heap.objs.size:=by
   intro q hq
   obtain ⟨o1,e1,_⟩:=h1
   simp only [List.mem_cons,List.not_mem_nil,or_false] at hq
   rcases hq with rfl | rfl
   ·exact zlt
   ·exact Heap.lt_size e1
  have fz:=hf z (by simp)
  have f1:=hf it (by simp)
  have keepAll : ∀ b o,b ≠ z → b ≠ it → s.heap.get? b = some o → h2'.get? b = some o:=fun b o b1 b2 e=>hs'.extBut _ _ b1 (kp b o b1 b2 e)
  have hnew : H s.heap.objs.size = none:=I.hok.fresh (Nat.le_refl _)
  have Tz : s.heap.objs.size ≠ z:=Nat.ne_of_gt zlt
  have ht2 : h2'.get? s.heap.objs.size = some { cls:=.type "tuple",data:=.seq #[.int i s.toks,u] }:=hs'.extBut _ _ Tz a3
  have I2 : Inv X pins σ (upd H s.heap.objs.size (.tup [.int i,x])) { s with heap:=h2',toks:=s.toks + 1 }:=by
   have there : ∀ q ∈ [z,it],∃ o',h2'.get? q = some o':=by
    intro q hq
    obtain ⟨o1,e1,_⟩:=a2
    simp only [List.mem_cons,List.not_mem_nil,or_false] at hq
    rcases hq with rfl | rfl
    ·exact ⟨_,hz'⟩
    ·exact ⟨_,hs'.extBut _ _ zi.symm e1⟩
   have nch : ∀ b,b ∉ [z,it] → b ≠ z ∧ b ≠ it:=fun b hb=>by
    simp only [List.mem_cons,List.not_mem_nil,or_false,not_or] at hb
    exact hb
   have trk : ∀ b u',H b = some u' → b ≠ z ∧ b ≠ it:=fun b u' e =>
    ⟨fun q=>(by rw [q,fz.1] at e; cases e),fun q=>(by rw [q,f1.1] at e; cases e)⟩
   have okH : HOk X.prog X.w (upd H s.heap.objs.size (.tup [.int i,x])) h2':=fun b u' e=>by
    by_cases hb : b = s.heap.objs.size
    ·subst hb
     rw [Je] at e
     cases e
     exact ⟨(show 2 ≤ sizeLine by decide),[.int i s.toks,u],.cons ⟨_,rfl⟩ (.cons ru .nil),⟨_,ht2,rfl,_,rfl⟩⟩
    ·rw [Jj hb] at e
     have hx:=I.hok b u' e
     refine hx.stay (fun q o hq e2=>?_) (fun q e2=>?_) (fun q xs e2=>?_)
     ·rcases hq with rfl | hq
      ·obtain ⟨b1,b2⟩:=trk q _ e
       exact keepAll q o b1 b2 e2
      ·obtain ⟨b1,b2⟩:=trk q _ hq
       exact keepAll q o b1 b2 e2
     ·rw [Jj (Jc e2 hnew)]; exact e2
     ·rw [Jj (Jc e2 hnew)]; exact e2
   refine I.step (g':=s.gens) (d':=s.drawn) (ch:=[z,it]) (fun b hb=>?_) (fun b o _ _ hcb e n=>?_) (fun b o _ _ hcb e n=>?_) (fun b o hcb e n=>?_) (fun b o hcb e=>?_) (fun b xs e=>?_) (fun b o u' e=>?_) (fun b ps e=>?_) (fun m hm=>?_) okH I.bare
   ·simp only [List.mem_cons,List.not_mem_nil,or_false] at hb
    rcases hb with rfl | rfl
    ·exact ⟨fz.2.2.2.1,fz.2.1,fz.2.2.2.2.1,fz.2.2.2.2.2⟩
    ·exact ⟨f1.2.2.2.1,f1.2.1,f1.2.2.2.2.1,f1.2.2.2.2.2⟩
   ·obtain ⟨b1,b2⟩:=nch b hcb
    exact keepAll b o b1 b2 e
   ·obtain ⟨b1,b2⟩:=nch b hcb
    exact ⟨o.slots,keepAll b o b1 b2 e⟩
   ·rw [Jj (Nat.ne_of_lt (Heap.lt_size e))]; exact n
   ·obtain ⟨b1,b2⟩:=nch b hcb
    exact ⟨o,keepAll b o b1 b2 e⟩
   ·rw [Jj (Jc e hnew)]; exact e
   ·rw [Jj (Jc e hnew)]; exact e
   ·exact ⟨#[],by rw [Jj (Jc e hnew),e]; simp⟩
   ·obtain ⟨o,es',ep,ho,r⟩:=hm
    exact ⟨o,es',ep,keepAll _ o fz.2.1.symm f1.2.1.symm ho,r⟩
  refine ⟨.ref s.heap.objs.size,_,I2,rfl,⟨_,x,hnew,fun zs hz=>by rw [I.list_inj hz hq1]; exact hx,rfl,rfl⟩,⟨⟨_,by rw [Int.natCast_add]; exact hz'⟩,?_⟩,fun b hb=>?_⟩
  ·obtain ⟨o,e,r⟩:=a2; exact ⟨o,hs'.extBut _ _ zi.symm e,r⟩
  ·rw [Jj (Nat.ne_of_lt (far b hb))]; exact (hf b hb).1
 done:=by
  intro X hP hw hK hc i pins s σ H E I hf st hg
  subst hP hw hK
  obtain ⟨⟨old,hz⟩,h1⟩:=st
  obtain ⟨xs,hq1,hg⟩:=hg
  obtain ⟨ia,ra,pa,_⟩:=I.list hq1
  have la:=ra.length
  obtain ⟨f0,f1,f2,f3,f4,f5⟩:=hf it (by simp)
  refine wpAny_pyNext_enum_end (I.ok.hd hc) hz h1 pa.isList (by simp; omega) fun h' eb=>⟨rfl,I.turned (t':=s.toks) (fun b o hb e=>eb b o hb e) f0 f1 f3 f4 f5⟩
 self:=fun _ _ _ _ _ st h=>by
  obtain ⟨⟨old,hz⟩,_⟩:=st
  exact wpAny_pyIter_enum hz h
section
variable {X : Cx} {es : List Expr} {k : Nat} {tpos : Pos}
noncomputable def JdX (K : PySem.W.Frag) (ta : TA) : TI:=fun σ H R=>ta σ H fun vs H1=>∃ a,vs = [.ref a] ∧ (∃ xs,SqL K H1 a xs) ∧ R (Iel K a) H1
theorem Jew {a : Expr} {ta : TA} {p pos : Pos} (hg : Gl X "enumerate") (hm : X.mg "enumerate" = none) (ha : PA X [a] ta) (hv : bootBuiltins "enumerate" = some (.type "enumerate"):=by decide +kernel) (hs : starEach [a] X.env = [(false,eval a X.env)]:=by rfl) :
  PI X (.Tuple es k tpos) (.Call (.Name "enumerate" p) [a] [] pos) (JdX X.K ta):=by
 intro pins s σ H R I h
 refine Call_ (J6h I hg hm hv (PyProof.Rows.callWith_type1 (thn (ha pos pins s σ H _ I h) fun us s1 ⟨vs,H1,I1,r1,q1⟩=>?_) (by rw [hs]; rfl) (by rfl)))
 obtain ⟨l1,e,⟨xs,hq1⟩,q⟩:=q1
 subst e
 obtain ⟨u,rfl,ru⟩:=r1.one
 cases ru
 obtain ⟨ia,ra,pa,_⟩:=I1.list hq1
 refine call_enumerate_list pa.isList fun h' a1 a2 a3 kp=>?_
 have I2 : Inv X pins σ H1 { s1 with heap:=h' }:=I1.kept (t':=s1.toks) kp
 refine wpAny_pyIter_enum a1 ⟨s1.heap.objs.size + 1,[s1.heap.objs.size + 1,s1.heap.objs.size],_,_,H1,rfl,I2,JbA (Nat.ne_of_gt (Nat.lt_succ_self _)),⟨⟨_,a1⟩,a2⟩,fun b hb=>?_,q⟩
 have hb' : s1.heap.objs.size ≤ b:=by
  simp only [List.mem_cons,List.not_mem_nil,or_false] at hb
  rcases hb with rfl | rfl
  ·exact Nat.le_add_right _ _
  ·exact Nat.le_refl _
 exact I1.fpOk hb' (I1.hok.fresh hb')
theorem Jd4 {K : PySem.W.Frag} {a : Expr} {ta : TA} {p pos : Pos} (h : X.K = K) (hg : Gl X "enumerate") (hm : X.mg "enumerate" = none) (ha : PA X [a] ta) (hv : bootBuiltins "enumerate" = some (.type "enumerate"):=by decide +kernel) (hs : starEach [a] X.env = [(false,eval a X.env)]:=by rfl) :
  PI X (.Tuple es k tpos) (.Call (.Name "enumerate" p) [a] [] pos) (JdX K ta):=h ▸ Jew hg hm ha hv hs
end
theorem JcZ {K : PySem.W.Frag} {a : Addr} {xs : List V} {g : TG} {tb : TS} {D : Ends} {σ : St} {H : Hp} (Pv : Nat → St → Hp → Prop) (h0 : Pv 0 σ H) (hl : ∀ i σ H,i ≤ xs.length → Pv i σ H → SqL K H a xs)
  (hs : ∀ i x p σ H,xs[i]? = some x → H p = none → Pv i σ H → g (.ref p) σ (upd H p (.tup [.int i,x])) fun σ2 H2=>tb { D with nx:=Pv (i + 1),ct:=Pv (i + 1),bk:=D.nx } σ2 H2) (hd : ∀ σ H,Pv xs.length σ H → D.nx σ H) :
  ∃ W : Nat → Nat → St → Hp → Prop,(∃ m,W 0 m σ H) ∧ ∀ i m σ H,W i m σ H →
   ((Iel K a).stop i H ∧ D.nx σ H) ∨ ((Iel K a).go i H ∧ ∃ N : St → Hp → Prop,(∀ σ' H',N σ' H' → ∃ m',m' < m ∧ W (i + 1) m' σ' H') ∧ ∀ x H',(Iel K a).yld i H x H' → g x σ H' fun σ2 H2=>tb { D with nx:=N,ct:=N,bk:=D.nx } σ2 H2):=by
 refine ⟨fun i m σ H=>m = xs.length - i ∧ i ≤ xs.length ∧ Pv i σ H,⟨xs.length,by simp,Nat.zero_le _,h0⟩,?_⟩
 rintro i m σ H ⟨rfl,hi,p⟩
 have q:=hl i σ H hi p
 by_cases hlt : i < xs.length
 ·refine .inr ⟨⟨xs,xs[i],q,by simp [hlt]⟩,Pv (i + 1),fun σ' H' p'=>⟨xs.length - (i + 1),by omega,rfl,hlt,p'⟩,fun x H' y=>?_⟩
  obtain ⟨r,u,hr,e1,rfl,rfl⟩:=y
  exact hs i u r σ H (e1 xs q) hr p
 ·have e : i = xs.length:=by omega
  subst e
  exact .inl ⟨⟨xs,q,Nat.le_refl _⟩,hd σ H p⟩
end L2
set_option linter.all false
set_option maxRecDepth 100000
set_option maxHeartbeats 4000000
namespace L2
open PySem PySem.Spec PyProof.Rows
section
variable {X : Cx} {K : PySem.W.Frag} {pins : List (Addr × Obj)} {s : Shared} {σ : St} {H : Hp} {A : Around}
end
end L2
set_option linter.all false
set_option maxRecDepth 100000
set_option maxHeartbeats 4000000
namespace L2
open PySem PySem.Spec PyProof.Rows
@[irreducible] def tCut (t : TS) : TS:=fun D σ H=>∃ R : St → Hp → Prop,t { D with nx:=R } σ H ∧ ∀ σ' H',R σ' H' → D.nx σ' H'
theorem tCut.mk {t : TS} {D : Ends} {σ : St} {H : Hp} (R : St → Hp → Prop) (h : t { D with nx:=R } σ H) (h' : ∀ σ' H',R σ' H' → D.nx σ' H') : tCut t D σ H:=by unfold tCut; exact ⟨R,h,h'⟩
section
variable {X : Cx} {K : PySem.W.Frag}
theorem J4n {st : Stmt} {t : TS} (h : PS X st t) : PS X st (tCut t):=by
 intro pins s σ H D I q
 unfold tCut at q
 obtain ⟨R,h1,h2⟩:=q
 refine thn (h pins s σ H _ I h1) fun f s' z=>?_
 cases f with
 | next=>obtain ⟨σ',H',I',r⟩:=z; exact ⟨σ',H',I',h2 σ' H' r⟩
 | brk=>exact z
 | cont=>exact z
 | ret u=>exact z
theorem J9u {M : Model} {A : Around} {E : Value → Shared → Prop} {s : Shared} {a b : Value} {Q : Value → Shared → Prop} (ha : s.TypeIs a "list") (hb : s.TypeIs b "list") (hc : wpAny M A (call (.builtin "list.__iadd__") [a,b]) Q E s) : wpAny M A (inplaceOp .Add a b) Q E s:=by
 unfold inplaceOp
 refine wpAny_holding ?_
 have hl : typeLookup (.type "list") (dunderI "add") = pure (some (.builtin "list.__iadd__")):=F.slot_list_iadd.lookup
 have hfi : fillsInplaceSlot (.type "list") "add" (Operator.Add == .Add) = pure false:=by
  unfold fillsInplaceSlot
  show (typeLookup (.type "list") (dunderI "add") >>= fun fi=>pure (fi.isSome && !isSeqSlot fi)) = pure false
  rw [hl]; rfl
 have hsi : seqSlot? (.type "list") (dunderI "add") = pure (some (.builtin "list.__iadd__")):=by
  unfold seqSlot?
  rw [hl]; rfl
 refine wpAny_bind (wpAny_typeOf ha (wpAny_bind (wpAny_of_eq hfi ?_)))
 show wpAny M A (if false = true then _ else _) Q E s
 rw [if_neg Bool.false_ne_true]
 refine wpAny_bind (binaryOp1_none (nm:="add") ha hb noFill_list_add ?_)
 refine wpAny_bind (wpAny_of_eq hsi ?_)
 exact wpAny_bind (wpAny_rule hc)
noncomputable def ipL : TIp:=fun x y H Q=>∃ l b xs zs,x = .ref l ∧ y = .ref b ∧ H l = some (.lst xs) ∧ H b = some (.lst zs) ∧ xs.length + zs.length ≤ sizeLine ∧ Q (.ref l) (upd H l (.lst (xs ++ zs)))
theorem J4O : PIp X .Add ipL:=by
 intro pins s σ H x y v u Q I rx ry h
 obtain ⟨l,b,xs,zs,rfl,rfl,hH,hB,hz,q⟩:=h
 cases rx
 cases ry
 obtain ⟨z,its,n,r,hl,e⟩:=I.lstM hH
 obtain ⟨z2,its2,n2,r2,hl2,e2⟩:=I.lstM hB
 have hsz : its.toArray.size + its2.toArray.size ≤ sizeLine:=by rw [List.size_toArray,List.size_toArray]; omega
 have hlong : ¬ (!its.toArray.isEmpty && Builtin.List.listTooLong (its.toArray.size + its2.toArray.size)) = true:=by
  rw [JeJ hsz,Bool.and_false]
  exact Bool.false_ne_true
 refine J9u ⟨_,e,rfl⟩ ⟨_,e2,rfl⟩ ?_
 refine call_meets F.slot_list_iadd ⟨_,e,rfl⟩ F.entry_list_iadd (F.args_list_iadd_2 _ _)
  (AutoSeq1.list___iadd___list_list_0 l its.toArray n b its2.toArray n2 hlong (by rw [List.size_toArray]; omega) (by omega)) ⟨e,e2,?_⟩
 refine ⟨.ref l,_,I.lset (its':=its ++ its2) hH e (by simp) (r.append r2) ?_,rfl,q⟩
 rw [List.length_append]
 omega
end
end L2
namespace L2
open PySem PySem.Spec PyProof.Rows
theorem J5L {X : Cx} : J21 X (.type "str") (fun xs H Q=>∃ i : Int,xs = [.int i] ∧ 0 ≤ i ∧ i ≤ 9 ∧ Q (T [48 + i.toNat]) H):=by
 intro pins s σ H xs us Q I r h
 obtain ⟨i,rfl,h0,h1,q⟩:=h
 exact J8f pins s σ H _ us Q I r ⟨i.toNat,by rw [Int.toNat_of_nonneg h0],by omega,q⟩
section
variable {α β : Type} {H : Hp}
end
end L2
set_option linter.all false
set_option maxRecDepth 100000
set_option maxHeartbeats 4000000
namespace L2
open PySem PySem.Spec PyProof.Rows
section
variable {X : Cx} {pins : List (Addr × Obj)} {σ : St} {H : Hp} {s : Shared} {E : XK} {Ex : Value → Shared → Prop}
end
end L2
set_option linter.all false
set_option maxRecDepth 100000
set_option maxHeartbeats 4000000
namespace L2
open PySem PySem.Spec PyProof.Rows
section
variable {P : Program} {w : World} {K : PySem.W.Frag} {mg : Str → Option Value} {base : Heap}
end
section
variable {X : Cx} {x m : Str} {k : Nat} {ps : List Str} {sp : Sp} {C : Addr} {p pos apos : Pos} {e o : Expr} {es : List Expr} {t : TA} {to : TE} {E : XK}
end
end L2
set_option linter.all false
set_option maxRecDepth 100000
set_option maxHeartbeats 4000000
namespace L2
open PySem PySem.Spec PyProof.Rows
section
variable {prog : Program} {w : World} {A : Around} {E : Value → Shared → Prop} {K : PySem.W.Frag} {x C : Addr} {h : Heap} {g : Array GenState} {d : Drawn} {t : Nat} {os : OsState} {o : Obj}
end
end L2
set_option linter.all false
set_option maxRecDepth 100000
set_option maxHeartbeats 4000000
namespace L2
open PySem PySem.Spec PyProof.Rows
section
variable {X : Cx} {pins : List (Addr × Obj)} {σ : St} {H : Hp} {s : Shared}
end
section
variable {X : Cx} {x m : Str} {k : Nat} {ps : List Str} {sp : Sp} {C : Addr} {p pos apos : Pos} {e o : Expr} {es : List Expr} {t : TA} {to : TE}
end
section
variable {X : Cx}
end
end L2
set_option linter.all false
set_option maxRecDepth 100000
set_option maxHeartbeats 4000000
namespace L2
open PySem PySem.Spec PyProof.Rows
section
variable {X : Cx} {K : PySem.W.Frag}
end
end L2
set_option linter.all false
set_option maxRecDepth 100000
set_option maxHeartbeats 4000000
namespace L2
open PySem PySem.Spec PyProof.Rows
section
variable {X : Cx} {K : PySem.W.Frag} {pins : List (Addr × Obj)} {σ : St} {H : Hp} {s : Shared} {A : Around}
end
end L2
set_option linter.all false
set_option maxRecDepth 100000
set_option maxHeartbeats 4000000
namespace L2
open PySem PySem.Spec PyProof.Rows
section
variable {X : Cx} {K : PySem.W.Frag} {pins : List (Addr × Obj)} {σ : St} {H : Hp} {s : Shared} {A : Around}
end
end L2
set_option linter.all false
set_option maxRecDepth 100000
set_option maxHeartbeats 4000000
namespace L2
open PySem PySem.Spec PyProof.Rows
section
variable {X : Cx} {K : PySem.W.Frag}
theorem J8E : bootBuiltins "set" = some (.type "set"):=by decide +kernel
end
end L2
set_option linter.all false
set_option maxRecDepth 100000
namespace L2
open PySem PySem.Spec PyProof.Rows
end L2
namespace L2
open PySem PySem.Spec PyProof.Rows
section
variable (P : Program) (w : World)
end
section
variable {P : Program} {w : World} {H H' : Hp} {h h' : Heap} {a : Addr} {o : HO}
end
section
variable {P : Program} {w : World} {H : Hp} {h h' : Heap} {x e : Addr} {o' : HO}
end
section
variable {fs fs' ex ex' : List Addr} {H H1 H2 : Hp} {h h1 h2 h' : Heap} {a x e : Addr} {o : HO}
end
end L2
namespace L2
open PySem PySem.Spec PyProof.Rows
section
variable {X : Cx} {pins : List (Addr × Obj)} {σ : List (Option V)} {H H' : Hp} {s : Shared} {h' : Heap}
end
end L2
namespace L2
open PySem PySem.Spec PyProof.Rows
section
variable {X : Cx}
variable {a b : Expr} {ta tb : TE} {pos : Pos}
variable {tA tB' : TT} {rest : List Expr}
end
end L2
namespace L2
open PySem PySem.Spec PyProof.Rows
section
variable {X : Cx} {pins : List (Addr × Obj)} {σ : St} {H : Hp} {s : Shared} {a : Addr} {xs ys : List V}
end
section
variable {X : Cx} {pins : List (Addr × Obj)} {σ : St} {H : Hp} {s : Shared} {E : Value → Shared → Prop}
end
section
variable {X : Cx} {st : Stmt} {rest : List Stmt} {t u : TS} {e : Expr} {te : TE} {pos : Pos}
end
section
variable {X : Cx} {pos : Pos}
end
section
variable {X : Cx} {pos : Pos}
end
end L2
namespace L2
open PySem PySem.Spec PyProof.Rows
section
variable {X : Cx} {tg : Expr}
end
end L2
namespace L2
open PySem PySem.Spec PyProof.Rows
section
variable {X : Cx} {a b c : Expr} {ta tb tc : TE} {pos : Pos}
end
section
variable {X : Cx} {a b c : Expr} {ta tb tc : TE} {pos : Pos}
end
end L2
namespace L2
open PySem PySem.Spec PyProof.Rows
section
variable {prog : Program} {w : World} {A : Around} {E : Value → Shared → Prop} {s : Shared} {K : PySem.W.Frag} {x dx C f : Addr} {mA : Str → Option Value} {name : Str} {v : Value}
end
section
variable {P : Program} {w : World} {H H' : Hp} {h h' : Heap} {a C dx : Addr} {fs fs' : List (Str × V)}
end
section
variable {X : Cx} {pins : List (Addr × Obj)} {σ : St} {H : Hp} {s : Shared} {a C dx : Addr} {fs : List (Str × V)} {f : Str} {v : V} {A : Around} {E : Value → Shared → Prop}
end
section
variable {X : Cx} {o e value : Expr} {f : Str} {pos pos' tpos : Pos} {ta tv : TE}
end
section
variable {X : Cx} {pins : List (Addr × Obj)} {σ : St} {H : Hp} {s : Shared} {A : Around} {E : Value → Shared → Prop} {Q : Value → Shared → Prop} {c : Value} {b : Bool}
end
end L2
namespace L2
open PySem PySem.Spec PyProof.Rows
section
variable {X : Cx} {e : Expr} {es : List Expr} {te : TE} {t : TA} {pos : Pos}
end
section
variable {X : Cx} {pins : List (Addr × Obj)} {σ : St} {H : Hp} {s s' : Shared}
end
section
variable {X : Cx} {CX : CXT} {k : Nat} {f C : Addr} {fd : FuncData} {ps : List Str} {sp : Sp} {dvs : List V} {ds : List Value} {E : XK} {x m : Str} {p pos apos : Pos} {e o : Expr} {es : List Expr} {ta : TE} {t : TA}
end
section
variable {X : Cx} {CX : CXT} {k : Nat} {f C : Addr} {fd : FuncData} {ps ks : List Str} {sp : Sp} {E : XK} {x m : Str} {p pos apos kpos : Pos} {e o : Expr} {es : List Expr} {kws : List Keyword} {te ta : TE} {t tk : TA} {nm : Option Str}
variable {g : List Value → List Value → List Value} {gV : List V → List V → List V}
end
end L2
namespace L2
open PySem PySem.Spec PyProof.Rows
section
variable {X : Cx} {x : Str} {p pos : Pos} {e : Expr} {es : List Expr} {t : TA} {id T : String} {r : List V → Hp → VK → Prop}
end
end L2
namespace L2
open PySem PySem.Spec PyProof.Rows
section
variable {κ : Type} [DecidableEq κ]
end
section
variable {P : Program} {w : World} {H : Hp} {h : Heap} {a : Addr}
end
section
variable {X : Cx} {pins : List (Addr × Obj)} {σ : St} {H : Hp} {s : Shared} {a : Addr} {y v : V} {u r : Value} {o : Option V} {A : Around} {E : Value → Shared → Prop}
end
section
variable {X : Cx} {pins : List (Addr × Obj)} {σ : St} {H : Hp} {s : Shared} {a : Addr} {kvs : List (Key × V)} {k : Key} {u : Value} {A : Around} {E : Value → Shared → Prop}
end
section
variable {X : Cx} {o i e value : Expr} {pos pos' tpos : Pos} {td ty tv : TE}
end
section
variable {X : Cx} {pos : Pos}
end
section
variable {X : Cx} {pins : List (Addr × Obj)} {σ : St} {H : Hp} {s : Shared} {a : Addr} {y d : V} {u r : Value} {o : Option V} {A : Around} {E : Value → Shared → Prop}
end
section
variable {X : Cx} {o e f : Expr} {apos cpos : Pos} {td ty tx : TE}
end
section
variable {X : Cx} {pins : List (Addr × Obj)} {σ : St} {H : Hp} {s : Shared} {a : Addr} {kvs : List (Key × V)} {A : Around} {E : Value → Shared → Prop}
end
section
variable {X : Cx} {pins : List (Addr × Obj)} {σ : St} {H : Hp} {s : Shared} {a : Addr} {y : V} {u : Value} {A : Around} {E : Value → Shared → Prop}
end
end L2
namespace Att
open PySem PySem.W PySem.Calls PyProof.Rows
section
variable {prog : Program} {w : World} {A : Around} {E : Value → Shared → Prop} {s : Shared} {K : Frag}
end
end Att
namespace L2
open PySem PySem.Spec PyProof.Rows
end L2
namespace L2
open PySem PySem.Spec PyProof.Rows
end L2
namespace L2
open PySem PySem.Spec PyProof.Rows
section
variable {P : Program} {w : World} {K : PySem.W.Frag} {mg : Str → Option Value} {base : Heap}
end
section
variable {X : Cx}
end
section
variable {κ : Type} [DecidableEq κ]
end
end L2
set_option linter.all false
set_option maxRecDepth 100000
set_option maxHeartbeats 4000000
namespace L2
open PySem PySem.Spec PyProof.Rows
section
variable {prog : Program} {w : World} {K : Type} [DecidableEq K] {knd : HeapKind prog w K} {A : Around} {E : Value → Shared → Prop} {s : Shared} {d a : Addr} {xs : List (K × Addr × Value)} {k : K} {z : Value}
end
section
variable {X : Cx} {K : PySem.W.Frag}
end
end L2
set_option linter.all false
set_option maxRecDepth 100000
set_option maxHeartbeats 4000000
namespace L2
open PySem PySem.Spec PyProof.Rows
section
variable {X : Cx} {K : PySem.W.Frag}
end
section
variable {X : Cx} {es : List Expr} {k : Nat} {tpos : Pos}
end
section
variable {elt tg iter : Expr} {ifs : List Expr} {scope : Scope} {pos : Pos} {N : List Str} {js : List (Option Nat)} {wi : TI} {g : TG} {tc : TT} {te : TE}
end
end L2
set_option linter.all false
set_option maxRecDepth 100000
set_option maxHeartbeats 4000000
namespace L2
open PySem PySem.Spec PyProof.Rows
section
variable {κ : Type} [DecidableEq κ]
noncomputable def metK (val : Nat → κ) : Nat → List κ
 | 0=>[]
 | i + 1=>if val i ∈ metK val i then metK val i else metK val i ++ [val i]
theorem J7D (val : Nat → κ) : ∀ i,(metK val i).length ≤ i
 | 0=>Nat.le_refl _
 | i + 1=>by
  have:=J7D val i
  rw [metK]
  split
  ·omega
  ·rw [List.length_append,List.length_singleton]; omega
theorem Jdy (val : Nat → κ) (i : Nat) (x : κ) : decide (x ∈ metK val (i + 1)) = (decide (x ∈ metK val i) || decide (x = val i)):=by
 rw [metK]
 by_cases h : val i ∈ metK val i
 ·rw [if_pos h]
  by_cases e : x = val i
  ·rw [e,decide_eq_true h]; rfl
  ·rw [decide_eq_false e,Bool.or_false]
 ·rw [if_neg h]
  by_cases e : x = val i <;> by_cases e2 : x ∈ metK val i <;> simp [e,e2]
theorem Jd3 (val : Nat → κ) (i : Nat) : (metK val (i + 1)).length = if decide (val i ∈ metK val i) = true then (metK val i).length else (metK val i).length + 1:=by
 rw [metK]
 by_cases h : val i ∈ metK val i
 ·rw [if_pos h,if_pos (decide_eq_true h)]
 ·rw [if_neg h,if_neg (by rw [decide_eq_false h]; exact Bool.false_ne_true),List.length_append,List.length_singleton]
end
section
variable {p : Program} {w : World} {A : Around} {R : Result → Shared → Prop} {it : Addr} {fp wr : List Addr} {gs : Array GenState → Array GenState → Prop} {n : Nat} {Pv : Nat → Value → Prop} {St : Nat → Shared → Prop}
theorem Jdb {κ : Type} [DecidableEq κ] (kd : PySem.KeyKind p w κ) (W : WalksS p w A.in1 it fp wr gs n Pv St) (z : Addr) (nz : z ∉ fp) (val : Nat → κ) (hv : ∀ i v,Pv i v → kd.is (val i) v = true ∧ v.scannable = true) (hb : n + 1 < scanBound) :
  ∀ (k i : Nat) (s : Shared),i + k = n → St i s → s.heap.SetOf kd z (fun x=>decide (x ∈ metK val i)) (metK val i).length → (∀ s',Moved (z :: wr) gs s s' → s'.heap.SetOf kd z (fun x=>decide (x ∈ metK val n)) (metK val n).length → R (.ok (.ret .none)) s') → codeAny (model p w) A (.builtin "set.update.loop" ⟨[.ref z,.ref it],[]⟩) R s:=by
 have nzw : z ∉ wr:=fun q=>nz (W.sub _ q)
 have wid : ∀ b ∈ wr,b ∈ z :: wr:=fun b q=>List.mem_cons_of_mem _ q
 intro k
 induction k with
 | zero =>
  intro i s ek st so out
  have ei : i = n:=by omega
  subst ei
  refine codeAny_builtin PyProof.Rows.F.entry_set_update_loop ?_
  rw [Around.under_plainId PyProof.Rows.F.plain_set_update_loop _]
  show wpAny _ A.in1 (pyNext (.ref it) >>= _) _ _ s
  refine wpAny_bind (W.done s _ _ st fun s1 mv=>?_)
  show wpAny _ A.in1 (ret Value.none) _ _ s1
  refine wpAny_pure (out s1 (mv.mono wid) ?_)
  obtain ⟨o,es,ep,tb,ho,rest⟩:=so
  exact ⟨o,es,ep,tb,mv.heap z _ nzw ho,rest⟩
 | succ k ih =>
  intro i s ek st so out
  refine codeAny_builtin PyProof.Rows.F.entry_set_update_loop ?_
  rw [Around.under_plainId PyProof.Rows.F.plain_set_update_loop _]
  show wpAny _ A.in1 (pyNext (.ref it) >>= _) _ _ s
  refine wpAny_bind (W.item i s _ _ (by omega) st fun v s1 pv st1 mv=>?_)
  obtain ⟨h1,h2⟩:=hv i v pv
  have so1 : s1.heap.SetOf kd z (fun x=>decide (x ∈ metK val i)) (metK val i).length:=by
   obtain ⟨o,es,ep,tb,ho,rest⟩:=so
   exact ⟨o,es,ep,tb,mv.heap z _ nzw ho,rest⟩
  show wpAny _ A.in1 (holding [v] (setAdd z v) >>= _) _ _ s1
  refine wpAny_bind (wpAny_holding ?_)
  unfold setAdd
  refine wpAny_holding (wpAny_bind (kd.pyHash (k:=val i) h1 ?_))
  have rm : (metK val i).length + 1 < scanBound:=by have:=J7D val i; omega
  refine wpAny_setAddHashed_of (knd:=kd) (s:={ s1 with toks:=s1.toks + 1 }) h1 h2 so1 rm fun h' sb so2=>?_
  have so3 : h'.SetOf kd z (fun x=>decide (x ∈ metK val (i + 1))) (metK val (i + 1)).length:=PyProof.Rows.SetOf_congr so2 (fun x=>(Jdy val i x).symm) (Jd3 val i).symm
  refine wpAny_pure ⟨plainId_quiet PyProof.Rows.F.plain_set_update_loop _,ih (i + 1) _ (by omega) (W.frame _ s1 _ _ st1 (Nat.le_succ _) fun b bf o e=>?_) so3 fun s2 mv2 so4=>?_⟩
  ·rw [sb.2 b (fun q : b = z=>nz (by rw [← q]; exact bf))]; exact e
  ·refine out s2 (Moved.trans W.gtrans ((mv.mono wid).then_heap (Nat.le_succ _) fun b o hn e=>?_) mv2) so4
   rw [sb.2 b (fun q : b = z=>hn (by rw [q]; exact List.mem_cons_self))]; exact e
end
section
variable {p : Program} {w : World} {A : Around} {E : Value → Shared → Prop} {s : Shared}
theorem Jeg {x : Str} {t : Tok} {Q : Value → Shared → Prop} (hh : A.handled = none) (hb : x.cps.size + 1 < scanBound)
  (h : ∀ (h' : Heap) (tk : Nat),h'.SetOf (PySem.strKind p w) s.heap.objs.size (fun k=>decide (k ∈ metK (fun i=>(⟨#[x.cps.getD i 0]⟩ : Str)) x.cps.size)) (metK (fun i=>(⟨#[x.cps.getD i 0]⟩ : Str)) x.cps.size).length →
   (∀ b o,b < s.heap.objs.size → s.heap.get? b = some o → h'.get? b = some o) → Q (.ref s.heap.objs.size) { s with heap:=h',toks:=tk }) :
  wpAny (model p w) A (call (.type "set") [.str x t]) Q E s:=by
 obtain ⟨c,tl,mro⟩:=PySem.F.called_set.mro
 have m1:=PySem.F.called_set.made
 have m2:=PySem.F.called_set.sub
 refine wpAny_call (codeAny_of_tree ?_)
 show wpAny _ _ (callAny (.type "set") _) _ _ _
 refine wpAny_pure ⟨Code.quiet_builtin _ (by decide +kernel),codeAny_builtin PySem.F.entry_type_call ?_⟩
 rw [Around.under_plain (weight_type_call_type "set" [.str x t] []) rfl]
 have m3:=PySem.F.called_set.notType
 have m4:=PySem.F.called_set.canCreate
 have m5:=PySem.F.typeCall_set_1 (.str x t)
 repeat (any_goals (first | assumption | wp_step))
 have pre:=code_set_new_1 (prog:=p) (w:=w) (A:=A.in1) (s:=s) (.str x t) (E:=E) (Q₁:=fun ob s1=>∃ led : Bool,ob = .ref s.heap.objs.size ∧ s1 = { s with heap:=s.heap.push { cls:=.type "set",dict:=none,data:=.set #[] 0 (.fresh 0 0 led) } }) fun led=>⟨led,rfl,rfl⟩
 refine codeAny_mono pre fun r s1 hr=>?_
 cases r with
 | error e=>exact hr
 | ok fl =>
  cases fl with
  | ret ob =>
   obtain ⟨led,rfl,rfl⟩:=hr
   generalize hO : ({ cls:=.type "set",dict:=none,data:=.set #[] 0 (.fresh 0 0 led) } : Obj) = O
   have cO : O.cls = .type "set":=by rw [← hO]
   have gO : (s.heap.push O).get? s.heap.objs.size = some O:=Heap.get?_push_size _ (by rw [← hO]; rfl)
   have tO : Shared.TypeIs { s with heap:=s.heap.push O } (.ref s.heap.objs.size) "set":=⟨_,gO,cO⟩
   have li:=PySem.F.called_set.init.lookup
   have bi:=PySem.F.called_set.init.bind (.ref s.heap.objs.size)
   repeat (any_goals (first | assumption | wp_step))
   refine codeAny_mono (codeAny_call_builtin (R:=wants (fun r s2=>r = .none ∧ ∃ h' tk,s2 = { s with heap:=h',toks:=tk } ∧ h'.SetOf (PySem.strKind p w) s.heap.objs.size (fun k=>decide (k ∈ metK (fun i=>(⟨#[x.cps.getD i 0]⟩ : Str)) x.cps.size)) (metK (fun i=>(⟨#[x.cps.getD i 0]⟩ : Str)) x.cps.size).length ∧ ∀ b o,b < s.heap.objs.size → s.heap.get? b = some o → h'.get? b = some o) E) PySem.F.called_set.init.plain PySem.F.entry_set_init (check_set_init_1 tO ?_)) fun r2 s2 hr2=>?_
   ·have q1 : isSubtype (.type "str") (.type "set") = pure false:=by rw [isSubtype_type]; kernel_rfl
    have q2 : isSubtype (.type "str") (.type "frozenset") = pure false:=by rw [isSubtype_type]; kernel_rfl
    have q3 : (Value.type "str" == Value.type "dict") = false:=by decide
    subst hO
    unfold Builtin.«set.__init__» noKeywords Builtin.Frozenset.updateFrom
    generalize hPI : pyIter = PI
    wp_walk
    subst hPI
    refine wpAny_pyIter_str fun o2 St hW st0=>?_
    refine wpAny_bind (wpAny_runValue ?_)
    have W:=hW A.in1.in1.in1 (by simp [hh])
    have ez : (s.heap.push { cls:=.type "set",dict:=none,data:=.set #[] 0 (.fresh 0 0 led) }).objs.size = s.heap.objs.size + 1:=Heap.size_push ..
    have nz : s.heap.objs.size ∉ [(s.heap.push { cls:=.type "set",dict:=none,data:=.set #[] 0 (.fresh 0 0 led) }).objs.size]:=by
     rw [ez,List.mem_singleton]
     omega
    refine Jdb (PySem.strKind p w) W.toS s.heap.objs.size nz (fun i=>(⟨#[x.cps.getD i 0]⟩ : Str)) (fun i v sv=>?_) hb x.cps.size 0 _ (Nat.zero_add _) st0 ?_ fun s3 mv so=>?_
    ·obtain ⟨cc,u,e1,rfl⟩:=sv
     have e2 : x.cps.getD i 0 = cc:=by rw [Array.getD_eq_getD_getElem?,e1]; rfl
     exact ⟨by show (PySem.strKind p w).is ⟨#[x.cps.getD i 0]⟩ (.str ⟨#[cc]⟩ u) = true; rw [e2]; exact strKind_is p w _ u,rfl⟩
    ·have g2:=Heap.get?_push_of_some o2 gO
     exact PyProof.Rows.SetOf_congr ((PyProof.Rows.setObjOf_fresh (knd:=PySem.strKind p w) led).setOf g2 (by unfold scanBound; omega)) (fun _=>rfl) rfl
    ·obtain ⟨h3,g3,d3,t3,os3⟩:=s3
     have a1 : g3 = s.gens:=mv.gens
     have a2 : d3 = s.drawn:=mv.drawn
     have a3 : os3 = s.os:=mv.os
     subst a1 a2 a3
     show wpAny _ _ _ _ _ _
     refine wpAny_pure ?_
     show wpAny _ _ (ret Value.none) _ _ _
     refine wpAny_pure ⟨rfl,h3,t3,rfl,so,fun b o lt e=>?_⟩
     refine mv.heap b o ?_ (Heap.get?_push_of_some _ (Heap.get?_push_of_some _ e))
     rw [ez]
     simp only [List.mem_cons,List.not_mem_nil,or_false,not_or]
     exact ⟨Nat.ne_of_lt lt,Nat.ne_of_lt (Nat.lt_succ_of_lt lt)⟩
   ·cases r2 with
    | error e=>exact hr2
    | ok fl2 =>
     cases fl2 with
     | ret r =>
      obtain ⟨rfl,h',tk,rfl,so,kp⟩:=hr2
      repeat (any_goals (first | assumption | wp_step))
      exact h _ _ so kp
     | _=>exact hr2.elim
  | _=>exact hr.elim
end
noncomputable def SO (a : Addr) (n : Nat) : HO:=.ext fun h=>∃ o es ep t,h.get? a = some o ∧ o.ExactSet ∧ o.data = .set es ep t ∧ t.fits es.size = true ∧ es.size = n ∧ n < 4096
theorem SO.ok {P : Program} {w : World} {H : Hp} {h : Heap} {a : Addr} {n : Nat} (q : ∃ o es ep t,h.get? a = some o ∧ o.ExactSet ∧ o.data = .set es ep t ∧ t.fits es.size = true ∧ es.size = n ∧ n < 4096) : J2t P w H h a (SO a n) :=
 ⟨q,let ⟨o,_,_,_,e,_⟩:=q; ⟨o,e⟩,fun _ _ ⟨o,es,ep,t,e,c⟩ k=>⟨o,es,ep,t,k o e,c⟩⟩
noncomputable def J5E (l : List Nat) : Nat:=(metK (fun i=>(⟨#[l.getD i 0]⟩ : Str)) l.length).length
section
variable {X : Cx}
theorem J8F (hc : X.calm = true) : J21 X (.type "set") (fun xs H Q=>∃ l,xs = [T l] ∧ l.length ≤ 1000 ∧ ∀ p,H p = none → Q (.ref p) (upd H p (SO p (J5E l)))):=by
 intro pins s σ H xs us Q I r h
 obtain ⟨l,rfl,hl,q⟩:=h
 obtain ⟨u,rfl,ru⟩:=r.one
 obtain ⟨t,rfl⟩:=ru
 have hb : (⟨l.toArray⟩ : Str).cps.size + 1 < scanBound:=by
  show l.toArray.size + 1 < 4096
  rw [List.size_toArray]
  omega
 refine Jeg (x:=⟨l.toArray⟩) (I.ok.hd hc) hb fun h' tk so kp=>?_
 obtain ⟨o,es,ep,tb,ho,hex,hd,hel,hmem,hb2,hf,hn⟩:=so
 have e1 : (metK (fun i=>(⟨#[(⟨l.toArray⟩ : Str).cps.getD i 0]⟩ : Str)) (⟨l.toArray⟩ : Str).cps.size).length = J5E l:=by
  unfold J5E
  have e : (fun i=>(⟨#[(⟨l.toArray⟩ : Str).cps.getD i 0]⟩ : Str)) = fun i=>(⟨#[l.getD i 0]⟩ : Str):=by
   funext i
   show (⟨#[l.toArray.getD i 0]⟩ : Str) = _
   rw [Array.getD_eq_getD_getElem?,List.getElem?_toArray,List.getD_eq_getElem?_getD]
  rw [e]
  show (metK _ l.toArray.size).length = _
  rw [List.size_toArray]
 have hz : es.size = J5E l:=by rw [← e1]; omega
 have hz2 : J5E l < 4096:=by
  have : es.size < 4096:=hb2
  omega
 exact ⟨.ref s.heap.objs.size,_,I.laid (o:=SO s.heap.objs.size (J5E l)) (t':=tk) (fun b o e=>kp b o (Heap.lt_size e) e) (Nat.le_refl _) (SO.ok ⟨o,es,ep,tb,ho,hex,hd,hf,hz,hz2⟩),rfl,q _ (I.hok.fresh (Nat.le_refl _))⟩
theorem J7N : J21 X (.builtin "len") (fun xs H Q=>∃ (p : Addr) (n : Nat),xs = [.ref p] ∧ H p = some (SO p n) ∧ Q (.int n) H):=by
 intro pins s σ H xs us Q I r h
 obtain ⟨p,n,rfl,hp,q⟩:=h
 obtain ⟨u,rfl,ru⟩:=r.one
 cases ru
 obtain ⟨⟨o,es,ep,t,ho,hex,hd,hf,hz,hb⟩,_⟩:=I.hok p _ hp
 refine call_len_set ho hex hd hf ?_ ⟨.int es.size,H,I.tok _,⟨_,rfl⟩,by rw [hz]; exact q⟩
 omega
end
end L2
set_option linter.all false
set_option maxRecDepth 100000
namespace L2
open PySem PySem.Spec PyProof.Rows
section
variable {X : Cx}
theorem Jgj {c : Nat} (h0 : 48 ≤ c) (h1 : c ≤ 57) : PySem.intText? ⟨[c].toArray⟩ = some ((c : Int) - 48):=by
 have key : ∀ k : Nat,k < 10 → PySem.intText? ⟨[48 + k].toArray⟩ = some (((48 + k : Nat) : Int) - 48):=by decide +kernel
 have:=key (c - 48) (by omega)
 rwa [show 48 + (c - 48) = c by omega] at this
theorem J3q : J21 X (.type "int") (fun xs H Q=>∃ c,xs = [T [c]] ∧ 48 ≤ c ∧ c ≤ 57 ∧ Q (.int ((c : Int) - 48)) H):=by
 intro pins s σ H xs us Q I r h
 obtain ⟨c,rfl,h0,h1,q⟩:=h
 obtain ⟨u,rfl,ru⟩:=r.one
 obtain ⟨t,rfl⟩:=ru
 exact PySem.W.KIN.call_text (Jgj h0 h1) (by show 1 ≤ 640; decide) ⟨.int ((c : Int) - 48),H,I.tok _,⟨_,rfl⟩,q⟩
theorem J3I {x : Str} {l : List Nat} {pos : Pos} (hg : Gl X x) (hm : ∃ t,X.mg x = some (.str ⟨l.toArray⟩ t)) (hd : (x == ("__debug__" : Str)) = false:=by decide) : PE X (.Name x pos) (tC (T l)):=by
 obtain ⟨t,hm⟩:=hm
 exact J4j hg hm ⟨t,rfl⟩ hd
theorem J0T {x : Str} {n : Int} {pos : Pos} (hg : Gl X x) (hm : ∃ t,X.mg x = some (.int n t)) (hd : (x == ("__debug__" : Str)) = false:=by decide) : PE X (.Name x pos) (tC (.int n)):=by
 obtain ⟨t,hm⟩:=hm
 exact J4j hg hm ⟨t,rfl⟩ hd
end
end L2
set_option linter.all false
set_option maxRecDepth 100000
set_option maxHeartbeats 4000000
namespace L2
open PySem PySem.Spec PyProof.Rows
section
variable {X : Cx}
end
end L2
set_option linter.all false
set_option maxRecDepth 100000
set_option maxHeartbeats 4000000
namespace L2
open PySem PySem.Spec PyProof.Rows
section
variable {X : Cx} {K : PySem.W.Frag} {pins : List (Addr × Obj)} {σ : St} {H : Hp} {s : Shared} {A : Around}
end
end L2
namespace L2
open PySem
end L2
set_option linter.all false
set_option maxRecDepth 100000
set_option maxHeartbeats 4000000
namespace L2
open PySem PySem.Spec PyProof.Rows
section
variable {X : Cx}
end
end L2
set_option linter.all false
set_option maxRecDepth 100000
set_option maxHeartbeats 4000000
namespace L2
open PySem PySem.Spec PyProof.Rows
section
variable {X : Cx} {K : PySem.W.Frag}
end
end L2
set_option linter.all false
set_option maxRecDepth 100000
set_option maxHeartbeats 4000000
namespace L2
open PySem PySem.Spec PyProof.Rows PySem.NumText
noncomputable def numN (n : Nat) : List Nat:=(Nat.toDigits 10 n).map Char.toNat
theorem Jat (n : Nat) : digitsVal (numN n) = n:=PySem.W.KIN.val_back n
theorem Jaq (n : Nat) : (Str.ofString (toString ((n : Nat) : Int))) = ⟨(numN n).toArray⟩:=by
 have e:=PySem.W.KIN.signs_num n
 generalize Str.ofString (toString ((n : Nat) : Int)) = x at e
 obtain ⟨⟨l⟩⟩:=x
 have e' : l = numN n:=e
 rw [e']
theorem J7S (n : Nat) : AllDigits (numN n):=fun c hc=>by
 obtain ⟨ch,hch,e⟩:=List.mem_map.mp hc
 have r:=digit_range (Nat.isDigit_of_mem_toDigits (by decide) (by decide) hch)
 rw [← e]
 exact r
theorem J9A (n : Nat) : numN n ≠ []:=fun e=>by
 have h:=Jat n
 unfold numN at e
 have l : (Nat.toDigits 10 n).length = 0:=by rw [List.map_eq_nil_iff.mp e]; rfl
 have:=Nat.length_toDigits_pos (b:=10) (n:=n)
 omega
theorem J3J {n : Nat} (h : n < 10) : numN n = [48 + n]:=by
 have key : ∀ n : Fin 10,numN n.val = [48 + n.val]:=by decide +kernel
 exact key ⟨n,h⟩
theorem J8D {n : Nat} (h : 10 ≤ n) : numN n = numN (n / 10) ++ [48 + n % 10]:=by
 have hm : n % 10 < 10:=Nat.mod_lt n (by decide)
 have t : Nat.toDigits 10 (n / 10) ++ Nat.toDigits 10 (n % 10) = Nat.toDigits 10 (10 * (n / 10) + n % 10):=Nat.toDigits_append_toDigits (by decide) (by omega) hm
 rw [Nat.div_add_mod] at t
 rw [← J3J hm]
 unfold numN
 rw [← t,List.map_append]
theorem J4G {n k : Nat} (h : n < 10 ^ (k + 1)) : (numN n).length ≤ k + 1:=by
 induction k generalizing n with
 | zero=>rw [J3J (by omega)]; simp
 | succ k ih =>
  by_cases z : n < 10
  ·rw [J3J z]; simp
  ·rw [J8D (by omega),List.length_append,List.length_singleton]
   have:=ih (n:=n / 10) (by rw [Nat.pow_succ] at h; omega)
   omega
theorem Jd9 (n : Nat) : (numN n).head? = some 48 → n = 0:=by
 induction n using Nat.strongRecOn with
 | _ n ih =>
  intro h
  by_cases z : n < 10
  ·rw [J3J z] at h
   have : 48 + n = 48:=Option.some.inj h
   omega
  ·rw [J8D (by omega),List.head?_append] at h
   cases e : (numN (n / 10)).head? with
   | none=>exact absurd (List.head?_eq_none_iff.mp e) (J9A _)
   | some c =>
    rw [e] at h
    have : c = 48:=Option.some.inj h
    rw [this] at e
    have:=ih (n / 10) (by omega) e
    omega
theorem Jed {n k : Nat} (h : n < 2 ^ k) (hk : k ≤ 1920) (h0 : 0 < k) : n.log2 < 1920:=by
 by_cases z : n = 0
 ·subst z; decide
 ·have:=(Nat.log2_lt z).mpr h
  omega
section
variable {X : Cx}
theorem J0b : J21 X (.type "str") (fun xs H Q=>∃ i : Int,xs = [.int i] ∧ 0 ≤ i ∧ i < 10 ^ 41 ∧ Q (T (numN i.toNat)) H):=by
 intro pins s σ H xs us Q I r h
 obtain ⟨i,rfl,h0,h1,q⟩:=h
 obtain ⟨n,rfl⟩:=Int.eq_ofNat_of_zero_le h0
 refine J5F pins s σ H _ us Q I r ⟨_,rfl,?_,?_⟩
 ·refine Jed (k:=200) ?_ (by decide) (by decide)
  have : (10 : Int) ^ 41 < 2 ^ 200:=by decide +kernel
  have e : ((2 : Int) ^ 200) = ((2 ^ 200 : Nat) : Int):=by norm_cast
  rw [Int.natAbs_natCast]
  omega
 ·show Q (.str (Str.ofString (toString ((n : Nat) : Int)))) H
  rw [Jaq]
  exact q
theorem J9x : J21 X (.type "int") (fun xs H Q=>∃ l : List Nat,xs = [T l] ∧ AllDigits l ∧ l ≠ [] ∧ l.length ≤ 640 ∧ Q (.int (digitsVal l : Nat)) H):=by
 intro pins s σ H xs us Q I r h
 obtain ⟨l,rfl,hd,hn,hl,q⟩:=h
 obtain ⟨u,rfl,ru⟩:=r.one
 obtain ⟨t,rfl⟩:=ru
 have e:=intText_digits (x:=⟨l.toArray⟩) hd hn (by show l.toArray.size ≤ 4300; simp; omega)
 exact PySem.W.KIN.call_text e (by show l.toArray.size ≤ 640; simpa using hl) ⟨.int (digitsVal l : Nat),H,I.tok _,⟨_,rfl⟩,q⟩
end
end L2
set_option linter.all false
set_option maxRecDepth 100000
set_option maxHeartbeats 4000000
namespace L2
open PySem PySem.Spec PyProof.Rows
section
variable {X : Cx} {a b c d : Expr} {ta tb tc td : TE} {pos : Pos}
noncomputable def Jft (r r' r'' : R2) (ta tb tc td : TE) : TE:=fun σ H Q=>ta σ H fun x H1=>tb σ H1 fun y H2=>r x y H2 fun z H3=>∃ k,z = .bl k ∧
 (if k = true then tc σ H3 fun w' H4=>r' y w' H4 fun z2 H5=>∃ k2,z2 = .bl k2 ∧ (if k2 = true then td σ H5 fun u' H6=>r'' w' u' H6 Q else Q (.bl false) H5) else Q (.bl false) H3)
theorem JcB {o1 o2 o3 : CmpOp} {r r' r'' : R2} (h1 : OpR X (compareOp o1) r) (h2 : OpR X (compareOp o2) r') (h3 : OpR X (compareOp o3) r'') (ha : PE X a ta) (hb : PE X b tb) (hc : PE X c tc) (hd : PE X d td)
  (hm : lastMarks [o1,o2,o3] [b,c,d] = false:=by with_unfolding_all rfl) : PT X (.Compare a [o1,o2,o3] [b,c,d] pos) (Jei (Jft r r' r'' ta tb tc td)):=by
 intro pins s σ H Q I h
 refine isTrue_chain (thn (ha pins s σ H _ I h) fun v s1 ⟨x,H1,I1,r1,q1⟩=>test_link (thn (hb pins s1 σ H1 _ I1 q1) fun u s2 ⟨y,H2,I2,r2,q2⟩ =>
  thn (h1 pins s2 σ H2 x y v u _ I2 r1 r2 q2) fun d s3 ⟨z,H3,I3,r3,k,e,q3⟩=>?_)) hm
 subst e
 cases r3
 refine wpAny_truthy_bool ?_
 cases k with
 | false =>
  obtain ⟨k',e',q'⟩:=q3
  cases e'
  exact ite_ff ⟨H3,I3,q'⟩
 | true =>
  refine ite_tt (test_link (thn (hc pins s3 σ H3 _ I3 q3) fun w' s4 ⟨z',H4,I4,r4,q4⟩=>thn (h2 pins s4 σ H4 y z' u w' _ I4 r2 r4 q4) fun d' s5 ⟨z2,H5,I5,r5,k2,e2,q5⟩=>?_))
  subst e2
  cases r5
  refine wpAny_truthy_bool ?_
  cases k2 with
  | false =>
   obtain ⟨k',e',q'⟩:=q5
   cases e'
   exact ite_ff ⟨H5,I5,q'⟩
  | true =>
   refine ite_tt (test_last (thn (hd pins s5 σ H5 _ I5 q5) fun w2 s6 ⟨z6,H6,I6,r6,q6⟩=>thn (h3 pins s6 σ H6 z' z6 w' w2 _ I6 r4 r6 q6) fun d2 s7 ⟨z7,H7,I7,r7,k7,e7,q7⟩=>?_))
   subst e7
   cases r7
   exact wpAny_truthy_bool ⟨H7,I7,q7⟩
theorem Jfd {b : List Stmt} {h₀ : ExceptHandler} {hs : List ExceptHandler} {tb : TS} (hx : X.xe = fun _ _=>False) (hb : PSs X b tb) : PS X (.Try b (h₀ :: hs) [] [] pos) tb:=by
 intro pins s σ H D I h
 refine wpAny_Try_except ?_
 refine wpAny_mono (hb pins s σ H D I h) (fun f s1 q=>?_) (fun e s1 z=>by rw [hx] at z; exact z.elim)
 cases f with
 | next=>exact wpAny_execs_nil q
 | brk=>exact q
 | cont=>exact q
 | ret u=>exact q
end
noncomputable def leP (a b c d : Int) : Bool:=if a = c then decide (b ≤ d) else decide (a ≤ c)
theorem Jax (l b : Addr) (x1 x2 y1 y2 : Int) (t1 t2 u1 u2 : Tok) (n n2 : Nat) (dd dd2 : Option Addr) (sl sl2 : Array (Option Value)) :
  Meets (Builtin.«tuple.__le__» ⟨[.ref l,.ref b],[]⟩)
   (fun A R s=>s.heap.get? l = some { cls:=.type "tuple",dict:=dd,data:=.seq #[.int x1 t1,.int x2 t2] n,slots:=sl } ∧ s.heap.get? b = some { cls:=.type "tuple",dict:=dd2,data:=.seq #[.int y1 u1,.int y2 u2] n2,slots:=sl2 } ∧
    R (.ok (.ret (.bool (leP x1 x2 y1 y2)))) s) :=
 .of_wp fun prog w A R s h=>by
  obtain ⟨hp,g,d,tk,os⟩:=s
  obtain ⟨hl,hb,h⟩:=h
  have f2:=AutoSeq1.sub_tuple_tuple
  wp_walk using wpAny_loadPart' hl,wpAny_loadPart' hb,wpAny_eqBool_int (a:=x1) (b:=y1)
  by_cases e1 : x1 = y1
  ·subst e1
   rw [beq_self_eq_true]
   simp only [Bool.not_true,Bool.false_eq_true,if_false]
   wp_walk using wpAny_eqBool_int (a:=x2) (b:=y2)
   by_cases e2 : x2 = y2
   ·subst e2
    rw [beq_self_eq_true]
    simp only [Bool.not_true,Bool.false_eq_true,if_false]
    have e3 : leP x1 x2 x1 x2 = true:=by unfold leP; rw [if_pos rfl,decide_eq_true (by omega)]
    rw [e3] at h
    wp_walk
    exact ⟨_,rfl,h⟩
   ·rw [beq_eq_false_iff_ne.mpr e2]
    simp only [Bool.not_false,if_true]
    have e3 : leP x1 x2 x1 y2 = decide (x2 ≤ y2):=by unfold leP; rw [if_pos rfl]
    rw [e3] at h
    have hlt : ∀ {M : Shared → Prop} {A : Around} {E : Value → Shared → Prop} {s : Shared} {Q : Value → Shared → Prop},Q (.bool (decide (x2 ≤ y2))) s → wpAny (model prog w) A (richCompare CmpOp.LtE (.int x2 t2) (.int y2 u2)) Q E s:=fun hq=>PyProof.Rows.le_int hq
    wp_walk using hlt (M:=fun _=>True)
    exact ⟨_,rfl,h⟩
  ·rw [beq_eq_false_iff_ne.mpr e1]
   simp only [Bool.not_false,if_true]
   have e3 : leP x1 x2 y1 y2 = decide (x1 ≤ y1):=by unfold leP; rw [if_neg e1]
   rw [e3] at h
   have hlt : ∀ {M : Shared → Prop} {A : Around} {E : Value → Shared → Prop} {s : Shared} {Q : Value → Shared → Prop},Q (.bool (decide (x1 ≤ y1))) s → wpAny (model prog w) A (richCompare CmpOp.LtE (.int x1 t1) (.int y1 u1)) Q E s:=fun hq=>PyProof.Rows.le_int hq
   wp_walk using hlt (M:=fun _=>True)
   exact ⟨_,rfl,h⟩
section
variable {X : Cx} {K : PySem.W.Frag}
noncomputable def rLeP : R2:=fun x y H Q=>∃ p r a b c d,x = .ref p ∧ y = .ref r ∧ H p = some (.tup [.int a,.int b]) ∧ H r = some (.tup [.int c,.int d]) ∧ Q (.bl (leP a b c d)) H
theorem Jgq (hu : X.A.units < cLine) : OpR X (compareOp .LtE) rLeP:=by
 intro pins s σ H x y v u Q I rx ry h
 obtain ⟨p,r,a,b,c,d,rfl,rfl,hp,hr,q⟩:=h
 cases rx; cases ry
 obtain ⟨ia,ra,pa,za⟩:=I.tuple (SqT.of hp)
 obtain ⟨ib,rb,pb,zb⟩:=I.tuple (SqT.of hr)
 obtain ⟨w1,w2,rfl,r1,r2⟩:=ra.two
 obtain ⟨w3,w4,rfl,r3,r4⟩:=rb.two
 obtain ⟨t1,rfl⟩:=r1
 obtain ⟨t2,rfl⟩:=r2
 obtain ⟨t3,rfl⟩:=r3
 obtain ⟨t4,rfl⟩:=r4
 obtain ⟨⟨cls,dd,data,sl⟩,ho,hc,n,hd⟩:=(show s.heap.IsTuple p [Value.int a t1,Value.int b t2].toArray from pa)
 obtain ⟨⟨cls2,dd2,data2,sl2⟩,ho2,hc2,n2,hd2⟩:=(show s.heap.IsTuple r [Value.int c t3,Value.int d t4].toArray from pb)
 simp only at hc hd hc2 hd2
 subst hc hd hc2 hd2
 refine richCompare_meets_room (op:=.LtE) ⟨_,ho,rfl⟩ ⟨_,ho2,rfl⟩ PySem.F.slot_tuple_le PySem.F.entry_tuple_le (PySem.F.args_tuple_le_2 _ _) (Jax p r a b c d t1 t2 t3 t4 n n2 dd dd2 sl sl2) ⟨ho,ho2,?_⟩ hu
 exact ⟨fun z=>(nomatch z),.bl _,H,I,rfl,q⟩
end
section
open PySem.StrLaws Builtin Builtin.Str
theorem JaN (l : List Nat) (c hi : Nat) : ∀ (n a free : Nat) (arr : Array Nat),1 ≤ arr.size → (forIn (List.range' a n) (arr,free) (occBody ⟨l.toArray⟩ ⟨#[c]⟩ hi 1)).run.fst = arr
 | 0,a,free,arr,_=>by simp
 | n + 1,a,free,arr,h=>by
  rw [List.range'_succ,List.forIn_cons]
  have e : occBody ⟨l.toArray⟩ ⟨#[c]⟩ hi 1 a (arr,free) = pure (ForInStep.yield (arr,free)):=by
   unfold occBody
   rw [if_neg]
   rintro ⟨⟨⟨q,_⟩,_⟩,_⟩
   have q' : arr.size < 1:=q
   omega
  rw [e,pure_bind]
  exact JaN l c hi n (a + 1) free arr h
theorem J8C (l : List Nat) (c hi : Nat) (hl : l.length ≤ hi) : ∀ (n a free k : Nat),free ≤ a → k < n → l[a + k]? = some c → (∀ j < k,¬ l[a + j]? = some c) → (forIn (List.range' a n) ((#[] : Array Nat),free) (occBody ⟨l.toArray⟩ ⟨#[c]⟩ hi 1)).run.fst = #[a + k]
 | 0,_,_,_,_,hk,_,_=>absurd hk (Nat.not_lt_zero _)
 | n + 1,a,free,0,hf,hk,hc,_=>by
  have hc' : l[a]? = some c:=hc
  have hlt : a < l.length:=(List.getElem?_eq_some_iff.mp hc').1
  rw [List.range'_succ,List.forIn_cons]
  have e : occBody ⟨l.toArray⟩ ⟨#[c]⟩ hi 1 a ((#[] : Array Nat),free) = pure (ForInStep.yield (#[].push a,a + 1)):=by
   unfold occBody
   rw [if_pos]
   ·rfl
   ·refine ⟨⟨⟨by show (0 : Nat) < 1; decide,hf⟩,?_⟩,by rw [sub1]; exact decide_eq_true hc'⟩
    show a + 1 ≤ hi
    omega
  rw [e,pure_bind]
  exact JaN l c hi n (a + 1) (a + 1) _ (by simp)
 | n + 1,a,free,k + 1,hf,hk,hc,hno=>by
  rw [List.range'_succ,List.forIn_cons]
  have e : occBody ⟨l.toArray⟩ ⟨#[c]⟩ hi 1 a ((#[] : Array Nat),free) = pure (ForInStep.yield ((#[] : Array Nat),free)):=by
   unfold occBody
   rw [if_neg]
   rintro ⟨_,q⟩
   rw [sub1] at q
   exact hno 0 (by omega) (of_decide_eq_true q)
  rw [e,pure_bind]
  have:=J8C l c hi hl n (a + 1) free k (by omega) (by omega) (by rw [show a + 1 + k = a + (k + 1) by omega]; exact hc) (fun j hj=>by rw [show a + 1 + j = a + (j + 1) by omega]; exact hno (j + 1) (by omega))
  rw [show a + 1 + k = a + (k + 1) by omega] at this
  exact this
theorem Jgl {l : List Nat} {c k : Nat} (h : l[k]? = some c) (hno : ∀ j < k,¬ l[j]? = some c) : occurrences ⟨l.toArray⟩ ⟨#[c]⟩ 0 l.length 1 = [k]:=by
 rw [occ_eq]
 have hk:=(List.getElem?_eq_some_iff.mp h).1
 have:=J8C l c l.length (Nat.le_refl _) (l.length + 1) 0 0 k (Nat.le_refl _) (by omega) (by rw [Nat.zero_add]; exact h) (fun j hj=>by rw [Nat.zero_add]; exact hno j hj)
 simpa using congrArg Array.toList this
end
section
variable {X : Cx} {K : PySem.W.Frag}
noncomputable def rSIx : V → List V → Hp → VK → Prop:=fun x vs H Q=>∃ (l : List Nat) (c k : Nat),x = T l ∧ vs = [T [c]] ∧ l[k]? = some c ∧ (∀ j < k,¬ l[j]? = some c) ∧ Q (.int (k : Nat)) H
theorem JcU : MtR X "str.index" rSIx:=by
 intro pins s σ H x vs v us Q I rx rv h
 obtain ⟨l,c,k,rfl,rfl,hk,hno,q⟩:=h
 obtain ⟨t,rfl⟩:=rx
 obtain ⟨u,rfl,ru⟩:=rv.one
 obtain ⟨t2,rfl⟩:=ru
 have e : Builtin.Str.occurrences ⟨l.toArray⟩ ⟨#[c]⟩ 0 (⟨l.toArray⟩ : Str).length 1 = k :: []:=by
  rw [J3l]
  exact Jgl hk hno
 exact call_gives F.slot_str_index (typeIs_str _ _ _) F.entry_str_index (F.args_str_index_2 _ _) (gives_str_index ⟨l.toArray⟩ ⟨#[c]⟩ t t2 k [] e) ⟨.int (k : Nat),H,I.tok _,⟨_,rfl⟩,q⟩
theorem JbI {o e : Expr} {to : TE} {t : TA} {apos cpos : Pos} (h : X.K = K) (ho : PE X o to) (ha : PA X [e] t)
  (hbase : attributeBase o "index" X.env (eval o X.env) = eval o X.env:=by rfl)
  (hfew : ((backTo cpos (starEach [e] X.env)).all (fun x=>!x.1) && (backToKw cpos (keywordEach [] X.env)).all (fun x=>x.1.isSome)
   && decide ([e].length + ([] : List Keyword).length + (if ([] : List Keyword).isEmpty then 0 else 1) < 30)) = true:=by rfl)
  (hline : (apos.endLine == cpos.line) = true:=by rfl) (hs : starEach [e] X.env = (false,eval e X.env) :: starEach [] X.env:=by rfl) (hplain : (backTo cpos (starEach [] X.env)).any (·.1) = false:=by rfl) :
  PE X (.Call (.Attribute o "index" apos) [e] [] cpos) (tBM K "str" rSIx to t):=h ▸ J20 F.plainAttrs_str F.slot_str_index F.type_str_index JcU ho ha hbase hfew hline hs hplain
noncomputable def tabB : List DictEntry → List (List Nat × Int) → Bool
 | [],[]=>true
 | e :: es,(k,n) :: D=>(match e.key with | .str x _=>x.cps.toList == k | _=>false) && (match e.val with | .int i _=>i == n | _=>false) && tabB es D
 | _,_=>false
noncomputable def JaH (K : PySem.W.Frag) (a : Addr) (D : List (List Nat × Int)) : Bool:=match K.lookup a with
 | some o=>!(a == sysModules) && (match o.cls with | .type c=>c == "dict" | _=>false) && o.dict.isNone && (o.slots.size == 0) && (match o.data with | .dict es _=>tabB es.toList D | _=>false)
 | none=>false
noncomputable def J3o : List (List Nat × Int) → List Nat → Option Int
 | [],_=>none
 | (x,n) :: D,k=>if k = x then some n else J3o D k
noncomputable def datT (D : List (List Nat × Int)) : List (Str × KTD.Dat):=D.map fun p=>(⟨p.1.toArray⟩,.flat (.int p.2))
theorem J8A : ∀ (es : List DictEntry) (D : List (List Nat × Int)) (h : Heap),tabB es D = true → KTD.Rows (KTD.Dat.At h) es (datT D)
 | [],[],_,_=>.nil
 | e :: es,(k,n) :: D,h,hb=>by
  unfold tabB at hb
  rw [Bool.and_eq_true,Bool.and_eq_true] at hb
  obtain ⟨⟨h1,h2⟩,h3⟩:=hb
  obtain ⟨hs,key,val⟩:=e
  cases key with
  | str x t =>
   cases val with
   | int i t2 =>
    have e1 : x.cps.toList = k:=by simpa using h1
    have e2 : i = n:=by simpa using h2
    subst e2
    have e3 : x = ⟨k.toArray⟩:=by
     obtain ⟨⟨l⟩⟩:=x
     have : l = k:=e1
     rw [this]
    exact .cons (e:=⟨hs,.str x t,.int i t2⟩) (by rw [e3]) (show KTD.Dat.At h (.flat (.int i)) (.int i t2) from PyProof.V.Flat.int i t2) (J8A es D h h3)
   | _=>exact absurd h2 (by simp)
  | _=>exact absurd h1 (by simp)
 | [],_ :: _,_,hb=>absurd hb (by simp [tabB])
 | _ :: _,[],_,hb=>absurd hb (by simp [tabB])
theorem J8r {h : Heap} {a : Addr} {D : List (List Nat × Int)} (hb : JaH K a D = true) (kin : K.In h) : KTD.TextTab h a (datT D):=by
 unfold JaH at hb
 cases e : K.lookup a with
 | none=>rw [e] at hb; exact absurd hb (by simp)
 | some o =>
  rw [e] at hb
  obtain ⟨cls,dict,data,slots⟩:=o
  simp only [Bool.and_eq_true] at hb
  obtain ⟨⟨⟨⟨h1,h2⟩,h3⟩,h4⟩,h5⟩:=hb
  cases cls with
  | type c =>
   cases data with
   | dict es ep =>
    refine ⟨by simpa using h1,_,es,ep,kin a _ e,⟨?_,?_,?_⟩,rfl,J8A _ _ _ h5⟩
    ·have : c = "dict":=by simpa using h2
     rw [this]
    ·cases dict with
     | none=>rfl
     | some _=>exact absurd h3 (by simp)
    ·have : slots.size = 0:=by simpa using h4
     exact Array.eq_empty_of_size_eq_zero this
   | _=>exact absurd h5 (by simp)
  | _=>exact absurd h2 (by simp)
theorem JcI {a b : List Nat} (h : (⟨a.toArray⟩ : Str) = ⟨b.toArray⟩) : a = b:=by
 simpa using congrArg (fun s : Str=>s.cps.toList) h
theorem J7J (k : List Nat) : ∀ D : List (List Nat × Int),KTD.datumAt (⟨k.toArray⟩ : Str) (datT D) = (J3o D k).map fun n=>.flat (.int n)
 | []=>rfl
 | (x,n) :: D=>by
  show (if decide ((⟨k.toArray⟩ : Str) = ⟨x.toArray⟩) = true then some (KTD.Dat.flat (.int n)) else KTD.datumAt (⟨k.toArray⟩ : Str) (datT D)) = _
  rw [J7J k D]
  show _ = Option.map _ (if k = x then some n else J3o D k)
  by_cases h : k = x
  ·subst h
   rw [if_pos (decide_eq_true rfl),if_pos rfl]
   rfl
  ·rw [if_neg (by rw [decide_eq_true_iff]; exact fun z=>h (JcI z)),if_neg h]
noncomputable def Jha (D : List (List Nat × Int)) (te tz : TE) : TE:=fun σ H Q=>te σ H fun x H1=>tz σ H1 fun z H2=>∃ (k : List Nat) (n : Int),x = T k ∧ J3o D k = some n ∧ Q (.int n) H2
theorem Jf8 {nm : Str} {D : List (List Nat × Int)} {e z : Expr} {te tz : TE} {p apos cpos : Pos} (hK : X.K = K) (hg : Gl X nm) (hm : ∃ a,X.mg nm = some (.ref a) ∧ JaH K a D = true) (ha : PA X [e,z] (JdM te (JdM tz tNil))) (hd : (nm == ("__debug__" : Str)) = false:=by decide)
  (hbase : attributeBase (.Name nm p) "get" X.env (eval (.Name nm p) X.env) = eval (.Name nm p) X.env:=by rfl)
  (hfew : ((backTo cpos (starEach [e,z] X.env)).all (fun x=>!x.1) && (backToKw cpos (keywordEach [] X.env)).all (fun x=>x.1.isSome)
   && decide ([e,z].length + ([] : List Keyword).length + (if ([] : List Keyword).isEmpty then 0 else 1) < 30)) = true:=by rfl)
  (hline : (apos.endLine == cpos.line) = true:=by rfl) (hs : starEach [e,z] X.env = (false,eval e X.env) :: starEach [z] X.env:=by rfl) (hplain : (backTo cpos (starEach [z] X.env)).any (·.1) = false:=by rfl) :
  PE X (.Call (.Attribute (.Name nm p) "get" apos) [e,z] [] cpos) (Jha D te tz):=by
 subst hK
 obtain ⟨a,hm,hb⟩:=hm
 intro pins s σ H Q I h
 refine wpAny_Call_method_late hbase hfew hline rfl (thn (J4j (v:=.ref a) hg hm rfl hd pins s σ H (fun x H1=>x = .ref a ∧ H1 = H) I ⟨rfl,rfl⟩) fun v s1 ⟨x,H1,I1,r1,ex,eH⟩=>?_)
 subst ex eH
 cases r1
 have T1:=J8r hb I1.kIn
 have Hh : KTD.Here s1.heap s1.heap a (datT D):=⟨T1,fun _ _ e=>e⟩
 refine ⟨"dict","dict.get",F.plainAttrs_dict,F.slot_dict_get,F.type_dict_get,Hh.typeIs,fun b e=>Hh.noDict b e,?_⟩
 have hA:=ha cpos pins s1 σ H1 (fun vs H2=>match vs with | [x,zz]=>∃ (k : List Nat) (n : Int),x = T k ∧ J3o D k = some n ∧ Q (.int n) H2 | _=>False) I1 h
 rw [hs] at hA ⊢
 refine Calls.callWith_builtin (by show (false || (backTo cpos (starEach [z] X.env)).any (·.1)) = false; rw [hplain] <;> rfl) (Calls.evalArgs_plain ?_)
 refine thn hA fun us s2 ⟨vs,H2,I2,r2,ev⟩=>?_
 obtain ⟨k,zz,rfl,q2⟩ : ∃ k zz,vs = [T k,zz] ∧ Q (match J3o D k with | some n=>.int n | none=>zz) H2:=by
  match vs,ev with
  | [_,zz],⟨k,n,e,eo,q⟩=>exact ⟨k,zz,by rw [e],by rw [eo]; exact q⟩
 obtain ⟨u1,u2,rfl,ra,rb⟩:=r2.two
 obtain ⟨tk,rfl⟩:=ra
 have Hh2 : KTD.Here s2.heap s2.heap a (datT D):=⟨J8r hb I2.kIn,fun _ _ e=>e⟩
 refine call_meetsIn PySem.F.slot_dict_get Hh2.typeIs PySem.F.entry_dict_get (PySem.F.args_dict_get_3 _ _ _) (KTD.meets_get2 (h₀:=s2.heap) (D:=datT D)) ⟨Hh2,fun d v ha hv=>?_,fun hn=>?_⟩
 ·rw [J7J] at ha
  cases el : J3o D k with
  | none=>rw [el] at ha; cases ha
  | some n =>
   rw [el] at ha q2
   cases ha
   have hv' : PyProof.V.Flat v (.int n):=hv
   obtain ⟨t,rfl⟩:=hv'.int_inv
   exact ⟨.int n,H2,I2.tok _,⟨_,rfl⟩,q2⟩
 ·rw [J7J] at hn
  cases el : J3o D k with
  | none =>
   rw [el] at q2
   exact ⟨zz,H2,I2.tok _,rb,q2⟩
  | some n=>rw [el] at hn; cases hn
end
section
variable {X : Cx} {e : Expr} {te : TE} {pos : Pos}
noncomputable def tFn (te : TE) : TE:=fun σ H Q=>te σ H fun x H1=>∃ i : Int,x = .int i ∧ 0 ≤ i ∧ i < 10 ^ 41 ∧ Q (T (numN i.toNat)) H1
theorem J68 (he : PE X e te) : PE X (.FormattedValue e (-1) none pos) (tFn te):=by
 intro pins s σ H Q I h
 refine FormattedValue_plain (thn (he pins s σ H _ I h) fun v s1 ⟨x,H1,I1,r1,i,e1,h0,h1,q⟩=>?_)
 subst e1
 obtain ⟨t,rfl⟩:=r1
 obtain ⟨n,rfl⟩:=Int.eq_ofNat_of_zero_le h0
 refine formatField_int_small ?_ ⟨T (numN n),H1,I1.tok _,⟨_,by rw [← Jaq]⟩,q⟩
 refine Jed (k:=200) ?_ (by decide) (by decide)
 have : (10 : Int) ^ 41 < 2 ^ 200:=by decide +kernel
 have e : ((2 : Int) ^ 200) = ((2 ^ 200 : Nat) : Int):=by norm_cast
 rw [Int.natAbs_natCast]
 omega
end
end L2
set_option maxHeartbeats 4000000
namespace K25
open PySem L2
noncomputable def top (i : Nat) : Stmt:=PySem.Challenge.pw_rotafair_k25_a_house_shown.main.body.getD i (.Pass ⟨0,0,0,0⟩)
noncomputable abbrev J1B : Stmt:=J1b (top 9) 0
noncomputable abbrev J2k : Stmt:=J1b (top 10) 0
noncomputable abbrev J1s : Stmt:=J1b (top 11) 0
noncomputable abbrev J2m : Stmt:=J1b (top 12) 0
noncomputable abbrev J0Z : Stmt:=J1b (top 13) 0
noncomputable abbrev J2Y : Stmt:=J1b (top 14) 0
noncomputable abbrev J12 : Stmt:=J1b (top 18) 0
noncomputable abbrev J1D : Stmt:=J1b (top 19) 0
noncomputable abbrev J2W : Stmt:=top 34
noncomputable abbrev J2a : Stmt:=top 31
noncomputable abbrev J3r : Stmt:=top 32
noncomputable abbrev J2n : Stmt:=top 33
noncomputable abbrev J0R : Stmt:=top 28
noncomputable abbrev J2R : Stmt:=top 30
noncomputable abbrev J1H : Stmt:=top 29
noncomputable abbrev J1t : Stmt:=top 27
noncomputable abbrev J2f : Stmt:=top 26
noncomputable abbrev J1E : Stmt:=top 6
noncomputable abbrev J1z : Stmt:=J1b (top 9) 3
noncomputable abbrev J2o : Stmt:=J1b (top 10) 3
noncomputable abbrev J1C : Stmt:=J1b (top 11) 3
noncomputable abbrev J2e : Stmt:=top 15
noncomputable abbrev J2j : Stmt:=top 7
noncomputable abbrev J2b : Stmt:=J1b (top 12) 3
noncomputable abbrev J11 : Stmt:=J1b (top 13) 3
noncomputable abbrev J2X : Stmt:=J1b (top 14) 3
noncomputable abbrev J13 : Stmt:=top 76
noncomputable abbrev J1v : Stmt:=top 77
noncomputable abbrev J1j : Stmt:=top 78
noncomputable abbrev J27 : Stmt:=top 79
noncomputable abbrev J0n : Stmt:=top 82
noncomputable abbrev J28 : Stmt:=top 83
noncomputable abbrev J25 : Stmt:=top 81
noncomputable abbrev J2d : Stmt:=top 80
noncomputable abbrev J30 : Stmt:=top 85
noncomputable abbrev J0U : Stmt:=top 84
noncomputable abbrev J1k : Stmt:=top 86
noncomputable abbrev J17 : Stmt:=top 69
noncomputable abbrev J1I : Stmt:=top 70
noncomputable abbrev J3W : Stmt:=top 71
noncomputable abbrev J3s : Stmt:=top 72
noncomputable abbrev J1o : Stmt:=top 73
noncomputable abbrev J15 : Stmt:=top 74
noncomputable abbrev J2Z : Stmt:=top 62
noncomputable abbrev J1G : Stmt:=top 63
noncomputable abbrev J3v : Stmt:=top 64
noncomputable abbrev J0x : Stmt:=top 60
noncomputable abbrev J14 : Stmt:=top 56
noncomputable abbrev J0O : Stmt:=top 57
noncomputable abbrev J2V : Stmt:=top 59
noncomputable abbrev J1K : Stmt:=top 61
noncomputable abbrev J2p : Stmt:=top 65
noncomputable abbrev J2S : Stmt:=top 66
noncomputable abbrev J2T : Stmt:=top 67
noncomputable abbrev J2U : Stmt:=top 68
noncomputable abbrev J3t : Stmt:=top 58
noncomputable abbrev J0X : Stmt:=top 55
noncomputable abbrev J0Q : Stmt:=top 87
noncomputable abbrev J2i : Stmt:=top 88
noncomputable abbrev J3Y : Stmt:=top 53
noncomputable abbrev J0N : Stmt:=top 52
noncomputable abbrev J1J : Stmt:=top 54
noncomputable abbrev J24 : Stmt:=top 51
noncomputable abbrev J4q : Stmt:=top 89
theorem J8b : Jq ["self","word"] ["self","word"] (J7 J1B):=⟨rfl,rfl,rfl,by decide +kernel,rfl,by decide +kernel,by decide +kernel⟩
theorem J9k : Jq ["self","many","marks","days"] ["self","many","marks","days"] (J7 J2k):=⟨rfl,rfl,rfl,by decide +kernel,rfl,by decide +kernel,by decide +kernel⟩
theorem J81 : Jq ["self","many","marks","days"] ["self","many","marks","days"] (J7 J1s):=⟨rfl,rfl,rfl,by decide +kernel,rfl,by decide +kernel,by decide +kernel⟩
theorem J96 : Jq ["self","left","right"] ["self","left","right"] (J7 J2m):=⟨rfl,rfl,rfl,by decide +kernel,rfl,by decide +kernel,by decide +kernel⟩
theorem J78 : Jq ["self","left","right"] ["self","left","right"] (J7 J0Z):=⟨rfl,rfl,rfl,by decide +kernel,rfl,by decide +kernel,by decide +kernel⟩
theorem Jan : Jq ["self","inner"] ["self","inner"] (J7 J2Y):=⟨rfl,rfl,rfl,by decide +kernel,rfl,by decide +kernel,by decide +kernel⟩
theorem J7s : Jq ["self","name","skills","most","carried","past"] ["self","name","skills","most","carried","past"] (J7 J12):=⟨rfl,rfl,rfl,by decide +kernel,rfl,by decide +kernel,by decide +kernel⟩
theorem J83 : Jq ["self","days","kinds","needs","persons","leave","wishes","rules","pairs"] ["self","days","kinds","needs","persons","leave","wishes","rules","pairs"] (J7 J1D):=⟨rfl,rfl,rfl,by decide +kernel,rfl,by decide +kernel,by decide +kernel⟩
theorem Jbj : Jq ["word","signs"] ["word","signs"] (J7 J2W):=⟨rfl,rfl,rfl,by decide +kernel,rfl,by decide +kernel,by decide +kernel⟩
theorem J8K : Jq ["word","figures"] ["word","figures"] (J7 J2a):=⟨rfl,rfl,rfl,by decide +kernel,rfl,by decide +kernel,by decide +kernel⟩
theorem Jbl : Jq ["word"] ["word"] (J7 J3r):=⟨rfl,rfl,rfl,by decide +kernel,rfl,by decide +kernel,by decide +kernel⟩
theorem J8H : Jq ["word"] ["word"] (J7 J2n):=⟨rfl,rfl,rfl,by decide +kernel,rfl,by decide +kernel,by decide +kernel⟩
theorem J04 : Jq ["words","wanted","found","height","place","word"] ["words","wanted"] (J7 J0R):=⟨rfl,rfl,rfl,by decide +kernel,rfl,by decide +kernel,by decide +kernel⟩
theorem Jaa : Jq ["words","first"] ["words","first"] (J7 J2R):=⟨rfl,rfl,rfl,by decide +kernel,rfl,by decide +kernel,by decide +kernel⟩
theorem J80 : Jq ["words"] ["words"] (J7 J1H):=⟨rfl,rfl,rfl,by decide +kernel,rfl,by decide +kernel,by decide +kernel⟩
theorem J35 : Jq ["words","place"] ["words"] (J7 J1t):=⟨rfl,rfl,rfl,by decide +kernel,rfl,by decide +kernel,by decide +kernel⟩
theorem J5t : Jq ["text","words"] ["text"] (J7 J2f):=⟨rfl,rfl,rfl,by decide +kernel,rfl,by decide +kernel,by decide +kernel⟩
theorem J85 : Jq ["word","many","marks","days"] ["word","many","marks","days"] (J7 J1E):=⟨rfl,rfl,rfl,by decide +kernel,rfl,by decide +kernel,by decide +kernel⟩
theorem J89 : Jq ["self"] ["self"] (J7 J1z):=⟨rfl,rfl,rfl,by decide +kernel,rfl,by decide +kernel,by decide +kernel⟩
theorem J9d : Jq ["self"] ["self"] (J7 J2o):=⟨rfl,rfl,rfl,by decide +kernel,rfl,by decide +kernel,by decide +kernel⟩
theorem J88 : Jq ["self"] ["self"] (J7 J1C):=⟨rfl,rfl,rfl,by decide +kernel,rfl,by decide +kernel,by decide +kernel⟩
theorem J8L : Jq ["rule"] ["rule"] (J7 J2e):=⟨rfl,rfl,rfl,by decide +kernel,rfl,by decide +kernel,by decide +kernel⟩
theorem J5l : Jq ["rule","in_brackets","text"] ["rule","in_brackets"] (J7 J2j):=⟨rfl,rfl,rfl,by decide +kernel,rfl,by decide +kernel,by decide +kernel⟩
theorem J4g : Jq ["self","left","right"] ["self"] (J7 J2b):=⟨rfl,rfl,rfl,by decide +kernel,rfl,by decide +kernel,by decide +kernel⟩
theorem J3D : Jq ["self","left","right"] ["self"] (J7 J11):=⟨rfl,rfl,rfl,by decide +kernel,rfl,by decide +kernel,by decide +kernel⟩
theorem Jae : Jq ["self"] ["self"] (J7 J2X):=⟨rfl,rfl,rfl,by decide +kernel,rfl,by decide +kernel,by decide +kernel⟩
theorem J7k : Jq ["_law_script","_law_k"] ["_law_script","_law_k"] (J7 J13):=⟨rfl,rfl,rfl,by decide +kernel,rfl,by decide +kernel,by decide +kernel⟩
theorem J1S : Jq ["_law_cell","_law_many","_law_found","_law_number","_law_k"] ["_law_cell","_law_many"] (J7 J1v):=⟨rfl,rfl,rfl,by decide +kernel,rfl,by decide +kernel,by decide +kernel⟩
theorem J4d : Jq ["_law_cell","_law_some_here","_law_many"] ["_law_cell"] (J7 J1j):=⟨rfl,rfl,rfl,by decide +kernel,rfl,by decide +kernel,by decide +kernel⟩
theorem J3a : Jq ["_law_cell","_law_p","_law_some_here","_law_body","_law_at","_law_name_here"] ["_law_cell","_law_p"] (J7 J27):=⟨rfl,rfl,rfl,by decide +kernel,rfl,by decide +kernel,by decide +kernel⟩
theorem J00 : Jq ["_law_number","_law_signs","_law_one","_law_two","_law_marks","_law_words"] ["_law_number"] (J7 J0n):=⟨rfl,rfl,rfl,by decide +kernel,rfl,by decide +kernel,by decide +kernel⟩
theorem J3N : Jq ["_law_cell","_law_one","_law_two","_law_both"] ["_law_cell"] (J7 J28):=⟨rfl,rfl,rfl,by decide +kernel,rfl,by decide +kernel,by decide +kernel⟩
theorem J6p : Jq ["_law_signs","_law_number","_law_found"] ["_law_signs","_law_number"] (J7 J25):=⟨rfl,rfl,rfl,by decide +kernel,rfl,by decide +kernel,by decide +kernel⟩
theorem J0W : Jq ["_law_cell","_law_days","_law_kinds_here","_law_found","_law_numbers","_law_day","_law_k","_law_number","_law_most"] ["_law_cell","_law_days","_law_kinds_here"] (J7 J2d):=⟨rfl,rfl,rfl,by decide +kernel,rfl,by decide +kernel,by decide +kernel⟩
theorem J4t : Jq ["_law_name_here","_law_cell","_law_days","_law_kinds_here","_law_marks"] ["_law_name_here","_law_cell","_law_days","_law_kinds_here"] (J7 J30):=⟨rfl,rfl,rfl,by decide +kernel,rfl,by decide +kernel,by decide +kernel⟩
theorem J0k : Jq ["_law_script","_law_p","_law_kinds_here","_law_cell","_law_numbers","_law_marks","_law_past","_law_carried","_law_skills"] ["_law_script","_law_p","_law_kinds_here"] (J7 J0U):=⟨rfl,rfl,rfl,by decide +kernel,rfl,by decide +kernel,by decide +kernel⟩
theorem JM : Jq ["_law_script","_law_days","_law_kinds_here","_law_needs_here","_law_many","_law_persons","_law_leave","_law_wishes","_law_rules","_law_pairs","_law_cell","_law_name_here","_law_other"] ["_law_script"] (J7 J1k):=⟨rfl,rfl,rfl,by decide +kernel,rfl,by decide +kernel,by decide +kernel⟩
theorem J6Z : Jq ["word"] ["word"] (J7 J17):=⟨rfl,rfl,rfl,by decide +kernel,rfl,by decide +kernel,by decide +kernel⟩
theorem J7V : Jq ["word","signs"] ["word","signs"] (J7 J1I):=⟨rfl,rfl,rfl,by decide +kernel,rfl,by decide +kernel,by decide +kernel⟩
theorem Jcp : Jq ["house","word"] ["house","word"] (J7 J3W):=⟨rfl,rfl,rfl,by decide +kernel,rfl,by decide +kernel,by decide +kernel⟩
theorem Jb1 : Jq ["house","word"] ["house","word"] (J7 J3s):=⟨rfl,rfl,rfl,by decide +kernel,rfl,by decide +kernel,by decide +kernel⟩
theorem J9q : Jq ["house","name"] ["house","name"] (J7 J1o):=⟨rfl,rfl,rfl,by decide +kernel,rfl,by decide +kernel,by decide +kernel⟩
theorem J7c : Jq ["house","name"] ["house","name"] (J7 J15):=⟨rfl,rfl,rfl,by decide +kernel,rfl,by decide +kernel,by decide +kernel⟩
theorem Jaf : Jq ["word"] ["word"] (J7 J2Z):=⟨rfl,rfl,rfl,by decide +kernel,rfl,by decide +kernel,by decide +kernel⟩
theorem J87 : Jq ["house","word"] ["house","word"] (J7 J1G):=⟨rfl,rfl,rfl,by decide +kernel,rfl,by decide +kernel,by decide +kernel⟩
theorem Jbb : Jq ["house","word"] ["house","word"] (J7 J3v):=⟨rfl,rfl,rfl,by decide +kernel,rfl,by decide +kernel,by decide +kernel⟩
theorem J61 : Jq ["house","need"] ["house","need"] (J7 J0x):=⟨rfl,rfl,rfl,by decide +kernel,rfl,by decide +kernel,by decide +kernel⟩
theorem J72 : Jq ["words"] ["words"] (J7 J14):=⟨rfl,rfl,rfl,by decide +kernel,rfl,by decide +kernel,by decide +kernel⟩
theorem J6C : Jq ["words"] ["words"] (J7 J0O):=⟨rfl,rfl,rfl,by decide +kernel,rfl,by decide +kernel,by decide +kernel⟩
theorem J3M : Jq ["house","words","least","most","need"] ["house","words"] (J7 J2V):=⟨rfl,rfl,rfl,by decide +kernel,rfl,by decide +kernel,by decide +kernel⟩
theorem J3R : Jq ["house","words","most","carried"] ["house","words"] (J7 J1K):=⟨rfl,rfl,rfl,by decide +kernel,rfl,by decide +kernel,by decide +kernel⟩
theorem J9f : Jq ["house","words"] ["house","words"] (J7 J2p):=⟨rfl,rfl,rfl,by decide +kernel,rfl,by decide +kernel,by decide +kernel⟩
theorem J9V : Jq ["house","words"] ["house","words"] (J7 J2S):=⟨rfl,rfl,rfl,by decide +kernel,rfl,by decide +kernel,by decide +kernel⟩
theorem J6j : Jq ["house","words","rule"] ["house","words"] (J7 J2T):=⟨rfl,rfl,rfl,by decide +kernel,rfl,by decide +kernel,by decide +kernel⟩
theorem Jam : Jq ["house","words"] ["house","words"] (J7 J2U):=⟨rfl,rfl,rfl,by decide +kernel,rfl,by decide +kernel,by decide +kernel⟩
theorem Jb8 : Jq ["house","words"] ["house","words"] (J7 J3t):=⟨rfl,rfl,rfl,by decide +kernel,rfl,by decide +kernel,by decide +kernel⟩
theorem J0F : Jq ["text","rows","house","latest","line","place"] ["text"] (J7 J0X):=⟨rfl,rfl,rfl,by decide +kernel,rfl,by decide +kernel,by decide +kernel⟩
theorem J6D : Jq ["_law_signs"] ["_law_signs"] (J7 J0Q):=⟨rfl,rfl,rfl,by decide +kernel,rfl,by decide +kernel,by decide +kernel⟩
theorem Jt : Jq ["_law_parts_here","_law_normal","_law_days","_law_kinds_here","_law_needs_here","_law_persons","_law_leave","_law_wishes","_law_rules","_law_pairs","_law_rows","_law_day","_law_kind","_law_least","_law_most","_law_name_here","_law_skills","_law_carried","_law_past","_law_head","_law_marks","_law_rule_here","_law_word","_law_other"] ["_law_parts_here","_law_normal"] (J7 J2i):=⟨rfl,rfl,rfl,by decide +kernel,rfl,by decide +kernel,by decide +kernel⟩
theorem Jcz : Jq ["word"] ["word"] (J7 J3Y):=⟨rfl,rfl,rfl,by decide +kernel,rfl,by decide +kernel,by decide +kernel⟩
theorem J4p : Jq ["person","numbers"] ["person"] (J7 J0N):=⟨rfl,rfl,rfl,by decide +kernel,rfl,by decide +kernel,by decide +kernel⟩
theorem J51 : Jq ["name","rule","text"] ["name","rule"] (J7 J1J):=⟨rfl,rfl,rfl,by decide +kernel,rfl,by decide +kernel,by decide +kernel⟩
theorem J1V : Jq ["house","days","kinds","rows"] ["house"] (J7 J24):=⟨rfl,rfl,rfl,by decide +kernel,rfl,by decide +kernel,by decide +kernel⟩
theorem J3Q : Jq ["_law_script","_law_parts_here","_law_due","_law_read","_law_persons","_law_lists","_law_made","_law_one","_law_house","_law_found"] ["_law_script"] (J7 J4q):=⟨rfl,rfl,rfl,by decide +kernel,rfl,by decide +kernel,by decide +kernel⟩
structure Tx (K : PySem.W.Frag) (mg : Str → Option Value) (J9 Jd J8 Jb J5 Ji J4 J1 : Addr) : Prop where
 J92 : MF K J9 "__init__" "Never.__init__" J1B
 J9Y : MF K Jd "__init__" "Most.__init__" J2k
 J9g : MF K J8 "__init__" "Least.__init__" J1s
 J9Q : MF K Jb "__init__" "Both.__init__" J2m
 J8a : MF K J5 "__init__" "Either.__init__" J0Z
 Jbn : MF K Ji "__init__" "Not.__init__" J2Y
 J82 : MF K J4 "__init__" "Person.__init__" J12
 J8S : MF K J1 "__init__" "House.__init__" J1D
 JcA : GF K mg "made_of" J2W
 J9L : GF K mg "is_figure" J2a
 Jcw : GF K mg "is_word" J3r
 Jaj : GF K mg "are_marks" J2n
 J76 : GF K mg "last_outside" J0R
 Jb7 : GF K mg "is_count" J2R
 J9p : GF K mg "read_plain" J1H
 J5v : GF K mg "read_words" J1t
 J9R : GF K mg "read_rule" J2f
 J9s : GF K mg "count_text" J1E
 J9c : MF K J9 "text" "Never.text" J1z
 Ja2 : MF K Jd "text" "Most.text" J2o
 J8W : MF K J8 "text" "Least.text" J1C
 Jac : GF K mg "is_joined" J2e
 J9T : GF K mg "part_text" J2j
 J9X : MF K Jb "text" "Both.text" J2b
 J7Y : MF K J5 "text" "Either.text" J11
 Jba : MF K Ji "text" "Not.text" J2X
 J8c : GF K mg "_law_cell_at" J13
 J91 : GF K mg "_law_stream" J1v
 J9O : GF K mg "_law_kinds" J1j
 JaV : GF K mg "_law_name" J27
 J5Z : GF K mg "_law_plain_rule" J0n
 Jbr : GF K mg "_law_rule" J28
 Jbc : GF K mg "_law_some" J25
 Jai : GF K mg "_law_needs" J2d
 Jbo : GF K mg "_law_wish" J30
 J8G : GF K mg "_law_person" J0U
 Ja7 : GF K mg "_law_parts" J1k
 J8d : GF K mg "read_number" J17
 J9a : GF K mg "are_unlike" J1I
 Jdc : GF K mg "is_day" J3W
 Jcs : GF K mg "is_kind" J3s
 J9N : GF K mg "is_person" J1o
 J7X : GF K mg "is_new_name" J15
 Jb3 : GF K mg "undotted" J2Z
 J93 : GF K mg "are_skills" J1G
 Jcu : GF K mg "is_past" J3v
 J6B : GF K mg "place_of_need" J0x
 J84 : GF K mg "is_days_row" J14
 J7e : GF K mg "is_kinds_row" J0O
 Jb0 : GF K mg "put_need" J2V
 J8N : GF K mg "put_person" J1K
 Ja3 : GF K mg "put_leave" J2p
 Jb5 : GF K mg "put_wish" J2S
 Jbf : GF K mg "put_rule" J2T
 Jbd : GF K mg "put_pair" J2U
 Jcr : GF K mg "put_row" J3t
 J8Y : GF K mg "read_house" J0X
 J6X : GF K mg "_law_or_point" J0Q
 Jad : GF K mg "_law_lines" J2i
 Jdr : GF K mg "dotted" J3Y
 J6T : GF K mg "shown_person" J0N
 J8U : GF K mg "shown_rule" J1J
 JeV : GF K mg "shown" J24
 Jhg : GF K mg "law" J4q
 J5j : CF K mg "Never" J9
 J58 : CF K mg "Most" Jd
 J4e : CF K mg "Least" J8
 J56 : CF K mg "Both" Jb
 J2w : CF K mg "Either" J5
 Ja6 : CF K mg "Not" Ji
 J1Z : CF K mg "Person" J4
 JW : CF K mg "House" J1
 JeZ : J6w K J9
 J2B : PySem.W.kitOne K (.ref J9) (.ref Jb) = some false
 J1n : PySem.W.kitOne K (.ref J9) (.ref J5) = some false
 JfY : J6w K Jd
 J3g : PySem.W.kitOne K (.ref Jd) (.ref Jb) = some false
 J1Y : PySem.W.kitOne K (.ref Jd) (.ref J5) = some false
 JeY : J6w K J8
 J2v : PySem.W.kitOne K (.ref J8) (.ref Jb) = some false
 J1g : PySem.W.kitOne K (.ref J8) (.ref J5) = some false
 JfR : J6w K Jb
 J38 : PySem.W.kitOne K (.ref Jb) (.ref Jb) = some true
 J1W : PySem.W.kitOne K (.ref Jb) (.ref J5) = some false
 Jdm : J6w K J5
 J1X : PySem.W.kitOne K (.ref J5) (.ref Jb) = some false
 J0Y : PySem.W.kitOne K (.ref J5) (.ref J5) = some true
 JgT : J6w K Ji
 J3C : PySem.W.kitOne K (.ref Ji) (.ref Jb) = some false
 J2H : PySem.W.kitOne K (.ref Ji) (.ref J5) = some false
 J2g : JX K Jb "left"
 J1F : JX K Jb "right"
 J18 : JX K J5 "left"
 J0P : JX K J5 "right"
 J0V : JX K J1 "days"
 JU : JX K J1 "kinds"
 J0H : JX K J1 "needs"
 J05 : JX K J1 "persons"
 J0G : JX K J1 "leave"
 J0p : JX K J1 "wishes"
 J0j : JX K J1 "rules"
 J0I : JX K J1 "pairs"
 J1A : JX K J8 "many"
 J16 : JX K J8 "marks"
 J1y : JX K J8 "days"
 J2l : JX K Jd "many"
 J1u : JX K Jd "marks"
 J2c : JX K Jd "days"
 J1w : JX K J9 "word"
 J2h : JX K Ji "inner"
 J0J : JX K J4 "name"
 J0y : JX K J4 "skills"
 J19 : JX K J4 "most"
 J0m : JX K J4 "carried"
 J10 : JX K J4 "past"
 Jao : mg "all" = none
 J9S : mg "any" = none
 J3e : mg "enumerate" = none
 J5g : mg "int" = none
 J0g : mg "isinstance" = none
 JS : mg "len" = none
 J26 : mg "list" = none
 J1x : mg "range" = none
 J8j : mg "set" = none
 J3f : mg "str" = none
 J3c : ∃ t,mg "MOST_DAYS" = some (.int 14 t)
 J1T : ∃ t,mg "MOST_DUTIES" = some (.int 14 t)
 J1l : ∃ t,mg "MOST_FIGURES" = some (.int 40 t)
 J2C : ∃ t,mg "MOST_KINDS" = some (.int 4 t)
 J2E : ∃ t,mg "MOST_LEAVE" = some (.int 60 t)
 J3b : ∃ t,mg "MOST_NEED" = some (.int 8 t)
 J2x : ∃ t,mg "MOST_PAIRS" = some (.int 8 t)
 J1h : ∃ t,mg "MOST_PERSONS" = some (.int 8 t)
 J2F : ∃ t,mg "MOST_RULES" = some (.int 8 t)
 J01 : ∃ t,mg "MOST_SIGNS_OF_A_NAME" = some (.int 8 t)
 J1U : ∃ t,mg "MOST_WISHES" = some (.int 60 t)
 J2D : ∃ t,mg "MOST_WORDS" = some (.int 60 t)
 J2y : ∃ t,mg "PAST_MARKS" = some (.int 6 t)
 J3E : ∃ t,mg "CAPITALS" = some (.str ⟨[65,66,67,68,69,70,71,72,73,74,75,76,77,78,79,80,81,82,83,84,85,86,87,88,89,90].toArray⟩ t)
 J1m : ∃ t,mg "DAYS_FIGURES" = some (.str ⟨[49,50,51,52,53,54,55].toArray⟩ t)
 J3X : ∃ t,mg "FIGURES" = some (.str ⟨[48,49,50,51,52,53,54,55,56,57].toArray⟩ t)
 J1i : ∃ t,mg "MANY_FIGURES" = some (.str ⟨[48,49,50,51,52,53,54,55].toArray⟩ t)
 J2G : ∃ t,mg "MARK_SIGNS" = some (.str ⟨[65,66,67,68,69,70,71,72,73,74,75,76,77,78,79,80,81,82,83,84,85,86,87,88,89,90,45,35].toArray⟩ t)
 J5m : ∃ t,mg "SMALL" = some (.str ⟨[97,98,99,100,101,102,103,104,105,106,107,108,109,110,111,112,113,114,115,116,117,118,119,120,121,122].toArray⟩ t)
 J2z : ∃ t,mg "WORD_SIGNS" = some (.str ⟨[65,66,67,68,69,70,71,72,73,74,75,76,77,78,79,80,81,82,83,84,85,86,87,88,89,90,45,35,63].toArray⟩ t)
 Jdq : ∃ a,mg "PLACES" = some (.ref a) ∧ JaH K a [([110,101,101,100],0),([112,101,114,115,111,110],1),([108,101,97,118,101],2),([119,105,115,104],3),([114,117,108,101],4),([97,112,97,114,116],5),([119,105,116,104],5)] = true
theorem J45 {α : Type} (l : List α) (k : Int) (h0 : 0 ≤ k) : cutN l (some k) none = l.drop k.toNat:=by
 unfold cutN
 have e : HT.sIx l.length 0 (some k) = min k.toNat l.length:=by
  show (if k < 0 then _ else min k.toNat l.length) = _
  rw [if_neg (by omega)]
 rw [e,HT.sIx_none]
 by_cases h : k.toNat ≤ l.length
 ·rw [Nat.min_eq_left h]
  exact List.take_of_length_le (by rw [List.length_drop]; omega)
 ·rw [Nat.min_eq_right (by omega),List.drop_eq_nil_of_le (Nat.le_refl _),List.drop_eq_nil_of_le (by omega),List.take_nil]
theorem J6i {α : Type} (l : List α) (k : Int) (h0 : 0 ≤ k) : cutN l none (some k) = l.take k.toNat:=by
 unfold cutN
 have e : HT.sIx l.length l.length (some k) = min k.toNat l.length:=by
  show (if k < 0 then _ else min k.toNat l.length) = _
  rw [if_neg (by omega)]
 rw [e,HT.sIx_none,List.drop_zero,Nat.sub_zero]
 by_cases h : k.toNat ≤ l.length
 ·rw [Nat.min_eq_left h]
 ·rw [Nat.min_eq_right (by omega),List.take_of_length_le (Nat.le_refl _),List.take_of_length_le (by omega)]
theorem J9y {α : Type} (l : List α) (lo hi : Option Int) : (cutN l lo hi).length ≤ l.length:=by
 unfold cutN
 rw [List.length_take,List.length_drop]
 omega
theorem J3p {α : Type} (l : List α) (i : Int) (h0 : 0 ≤ i) (h : i < l.length) : ∃ c,atI l i = some c ∧ l[i.toNat]? = some c:=by
 have hi : i.toNat < l.length:=by omega
 have e : i = ((i.toNat : Nat) : Int):=by omega
 have q : atI l ((i.toNat : Nat) : Int) = some l[i.toNat]:=J3P (by simp [hi])
 rw [← e] at q
 exact ⟨l[i.toNat],q,List.getElem?_eq_getElem hi⟩
theorem J7z (ns : List Int) (i : Int) (h0 : 0 ≤ i) (h : i < ns.length) : ∃ z,atI (ns.map V.int) i = some (.int z) ∧ ns[i.toNat]? = some z:=by
 obtain ⟨c,h1,h2⟩:=J3p (ns.map V.int) i h0 (by rw [List.length_map]; exact h)
 rw [List.getElem?_map] at h2
 cases hz : ns[i.toNat]? with
 | none=>rw [hz] at h2; cases h2
 | some z =>
  rw [hz] at h2
  have e : c = .int z:=(Option.some.inj h2).symm
  subst e
  exact ⟨z,h1,rfl⟩
theorem Jas {ys : List V} (h : ∀ y ∈ ys,∃ c,y = T [c]) : ∃ cs : List Nat,ys = (cs.map fun c=>[c]).map T ∧ cs.length = ys.length:=by
 induction ys with
 | nil=>exact ⟨[],rfl,rfl⟩
 | cons y r ih =>
  obtain ⟨c,rfl⟩:=h y List.mem_cons_self
  obtain ⟨cs,e,hl⟩:=ih fun z hz=>h z (List.mem_cons_of_mem _ hz)
  exact ⟨c :: cs,by rw [e]; rfl,by simp [hl]⟩
noncomputable def sp_law (K : PySem.W.Frag) : Sp:=fun vs H Q _=>∃ (a : Addr) (ns : List Int),vs = [.ref a] ∧ SqL K H a (ns.map V.int) ∧ ns.length ≤ 63 ∧ ∀ H',Q (.bl true) H'
theorem JgE {p : (Nat → Nat → St → Hp → Prop) → Prop} (h : ∃ W,p W) : ∃ W,p W:=h
theorem JfA {p : (Nat → St → Hp → Prop) → Prop} (h : ∃ W,p W) : ∃ W,p W:=h
theorem Jh3 {A B : Prop} (h : B) : if (!true) = true then A else B:=h
theorem JgZ {A B : Prop} (h : A) : if (!false) = true then A else B:=h
theorem iteY {c A B : Prop} [Decidable c] (hc : c) (h : A) : if decide c = true then A else B:=by rw [if_pos (decide_eq_true hc)]; exact h
theorem Jfg {i j : Int} (h1 : 0 < j) (h2 : j < 1073741824) : CDiv i j:=⟨h1,h2⟩
theorem Jh5 {i j : Int} (h1 : -(2 ^ 64) < i) (h2 : i < 2 ^ 64) : CMul i j:=.inl ⟨h1,h2⟩
theorem Jh1 {i j : Int} (h1 : -(2 ^ 64) < j) (h2 : j < 2 ^ 64) : CMul i j:=.inr ⟨h1,h2⟩
theorem JgL {n : Int} (h : 0 < n) : 0 < n:=h
@[irreducible] def Here (p : Prop) : Prop:=p
theorem Here.mk {p : Prop} (h : p) : Here p:=by unfold Here; exact h
theorem Here.out {p : Prop} (h : Here p) : p:=by unfold Here at h; exact h
theorem Je9 {i : Nat} {v : V} {σ σ' : St} {H : Hp} {Q : St → Hp → Prop} (e : σ.set i (some v) = σ') (h : Q σ' H) : J4H i v σ H Q:=by subst e; exact h
theorem Jeq {n : Nat} (h : n ≤ 100000) : n ≤ sizeLine:=Nat.le_trans h (by decide)
theorem Jee {n : Nat} (h : n ≤ 100000) : n < sizeLine:=Nat.lt_of_le_of_lt h (by decide)
local macro_rules | `(tactic| walk_at "len")=>`(tactic| (simp only [List.length_append,List.length_cons,List.length_nil,List.length_singleton,List.length_take,List.length_drop,List.length_map,List.length_reverse,List.length_range] <;> omega))
local macro_rules | `(tactic| walk_at "st")=>`(tactic| (try simp only [L2.start,List.map_cons,List.map_nil,List.length_cons,List.length_nil,Nat.reduceAdd,Nat.reduceSub,List.replicate_succ,List.replicate_zero,List.cons_append,List.nil_append]))
local macro_rules | `(tactic| walk_at "lk")=>`(tactic| fail)
local macro_rules | `(tactic| walk_at "cl")=>`(tactic| first
 | (with_reducible assumption) | rfl
 | (with_reducible show @LE.le Nat _ _ _; first | omega | (walk_at "len") | exact Jeq (by omega) | exact Jeq (by walk_at "len"))
 | (with_reducible show @LT.lt Nat _ _ _; first | omega | (walk_at "len") | exact Jee (by omega) | exact Jee (by walk_at "len"))
 | (with_reducible show @LE.le Int _ _ _; omega) | (with_reducible show @LT.lt Int _ _ _; omega)
 | ((with_reducible refine Jfg ?_ ?_) <;> omega) | ((with_reducible refine Jh5 ?_ ?_) <;> omega) | ((with_reducible refine Jh1 ?_ ?_) <;> omega) | ((with_reducible refine JgL ?_) <;> omega)
 | exact Je | exact JF (by with_reducible assumption) _ _ _ Je | exact SqL.of (by with_reducible assumption) | exact SqL.of Je | exact SqT.of Je | exact SqT.of (by with_reducible assumption) | exact Or.inl (by with_reducible assumption) | exact Or.inl (SqL.of (by with_reducible assumption)) | exact Or.inl (SqL.of Je)
 | exact Or.inl ⟨rfl,_,SqL.of (by with_reducible assumption)⟩ | exact Or.inl ⟨rfl,_,SqL.of Je⟩ | exact Or.inl ⟨rfl,_,by with_reducible assumption⟩ | exact ⟨_,by with_reducible assumption⟩ | exact ⟨_,SqL.of (by with_reducible assumption)⟩ | exact ⟨_,SqL.of Je⟩
 | exact ⟨by omega,by omega⟩ | assumption | walk_at "lk")
local macro_rules | `(tactic| walk_at "rd1")=>`(tactic| first
 | (with_reducible refine Je9 (by first | (simp only [List.set_cons_zero,List.set_cons_succ]; done) | (simp only [List.set_cons_zero,List.set_cons_succ]; rfl)) ?_)
 | (with_reducible refine iteT ?_) | (with_reducible refine iteF ?_) | (with_reducible refine Jh3 ?_) | (with_reducible refine JgZ ?_)
 | ((fail_if_success apply JgE); (fail_if_success apply JfA); apply Exists.intro)
 | (apply And.intro; (· walk_at "cl"))
 | (refine Or.inl ⟨_,rfl,?_⟩) | (refine Or.inr (Or.inl ⟨_,rfl,?_⟩)) | (refine Or.inr (Or.inr (Or.inl ⟨_,rfl,?_⟩))) | (refine Or.inr (Or.inr (Or.inr (Or.inl ⟨_,rfl,?_⟩)))) | (refine Or.inr (Or.inr (Or.inr (Or.inr ⟨_,_,rfl,by with_reducible assumption,?_⟩)))))
local macro_rules | `(tactic| walk_at "rd")=>`(tactic| repeat (walk_at "rd1"))
noncomputable def JaL (C : Addr) (H : Hp) (p : Addr) (n : Int) (m : List Nat) (d : Int) : Prop:=∃ dx,H p = some (.ins C dx [("many",.int n),("marks",T m),("days",.int d)])
theorem JaL.same {C : Addr} {H H' : Hp} {p : Addr} {n d : Int} {m : List Nat} (h : JaL C H p n m d) (s : Same H H') : JaL C H' p n m d:=let ⟨dx,e⟩:=h; ⟨dx,s _ _ e⟩
theorem Jfj (x y z : V) : List.lookup ("many" : Str) [(("many" : Str),x),("marks",y),("days",z)] = some x:=by rw [List.lookup_cons,beq_self_eq_true]
theorem JdR (x y z : V) : List.lookup ("marks" : Str) [(("many" : Str),x),("marks",y),("days",z)] = some y:=by
 rw [List.lookup_cons,beq_eq_false_iff_ne.mpr (by decide +kernel),List.lookup_cons,beq_self_eq_true]
theorem JfB (x y z : V) : List.lookup ("days" : Str) [(("many" : Str),x),("marks",y),("days",z)] = some z:=by
 rw [List.lookup_cons,beq_eq_false_iff_ne.mpr (by decide +kernel),List.lookup_cons,beq_eq_false_iff_ne.mpr (by decide +kernel),List.lookup_cons,beq_self_eq_true]
theorem put3 (n : Int) (m : List Nat) (d : Int) : putF "days" (.int d) (putF "marks" (T m) (putF "many" (.int n) [])) = ([("many",.int n),("marks",T m),("days",.int d)] : List (Str × V)):=by
 have h1 : ¬ (("many" : Str) = "marks"):=by decide +kernel
 have h2 : ¬ (("many" : Str) = "days"):=by decide +kernel
 have h3 : ¬ (("marks" : Str) = "days"):=by decide +kernel
 simp [putF,h1,h2,h3]
noncomputable def J5k (C : Addr) : Sp:=fun vs H Q _=>∃ p dx n m d,vs = [.ref p,.int n,T m,.int d] ∧ H p = some (.ins C dx []) ∧ Q .non (upd (upd (upd H p (.ins C dx (putF "many" (.int n) []))) p (.ins C dx (putF "marks" (T m) (putF "many" (.int n) [])))) p (.ins C dx [("many",.int n),("marks",T m),("days",.int d)]))
noncomputable def Jch (C : Addr) (H : Hp) (p : Addr) (w : List Nat) : Prop:=∃ dx,H p = some (.ins C dx [("word",T w)])
theorem Jch.same {C : Addr} {H H' : Hp} {p : Addr} {w : List Nat} (h : Jch C H p w) (s : Same H H') : Jch C H' p w:=let ⟨dx,e⟩:=h; ⟨dx,s _ _ e⟩
theorem wl (v : V) : List.lookup ("word" : Str) [(("word" : Str),v)] = some v:=by rw [List.lookup_cons,beq_self_eq_true]
theorem Jf5 (x y : V) : List.lookup ("left" : Str) [(("left" : Str),x),("right",y)] = some x:=by rw [List.lookup_cons,beq_self_eq_true]
theorem JeO (x y : V) : List.lookup ("right" : Str) [(("left" : Str),x),("right",y)] = some y:=by
 rw [List.lookup_cons,beq_eq_false_iff_ne.mpr (by decide +kernel),List.lookup_cons,beq_self_eq_true]
theorem Je5 (x : V) : List.lookup ("inner" : Str) [(("inner" : Str),x)] = some x:=by rw [List.lookup_cons,beq_self_eq_true]
theorem put2 (x y : V) : putF "right" y (putF "left" x []) = ([("left",x),("right",y)] : List (Str × V)):=by
 have h1 : ¬ (("left" : Str) = "right"):=by decide +kernel
 simp [putF,h1]
noncomputable def JbZ (C : Addr) : Sp:=fun vs H Q _=>∃ p dx w,vs = [.ref p,T w] ∧ H p = some (.ins C dx []) ∧ Q .non (upd H p (.ins C dx [("word",T w)]))
noncomputable def J5h (C : Addr) : Sp:=fun vs H Q _=>∃ p dx a b,vs = [.ref p,.ref a,.ref b] ∧ H p = some (.ins C dx []) ∧ Q .non (upd (upd H p (.ins C dx (putF "left" (.ref a) []))) p (.ins C dx [("left",.ref a),("right",.ref b)]))
noncomputable def J9U (C : Addr) : Sp:=fun vs H Q _=>∃ p dx a,vs = [.ref p,.ref a] ∧ H p = some (.ins C dx []) ∧ Q .non (upd H p (.ins C dx [("inner",.ref a)]))
inductive R where
 | nev (w : List Nat)
 | most (n : Int) (m : List Nat) (d : Int)
 | least (n : Int) (m : List Nat) (d : Int)
 | both (l r : R)
 | either (l r : R)
 | neg (i : R)
noncomputable def R.depth : R → Nat
 | .nev _=>0
 | .most _ _ _=>0
 | .least _ _ _=>0
 | .both l r=>max l.depth r.depth + 1
 | .either l r=>max l.depth r.depth + 1
 | .neg i=>i.depth + 1
structure Cs where
 nev : Addr
 most : Addr
 least : Addr
 both : Addr
 either : Addr
 neg : Addr
noncomputable def R.cls (c : Cs) : R → Addr
 | .nev _=>c.nev
 | .most _ _ _=>c.most
 | .least _ _ _=>c.least
 | .both _ _=>c.both
 | .either _ _=>c.either
 | .neg _=>c.neg
noncomputable def JH (c : Cs) (H : Hp) : R → Addr → Prop
 | .nev w,p=>Jch c.nev H p w ∧ w.length ≤ 1000
 | .most n m d,p=>JaL c.most H p n m d ∧ m.length ≤ 1000 ∧ 0 ≤ d
 | .least n m d,p=>JaL c.least H p n m d ∧ m.length ≤ 1000 ∧ 0 ≤ d
 | .both l r,p=>∃ dx a b,H p = some (.ins c.both dx [("left",.ref a),("right",.ref b)]) ∧ JH c H l a ∧ JH c H r b
 | .either l r,p=>∃ dx a b,H p = some (.ins c.either dx [("left",.ref a),("right",.ref b)]) ∧ JH c H l a ∧ JH c H r b
 | .neg i,p=>∃ dx a,H p = some (.ins c.neg dx [("inner",.ref a)]) ∧ JH c H i a
theorem JH.same {c : Cs} {H H' : Hp} (s : Same H H') : ∀ {r : R} {p : Addr},JH c H r p → JH c H' r p
 | .nev _,_,h=>⟨h.1.same s,h.2⟩
 | .most _ _ _,_,h=>⟨h.1.same s,h.2⟩
 | .least _ _ _,_,h=>⟨h.1.same s,h.2⟩
 | .both _ _,_,⟨dx,a,b,e,h1,h2⟩=>⟨dx,a,b,s _ _ e,JH.same s h1,JH.same s h2⟩
 | .either _ _,_,⟨dx,a,b,e,h1,h2⟩=>⟨dx,a,b,s _ _ e,JH.same s h1,JH.same s h2⟩
 | .neg _,_,⟨dx,a,e,h1⟩=>⟨dx,a,s _ _ e,JH.same s h1⟩
theorem JH.obj {c : Cs} {H : Hp} {r : R} {p : Addr} (h : JH c H r p) : ∃ dx fs,H p = some (.ins (r.cls c) dx fs) ∧ fs.lookup ("bad" : Str) = none ∧ fs.lookup ("reach" : Str) = none ∧ fs.lookup ("text" : Str) = none:=by
 have no1 : ∀ (x m : Str) (v : V),m ≠ x → List.lookup m [(x,v)] = none:=fun x m v hm=>by rw [List.lookup_cons,beq_eq_false_iff_ne.mpr hm]; rfl
 have no2 : ∀ (x y m : Str) (v u : V),m ≠ x → m ≠ y → List.lookup m [(x,v),(y,u)] = none:=fun x y m v u h1 h2=>by rw [List.lookup_cons,beq_eq_false_iff_ne.mpr h1]; exact no1 _ _ _ h2
 have no3 : ∀ (x y z m : Str) (v u t : V),m ≠ x → m ≠ y → m ≠ z → List.lookup m [(x,v),(y,u),(z,t)] = none:=fun x y z m v u t h1 h2 h3=>by rw [List.lookup_cons,beq_eq_false_iff_ne.mpr h1]; exact no2 _ _ _ _ _ h2 h3
 cases r with
 | nev w =>
  obtain ⟨⟨dx,e⟩,_⟩:=h
  exact ⟨dx,_,e,no1 _ _ _ (by decide +kernel),no1 _ _ _ (by decide +kernel),no1 _ _ _ (by decide +kernel)⟩
 | most n m d =>
  obtain ⟨⟨dx,e⟩,_⟩:=h
  exact ⟨dx,_,e,no3 _ _ _ _ _ _ _ (by decide +kernel) (by decide +kernel) (by decide +kernel),no3 _ _ _ _ _ _ _ (by decide +kernel) (by decide +kernel) (by decide +kernel),no3 _ _ _ _ _ _ _ (by decide +kernel) (by decide +kernel) (by decide +kernel)⟩
 | least n m d =>
  obtain ⟨⟨dx,e⟩,_⟩:=h
  exact ⟨dx,_,e,no3 _ _ _ _ _ _ _ (by decide +kernel) (by decide +kernel) (by decide +kernel),no3 _ _ _ _ _ _ _ (by decide +kernel) (by decide +kernel) (by decide +kernel),no3 _ _ _ _ _ _ _ (by decide +kernel) (by decide +kernel) (by decide +kernel)⟩
 | both l r =>
  obtain ⟨dx,a,b,e,_⟩:=h
  exact ⟨dx,_,e,no2 _ _ _ _ _ (by decide +kernel) (by decide +kernel),no2 _ _ _ _ _ (by decide +kernel) (by decide +kernel),no2 _ _ _ _ _ (by decide +kernel) (by decide +kernel)⟩
 | either l r =>
  obtain ⟨dx,a,b,e,_⟩:=h
  exact ⟨dx,_,e,no2 _ _ _ _ _ (by decide +kernel) (by decide +kernel),no2 _ _ _ _ _ (by decide +kernel) (by decide +kernel),no2 _ _ _ _ _ (by decide +kernel) (by decide +kernel)⟩
 | neg i =>
  obtain ⟨dx,a,e,_⟩:=h
  exact ⟨dx,_,e,no1 _ _ _ (by decide +kernel),no1 _ _ _ (by decide +kernel),no1 _ _ _ (by decide +kernel)⟩
theorem JdU (ns : List Int) (lo hi : Option Int) : cutV (ns.map V.int) lo hi = (cutN ns lo hi).map V.int:=by
 unfold cutV cutN
 rw [List.length_map,List.map_take,List.map_drop]
noncomputable def rNev (c6 : Cs) : List V → Hp → VK → Prop:=fun vs H Q=>∃ w,vs = [T w] ∧ w.length ≤ 1000 ∧ ∀ p H',Same H H' → JH c6 H' (.nev w) p → Q (.ref p) H'
noncomputable def JfQ (c6 : Cs) : List V → Hp → VK → Prop:=fun vs H Q=>∃ n m d,vs = [.int n,T m,.int d] ∧ m.length ≤ 1000 ∧ 0 ≤ d ∧ ∀ p H',Same H H' → JH c6 H' (.most n m d) p → Q (.ref p) H'
noncomputable def Je6 (c6 : Cs) : List V → Hp → VK → Prop:=fun vs H Q=>∃ n m d,vs = [.int n,T m,.int d] ∧ m.length ≤ 1000 ∧ 0 ≤ d ∧ ∀ p H',Same H H' → JH c6 H' (.least n m d) p → Q (.ref p) H'
noncomputable def JfI (c6 : Cs) : List V → Hp → VK → Prop:=fun vs H Q=>∃ a b x y,vs = [.ref a,.ref b] ∧ JH c6 H x a ∧ JH c6 H y b ∧ ∀ p dx H',Same H H' → JH c6 H' (.both x y) p → H' p = some (.ins c6.both dx [("left",.ref a),("right",.ref b)]) → Q (.ref p) H'
noncomputable def Jc7 (c6 : Cs) : List V → Hp → VK → Prop:=fun vs H Q=>∃ a b x y,vs = [.ref a,.ref b] ∧ JH c6 H x a ∧ JH c6 H y b ∧ ∀ p dx H',Same H H' → JH c6 H' (.either x y) p → H' p = some (.ins c6.either dx [("left",.ref a),("right",.ref b)]) → Q (.ref p) H'
noncomputable def rNot (c6 : Cs) : List V → Hp → VK → Prop:=fun vs H Q=>∃ a x,vs = [.ref a] ∧ JH c6 H x a ∧ ∀ p dx H',Same H H' → JH c6 H' (.neg x) p → H' p = some (.ins c6.neg dx [("inner",.ref a)]) → Q (.ref p) H'
theorem Jgu {c6 : Cs} : ∀ vs H Q,rNev c6 vs H Q → ∀ x dx,H x = none → H dx = none → dx ≠ x → JbZ c6.nev (.ref x :: (vs ++ [])) (upd (upd H dx (.own x)) x (.ins c6.nev dx [])) (fun v H2=>v = .non ∧ Q (.ref x) H2) E0:=by
 rintro _ H Q ⟨w,rfl,hw,q⟩ x dx nx ndx _
 exact ⟨x,dx,w,rfl,Je,rfl,q x _ (((JF ndx _).upd nx).upd nx) ⟨⟨dx,Je⟩,hw⟩⟩
theorem Jfq {c6 : Cs} : ∀ vs H Q,JfQ c6 vs H Q → ∀ x dx,H x = none → H dx = none → dx ≠ x → J5k c6.most (.ref x :: (vs ++ [])) (upd (upd H dx (.own x)) x (.ins c6.most dx [])) (fun v H2=>v = .non ∧ Q (.ref x) H2) E0:=by
 rintro _ H Q ⟨n,m,d,rfl,hm,hd,q⟩ x dx nx ndx _
 exact ⟨x,dx,n,m,d,rfl,Je,rfl,q x _ (((((JF ndx _).upd nx).upd nx).upd nx).upd nx) ⟨⟨dx,Je⟩,hm,hd⟩⟩
theorem Jea {c6 : Cs} : ∀ vs H Q,Je6 c6 vs H Q → ∀ x dx,H x = none → H dx = none → dx ≠ x → J5k c6.least (.ref x :: (vs ++ [])) (upd (upd H dx (.own x)) x (.ins c6.least dx [])) (fun v H2=>v = .non ∧ Q (.ref x) H2) E0:=by
 rintro _ H Q ⟨n,m,d,rfl,hm,hd,q⟩ x dx nx ndx _
 exact ⟨x,dx,n,m,d,rfl,Je,rfl,q x _ (((((JF ndx _).upd nx).upd nx).upd nx).upd nx) ⟨⟨dx,Je⟩,hm,hd⟩⟩
theorem Jfy {c6 : Cs} : ∀ vs H Q,JfI c6 vs H Q → ∀ x dx,H x = none → H dx = none → dx ≠ x → J5h c6.both (.ref x :: (vs ++ [])) (upd (upd H dx (.own x)) x (.ins c6.both dx [])) (fun v H2=>v = .non ∧ Q (.ref x) H2) E0:=by
 rintro _ H Q ⟨a,b,y,z,rfl,ha,hb,q⟩ x dx nx ndx _
 have ss:=((((JF ndx (.own x)).upd nx (o:=.ins c6.both dx [])).upd nx (o:=.ins c6.both dx (putF "left" (.ref a) []))).upd nx (o:=.ins c6.both dx [("left",.ref a),("right",.ref b)]))
 exact ⟨x,dx,a,b,rfl,Je,rfl,q x dx _ ss ⟨dx,a,b,Je,ha.same ss,hb.same ss⟩ Je⟩
theorem JcN {c6 : Cs} : ∀ vs H Q,Jc7 c6 vs H Q → ∀ x dx,H x = none → H dx = none → dx ≠ x → J5h c6.either (.ref x :: (vs ++ [])) (upd (upd H dx (.own x)) x (.ins c6.either dx [])) (fun v H2=>v = .non ∧ Q (.ref x) H2) E0:=by
 rintro _ H Q ⟨a,b,y,z,rfl,ha,hb,q⟩ x dx nx ndx _
 have ss:=((((JF ndx (.own x)).upd nx (o:=.ins c6.either dx [])).upd nx (o:=.ins c6.either dx (putF "left" (.ref a) []))).upd nx (o:=.ins c6.either dx [("left",.ref a),("right",.ref b)]))
 exact ⟨x,dx,a,b,rfl,Je,rfl,q x dx _ ss ⟨dx,a,b,Je,ha.same ss,hb.same ss⟩ Je⟩
theorem Jg3 {c6 : Cs} : ∀ vs H Q,rNot c6 vs H Q → ∀ x dx,H x = none → H dx = none → dx ≠ x → J9U c6.neg (.ref x :: (vs ++ [])) (upd (upd H dx (.own x)) x (.ins c6.neg dx [])) (fun v H2=>v = .non ∧ Q (.ref x) H2) E0:=by
 rintro _ H Q ⟨a,y,rfl,ha,q⟩ x dx nx ndx _
 have ss:=(((JF ndx (.own x)).upd nx (o:=.ins c6.neg dx [])).upd nx (o:=.ins c6.neg dx [("inner",.ref a)]))
 exact ⟨x,dx,a,rfl,Je,rfl,q x dx _ ss ⟨dx,a,Je,ha.same ss⟩ Je⟩
theorem J43 {f : Str} {v : V} {r : List (Str × V)} : List.lookup f ((f,v) :: r) = some v:=by rw [List.lookup_cons,beq_self_eq_true]
theorem J06 {f g : Str} {v : V} {r : List (Str × V)} (h : f ≠ g) : List.lookup f ((g,v) :: r) = List.lookup f r:=by rw [List.lookup_cons,beq_eq_false_iff_ne.mpr h]
theorem putN {f : Str} {v : V} : ∀ {fs : List (Str × V)},(∀ g ∈ fs.map (·.1),g ≠ f) → putF f v fs = fs ++ [(f,v)]
 | [],_=>rfl
 | (g,x) :: r,h=>by
  have h1 : ¬ g = f:=h g (by simp)
  have ih:=putN (f:=f) (v:=v) (fs:=r) fun g hg=>h g (by rw [List.map_cons]; exact List.mem_cons_of_mem _ hg)
  show (if g = f then (g,v) :: r else (g,x) :: putF f v r) = _
  rw [if_neg h1,ih]
  rfl
noncomputable abbrev fP (a b c d e : V) : List (Str × V):=[("name",a),("skills",b),("most",c),("carried",d),("past",e)]
noncomputable abbrev fH (a b c d e f g h : V) : List (Str × V):=[("days",a),("kinds",b),("needs",c),("persons",d),("leave",e),("wishes",f),("rules",g),("pairs",h)]
theorem J5O (a b c d e : V) : List.lookup ("name" : Str) (fP a b c d e) = some a:=J43
theorem J8v (a b c d e : V) : List.lookup ("skills" : Str) (fP a b c d e) = some b:=by rw [J06 (by decide +kernel),J43]
theorem Jc0 (a b c d e : V) : List.lookup ("most" : Str) (fP a b c d e) = some c:=by rw [J06 (by decide +kernel),J06 (by decide +kernel),J43]
theorem J7A (a b c d e : V) : List.lookup ("carried" : Str) (fP a b c d e) = some d:=by rw [J06 (by decide +kernel),J06 (by decide +kernel),J06 (by decide +kernel),J43]
theorem Jcd (a b c d e : V) : List.lookup ("past" : Str) (fP a b c d e) = some e:=by rw [J06 (by decide +kernel),J06 (by decide +kernel),J06 (by decide +kernel),J06 (by decide +kernel),J43]
theorem J4T (a b c d e f g h : V) : List.lookup ("days" : Str) (fH a b c d e f g h) = some a:=J43
theorem J42 (a b c d e f g h : V) : List.lookup ("kinds" : Str) (fH a b c d e f g h) = some b:=by rw [J06 (by decide +kernel),J43]
theorem J48 (a b c d e f g h : V) : List.lookup ("needs" : Str) (fH a b c d e f g h) = some c:=by rw [J06 (by decide +kernel),J06 (by decide +kernel),J43]
theorem J31 (a b c d e f g h : V) : List.lookup ("persons" : Str) (fH a b c d e f g h) = some d:=by rw [J06 (by decide +kernel),J06 (by decide +kernel),J06 (by decide +kernel),J43]
theorem J40 (a b c d e f g h : V) : List.lookup ("leave" : Str) (fH a b c d e f g h) = some e:=by rw [J06 (by decide +kernel),J06 (by decide +kernel),J06 (by decide +kernel),J06 (by decide +kernel),J43]
theorem J3w (a b c d e f g h : V) : List.lookup ("wishes" : Str) (fH a b c d e f g h) = some f:=by rw [J06 (by decide +kernel),J06 (by decide +kernel),J06 (by decide +kernel),J06 (by decide +kernel),J06 (by decide +kernel),J43]
theorem J4a (a b c d e f g h : V) : List.lookup ("rules" : Str) (fH a b c d e f g h) = some g:=by rw [J06 (by decide +kernel),J06 (by decide +kernel),J06 (by decide +kernel),J06 (by decide +kernel),J06 (by decide +kernel),J06 (by decide +kernel),J43]
theorem J4c (a b c d e f g h : V) : List.lookup ("pairs" : Str) (fH a b c d e f g h) = some h:=by rw [J06 (by decide +kernel),J06 (by decide +kernel),J06 (by decide +kernel),J06 (by decide +kernel),J06 (by decide +kernel),J06 (by decide +kernel),J06 (by decide +kernel),J43]
noncomputable def J7M (C : Addr) (H : Hp) (p : Addr) (nm sk : List Nat) (m c : Int) (pa : List Nat) : Prop:=∃ dx,H p = some (.ins C dx (fP (T nm) (T sk) (.int m) (.int c) (T pa)))
theorem J7M.keeps {C : Addr} {H H' : Hp} {p : Addr} {nm sk pa : List Nat} {m c : Int} (h : J7M C H p nm sk m c pa) (k : Keeps H H') : J7M C H' p nm sk m c pa:=let ⟨dx,e⟩:=h; ⟨dx,k _ _ e fun zs z=>by cases z⟩
noncomputable def J4r (C : Addr) (H : Hp) (p : Addr) (d : Int) (k : List Nat) (a1 a2 a3 a4 a5 a6 : Addr) : Prop:=∃ dx,H p = some (.ins C dx (fH (.int d) (T k) (.ref a1) (.ref a2) (.ref a3) (.ref a4) (.ref a5) (.ref a6)))
theorem J4r.keeps {C : Addr} {H H' : Hp} {p : Addr} {d : Int} {k : List Nat} {a1 a2 a3 a4 a5 a6 : Addr} (h : J4r C H p d k a1 a2 a3 a4 a5 a6) (kk : Keeps H H') : J4r C H' p d k a1 a2 a3 a4 a5 a6:=let ⟨dx,e⟩:=h; ⟨dx,kk _ _ e fun zs z=>by cases z⟩
noncomputable def But (p : Addr) (H H' : Hp) : Prop:=∀ a o,a ≠ p → H a = some o → H' a = some o
theorem But.refl (p : Addr) (H : Hp) : But p H H:=fun _ _ _ h=>h
theorem But.at {p : Addr} {H H' : Hp} {o : HO} (b : But p H H') : But p H (upd H' p o):=fun a u n e=>by rw [Jj n]; exact b a u n e
theorem But.new {p l : Addr} {H H' : Hp} {o : HO} (b : But p H H') (hl : H' l = none) : But p H (upd H' l o):=fun a u n e=>by
 have:=b a u n e
 rw [Jj (Jc this hl)]; exact this
structure Dis6 (a1 a2 a3 a4 a5 a6 : Addr) : Prop where
 h12 : a1 ≠ a2
 h13 : a1 ≠ a3
 h14 : a1 ≠ a4
 h15 : a1 ≠ a5
 h16 : a1 ≠ a6
 h23 : a2 ≠ a3
 h24 : a2 ≠ a4
 h25 : a2 ≠ a5
 h26 : a2 ≠ a6
 h34 : a3 ≠ a4
 h35 : a3 ≠ a5
 h36 : a3 ≠ a6
 h45 : a4 ≠ a5
 h46 : a4 ≠ a6
 h56 : a5 ≠ a6
noncomputable def Jah (C : Addr) : Sp:=fun vs H Q _=>∃ p dx a b c d e,vs = [.ref p,a,b,c,d,e] ∧ H p = some (.ins C dx []) ∧ ∀ H',But p H H' → H' p = some (.ins C dx (fP a b c d e)) → Q .non H'
noncomputable def J9M (C : Addr) : Sp:=fun vs H Q _=>∃ p dx d k b1 b2 b3 b4 b5 b6 x1 x2 x3 x4 x5 x6,vs = [.ref p,d,k,.ref b1,.ref b2,.ref b3,.ref b4,.ref b5,.ref b6] ∧ H p = some (.ins C dx []) ∧
 H b1 = some (.lst x1) ∧ H b2 = some (.lst x2) ∧ H b3 = some (.lst x3) ∧ H b4 = some (.lst x4) ∧ H b5 = some (.lst x5) ∧ H b6 = some (.lst x6) ∧
 ∀ H' a1 a2 a3 a4 a5 a6,But p H H' → H' p = some (.ins C dx (fH d k (.ref a1) (.ref a2) (.ref a3) (.ref a4) (.ref a5) (.ref a6))) → H' a1 = some (.lst x1) → H' a2 = some (.lst x2) → H' a3 = some (.lst x3) → H' a4 = some (.lst x4) → H' a5 = some (.lst x5) → H' a6 = some (.lst x6) →
  H a1 = none → H a2 = none → H a3 = none → H a4 = none → H a5 = none → H a6 = none → Dis6 a1 a2 a3 a4 a5 a6 → Q .non H'
noncomputable def rPer (C : Addr) : List V → Hp → VK → Prop:=fun vs H Q=>∃ nm sk m c pa,vs = [T nm,T sk,.int m,.int c,T pa] ∧ ∀ p H',Same H H' → H p = none → J7M C H' p nm sk m c pa → Q (.ref p) H'
noncomputable def rHou (C : Addr) : List V → Hp → VK → Prop:=fun vs H Q=>∃ d k b1 b2 b3 b4 b5 b6 x1 x2 x3 x4 x5 x6,vs = [.int d,T k,.ref b1,.ref b2,.ref b3,.ref b4,.ref b5,.ref b6] ∧
 H b1 = some (.lst x1) ∧ H b2 = some (.lst x2) ∧ H b3 = some (.lst x3) ∧ H b4 = some (.lst x4) ∧ H b5 = some (.lst x5) ∧ H b6 = some (.lst x6) ∧
 ∀ p H' a1 a2 a3 a4 a5 a6,Same H H' → J4r C H' p d k a1 a2 a3 a4 a5 a6 → H' a1 = some (.lst x1) → H' a2 = some (.lst x2) → H' a3 = some (.lst x3) → H' a4 = some (.lst x4) → H' a5 = some (.lst x5) → H' a6 = some (.lst x6) →
  H a1 = none → H a2 = none → H a3 = none → H a4 = none → H a5 = none → H a6 = none → Dis6 a1 a2 a3 a4 a5 a6 → Q (.ref p) H'
theorem J8u {H H' : Hp} {x dx : Addr} {u o : HO} (nx : H x = none) (nd : H dx = none) (b : But x (upd (upd H dx u) x o) H') : Same H H':=fun a v e=>by
 have h1 : a ≠ x:=Jc e nx
 refine b a v h1 ?_
 rw [Jj h1,Jj (Jc e nd)]
 exact e
theorem J3x {H : Hp} {x dx a : Addr} {u o : HO} (h : upd (upd H dx u) x o a = none) : H a = none:=by
 have h1 : a ≠ x:=fun z=>by subst z; rw [Je] at h; cases h
 rw [Jj h1] at h
 have h2 : a ≠ dx:=fun z=>by subst z; rw [Je] at h; cases h
 rw [Jj h2] at h
 exact h
theorem J4R {H : Hp} {x dx a : Addr} {u o v : HO} (nx : H x = none) (nd : H dx = none) (e : H a = some v) : upd (upd H dx u) x o a = some v:=by
 rw [Jj (Jc e nx),Jj (Jc e nd)]; exact e
theorem JdE {C : Addr} : ∀ vs H Q,rPer C vs H Q → ∀ x dx,H x = none → H dx = none → dx ≠ x → Jah C (.ref x :: (vs ++ [])) (upd (upd H dx (.own x)) x (.ins C dx [])) (fun v H2=>v = .non ∧ Q (.ref x) H2) E0:=by
 rintro _ H Q ⟨nm,sk,m,c,pa,rfl,q⟩ x dx nx nd _
 exact ⟨x,dx,_,_,_,_,_,rfl,Je,fun H' b e=>⟨rfl,q x H' (J8u nx nd b) nx ⟨dx,e⟩⟩⟩
theorem Jet {C : Addr} : ∀ vs H Q,rHou C vs H Q → ∀ x dx,H x = none → H dx = none → dx ≠ x → J9M C (.ref x :: (vs ++ [])) (upd (upd H dx (.own x)) x (.ins C dx [])) (fun v H2=>v = .non ∧ Q (.ref x) H2) E0:=by
 rintro _ H Q ⟨d,k,b1,b2,b3,b4,b5,b6,x1,x2,x3,x4,x5,x6,rfl,h1,h2,h3,h4,h5,h6,q⟩ x dx nx nd _
 exact ⟨x,dx,_,_,b1,b2,b3,b4,b5,b6,x1,x2,x3,x4,x5,x6,rfl,Je,J4R nx nd h1,J4R nx nd h2,J4R nx nd h3,J4R nx nd h4,J4R nx nd h5,J4R nx nd h6,
  fun H' a1 a2 a3 a4 a5 a6 b e e1 e2 e3 e4 e5 e6 n1 n2 n3 n4 n5 n6 ds=>⟨rfl,q x H' a1 a2 a3 a4 a5 a6 (J8u nx nd b) ⟨dx,e⟩ e1 e2 e3 e4 e5 e6 (J3x n1) (J3x n2) (J3x n3) (J3x n4) (J3x n5) (J3x n6) ds⟩⟩
noncomputable def J07 (ns : List Int) (k : Int) : Int:=ns.getD k.toNat 0
noncomputable def Jde (K : PySem.W.Frag) : Sp:=fun vs H Q _=>∃ (a : Addr) (ns : List Int) (k : Int),vs = [.ref a,.int k] ∧ SqL K H a (ns.map V.int) ∧ 0 ≤ k ∧ Q (.int (J07 ns k)) H
noncomputable def Jbh : Sp:=fun vs H Q _=>∃ (c m : Int),vs = [.int c,.int m] ∧ 0 ≤ m ∧ m ≤ 500 ∧ ∀ (a : Addr) (H' : Hp) (xs : List Int),Same H H' → H a = none → H' a = some (.lst (xs.map V.int)) → (xs.length : Int) = m → Q (.ref a) H'
noncomputable abbrev abc : List Nat:=[97,98,99,100,101,102,103,104,105,106,107,108,109,110,111,112,113,114,115,116,117,118,119,120,121,122]
noncomputable abbrev ABC : List Nat:=[65,66,67,68,69,70,71,72,73,74,75,76,77,78,79,80,81,82,83,84,85,86,87,88,89,90]
noncomputable def ltr (i : Int) : Nat:=97 + i.toNat
noncomputable def cap (i : Int) : Nat:=65 + i.toNat
theorem JdD (i : Int) (h0 : 0 ≤ i) (h1 : i < 26) : atI abc i = some (ltr i):=by
 obtain ⟨c,h2,h3⟩:=J3p abc i h0 (by show i < 26; exact h1)
 have key : ∀ n : Nat,n < 26 → abc[n]? = some (97 + n):=by decide
 rw [h2]
 rw [key i.toNat (by omega)] at h3
 exact h3.symm
theorem Jg2 (i : Int) (h0 : 0 ≤ i) (h1 : i < 26) : atI ABC i = some (cap i):=by
 obtain ⟨c,h2,h3⟩:=J3p ABC i h0 (by show i < 26; exact h1)
 have key : ∀ n : Nat,n < 26 → ABC[n]? = some (65 + n):=by decide
 rw [h2]
 rw [key i.toNat (by omega)] at h3
 exact h3.symm
noncomputable def J3T (c : Int) : List Nat:=(List.range (1 + c % 4).toNat).map fun (k : Nat)=>cap ((c / 4 + (0 + (k : Int)) * (1 + c / 104 % 6)) % 26)
theorem JbS (c : Int) : 1 ≤ (J3T c).length ∧ (J3T c).length ≤ 4:=by
 unfold J3T
 rw [List.length_map,List.length_range]
 have h0 : 0 ≤ c % 4:=Int.emod_nonneg _ (by decide)
 have h1 : c % 4 < 4:=Int.emod_lt_of_pos _ (by decide)
 omega
theorem JaA (c : Int) : ∀ k ∈ J3T c,k ≠ 45:=by
 intro k hk
 obtain ⟨n,_,rfl⟩:=List.mem_map.mp hk
 unfold cap
 omega
noncomputable def J3i (c : Int) : List Nat:=(List.range (c / 3 % 8).toNat).map fun (k : Nat)=>ltr (c / (16 + 5 * (0 + (k : Int))) % 26)
theorem J8w (c : Int) : (J3i c).length ≤ 7:=by
 unfold J3i
 rw [List.length_map,List.length_range]
 have h1 : c / 3 % 8 < 8:=Int.emod_lt_of_pos _ (by decide)
 omega
noncomputable def J32 (c p : Int) : List Nat:=cutN (J3i c) none (some (c / 7 % ((J3i c).length + 1))) ++ [ltr ((c + p) % 26)] ++ cutN (J3i c) (some (c / 7 % ((J3i c).length + 1))) none
noncomputable def J3n (c p : Int) : List Nat:=if J32 c p = [97,108,108] then [97,108,108,101] else J32 c p
theorem J7P {c p q : Int} (hp : 0 ≤ p ∧ p < 26) (hq : 0 ≤ q ∧ q < 26) (h : J32 c p = J32 c q) : p = q:=by
 unfold J32 at h
 have h1:=List.append_cancel_right h
 have h2:=List.append_cancel_left h1
 have h3 : ltr ((c + p) % 26) = ltr ((c + q) % 26):=by simpa using h2
 unfold ltr at h3
 have a0 : 0 ≤ (c + p) % 26:=Int.emod_nonneg _ (by decide)
 have b0 : 0 ≤ (c + q) % 26:=Int.emod_nonneg _ (by decide)
 omega
theorem JcX {c p q : Int} (hp : 0 ≤ p ∧ p < 26) (hq : 0 ≤ q ∧ q < 26) (h : J3n c p = J3n c q) : p = q:=by
 have hl : ∀ p q : Int,0 ≤ p → J32 c p = [97,108,108] → J32 c q = [97,108,108,101] → False:=fun p q _ e1 e2=>by
  have l1:=congrArg List.length e1
  have l2:=congrArg List.length e2
  unfold J32 at l1 l2
  simp only [List.length_append,List.length_cons,List.length_nil] at l1 l2
  omega
 unfold J3n at h
 by_cases h1 : J32 c p = [97,108,108] <;> by_cases h2 : J32 c q = [97,108,108]
 ·exact J7P hp hq (h1.trans h2.symm)
 ·rw [if_pos h1,if_neg h2] at h
  exact (hl p q hp.1 h1 h.symm).elim
 ·rw [if_neg h1,if_pos h2] at h
  exact (hl q p hq.1 h2 h).elim
 ·rw [if_neg h1,if_neg h2] at h
  exact J7P hp hq h
noncomputable def Jdh : Sp:=fun vs H Q _=>∃ (c : Int),vs = [.int c] ∧ ∀ H',Same H H' → Q (T (J3T c)) H'
noncomputable def JeS : Sp:=fun vs H Q _=>∃ (c p : Int),vs = [.int c,.int p] ∧ ∀ H',Same H H' → Q (T (J3n c p)) H'
noncomputable def onI (g : Int → Nat) : V → V
 | .int i=>T [g i]
 | v=>v
theorem Jaw (n : Nat) (g : Int → Nat) : (((List.range n).map fun (i : Nat)=>V.int (0 + (i : Int))).map (onI g)) = (((List.range n).map fun (i : Nat)=>g (0 + (i : Int))).map fun c=>[c]).map T:=by
 simp only [List.map_map]
 rfl
theorem JeA {ns : List Int} {k : Int} (h0 : 0 ≤ k) (h : k < ns.length) : atI (ns.map V.int) k = some (.int (J07 ns k)):=by
 obtain ⟨z,h1,h2⟩:=J7z ns k h0 h
 unfold J07
 rw [h1,List.getD_eq_getElem?_getD,h2]
 rfl
theorem Jes {ns : List Int} {k : Int} (h : (ns.length : Int) ≤ k) : J07 ns k = 0:=by
 unfold J07
 rw [List.getD_eq_getElem?_getD,List.getElem?_eq_none (by omega)]
 rfl
structure Nd where
 day : Int
 kind : Nat
 least : Int
 most : Int
noncomputable def NdAt : Nd → V → Hp → Prop:=fun n y H=>∃ t,y = .ref t ∧ H t = some (.tup [.int n.day,T [n.kind],.int n.least,.int n.most])
theorem NdAt.keeps (n : Nd) (y : V) (Ha Hb : Hp) (k : Keeps Ha Hb) (h : NdAt n y Ha) : NdAt n y Hb:=let ⟨t,e,h⟩:=h; ⟨t,e,k _ _ h fun zs z=>by cases z⟩
noncomputable def LvT : List Nat × Int → V → Hp → Prop:=fun l y H=>∃ t,y = .ref t ∧ H t = some (.tup [T l.1,.int l.2])
theorem LvT.keeps (n : List Nat × Int) (y : V) (Ha Hb : Hp) (k : Keeps Ha Hb) (h : LvT n y Ha) : LvT n y Hb:=let ⟨t,e,h⟩:=h; ⟨t,e,k _ _ h fun zs z=>by cases z⟩
structure Ps where
 nm : List Nat
 sk : List Nat
 most : Int
 car : Int
 past : List Nat
noncomputable def PsO (C : Addr) : Ps → V → Hp → Prop:=fun n y H=>∃ a,y = .ref a ∧ J7M C H a n.nm n.sk n.most n.car n.past
theorem PsO.keeps {C : Addr} (n : Ps) (y : V) (Ha Hb : Hp) (k : Keeps Ha Hb) (h : PsO C n y Ha) : PsO C n y Hb:=let ⟨a,e,h⟩:=h; ⟨a,e,h.keeps k⟩
noncomputable def PsT : Ps → V → Hp → Prop:=fun n y H=>∃ t,y = .ref t ∧ H t = some (.tup [T n.nm,T n.sk,.int n.most,.int n.car,T n.past])
theorem PsT.keeps (n : Ps) (y : V) (Ha Hb : Hp) (k : Keeps Ha Hb) (h : PsT n y Ha) : PsT n y Hb:=let ⟨t,e,h⟩:=h; ⟨t,e,k _ _ h fun zs z=>by cases z⟩
theorem newl {H : Hp} {l : Addr} {xs : List V} (h : H l = none) : ∃ H',H' = upd H l (.lst xs) ∧ H' l = some (.lst xs) ∧ Same H H':=⟨_,rfl,Je,JF h _⟩
theorem newt {H : Hp} {l : Addr} {xs : List V} (h : H l = none) : ∃ H',H' = upd H l (.tup xs) ∧ H' l = some (.tup xs) ∧ Same H H':=⟨_,rfl,Je,JF h _⟩
theorem JH.keeps {c : Cs} {H H' : Hp} (k : Keeps H H') : ∀ {r : R} {p : Addr},JH c H r p → JH c H' r p
 | .nev _,_,⟨⟨dx,e⟩,l⟩=>⟨⟨dx,k _ _ e fun zs z=>by cases z⟩,l⟩
 | .most _ _ _,_,⟨⟨dx,e⟩,l⟩=>⟨⟨dx,k _ _ e fun zs z=>by cases z⟩,l⟩
 | .least _ _ _,_,⟨⟨dx,e⟩,l⟩=>⟨⟨dx,k _ _ e fun zs z=>by cases z⟩,l⟩
 | .both _ _,_,⟨dx,a,b,e,h1,h2⟩=>⟨dx,a,b,k _ _ e (fun zs z=>by cases z),JH.keeps k h1,JH.keeps k h2⟩
 | .either _ _,_,⟨dx,a,b,e,h1,h2⟩=>⟨dx,a,b,k _ _ e (fun zs z=>by cases z),JH.keeps k h1,JH.keeps k h2⟩
 | .neg _,_,⟨dx,a,e,h1⟩=>⟨dx,a,k _ _ e (fun zs z=>by cases z),JH.keeps k h1⟩
noncomputable abbrev cs6 (J9 Jd J8 Jb J5 Ji _Person _House : Addr) : Cs:=⟨J9,Jd,J8,Jb,J5,Ji⟩
noncomputable abbrev Wd:=List Nat
noncomputable abbrev wOr : Wd:=[111,114]
noncomputable abbrev wAnd : Wd:=[97,110,100]
noncomputable abbrev wNot : Wd:=[110,111,116]
noncomputable abbrev wL : Wd:=[40]
noncomputable abbrev wR : Wd:=[41]
noncomputable abbrev J4F : Wd:=[110,101,118,101,114]
noncomputable abbrev J3K : Wd:=[109,111,115,116]
noncomputable abbrev J1Q : Wd:=[108,101,97,115,116]
noncomputable abbrev wOf : Wd:=[111,102]
noncomputable abbrev wIn : Wd:=[105,110]
noncomputable def JL (wanted : Wd) (i : Nat) (st : Int × Int) (w : Wd) : Int × Int :=
 if w = wL then (st.1,st.2 + 1) else if w = wR then (st.1,st.2 - 1) else if w = wanted ∧ st.2 = 0 then ((i : Int),st.2) else st
noncomputable def lo (wanted : Wd) : Nat → Int × Int → List Wd → Int × Int
 | _,st,[]=>st
 | i,st,w :: r=>lo wanted (i + 1) (JL wanted i st w) r
noncomputable def JJ (ws : List Wd) (wanted : Wd) : Int:=(lo wanted 0 (-1,0) ws).1
theorem J3k (wanted : Wd) : ∀ (a b : List Wd) (i : Nat) (st : Int × Int),lo wanted i st (a ++ b) = lo wanted (i + a.length) (lo wanted i st a) b
 | [],b,i,st=>rfl
 | w :: r,b,i,st=>by
  show lo wanted (i + 1) (JL wanted i st w) (r ++ b) = _
  rw [J3k wanted r b]
  show lo wanted (i + 1 + r.length) _ b = lo wanted (i + (r.length + 1)) _ b
  rw [show i + 1 + r.length = i + (r.length + 1) by omega]
  rfl
noncomputable def isUp (c : Nat) : Bool:=65 ≤ c && c ≤ 90
noncomputable def J54 (c : Nat) : Bool:=isUp c || c == 45 || c == 35 || c == 63
noncomputable def J4E (c : Nat) : Bool:=isUp c || c == 45 || c == 35
noncomputable def J1N (w : Wd) : Bool:=1 ≤ w.length && w.length ≤ 7 && w.all J54
noncomputable def J0l (w : Wd) : Bool:=1 ≤ w.length && w.length ≤ 8 && w.all J4E && decide w.Nodup
noncomputable def fig (lo hi : Nat) (w : Wd) : Option Nat:=match w with
 | [c]=>if 48 + lo ≤ c ∧ c ≤ 48 + hi then some (c - 48) else none
 | _=>none
noncomputable def J5d : List Wd → Option R
 | [a,w]=>if a = J4F ∧ J1N w = true then some (.nev w) else none
 | [a,n,o,m,i,d]=>if o = wOf ∧ i = wIn ∧ J0l m = true then
   match fig 0 7 n,fig 1 7 d with
   | some n,some d=>if a = J3K then some (.most n m d) else if a = J1Q then some (.least n m d) else none
   | _,_=>none
  else none
 | _=>none
inductive Rds : Nat → List Wd → R → Prop where
 | plain {ws r} : J5d ws = some r → Rds 0 ws r
 | neg {ws r} : Rds 0 ws r → Rds 0 (wNot :: ws) (.neg r)
 | br {ws r} : Rds 2 ws r → Rds 0 (wL :: (ws ++ [wR])) r
 | up1 {ws r} : Rds 0 ws r → Rds 1 ws r
 | both {a b x y} : Rds 1 a x → Rds 0 b y → Rds 1 (a ++ wAnd :: b) (.both x y)
 | up2 {ws r} : Rds 1 ws r → Rds 2 ws r
 | either {a b x y} : Rds 2 a x → Rds 1 b y → Rds 2 (a ++ wOr :: b) (.either x y)
noncomputable def rdW : Nat → List Wd → Option R
 | 0,_=>none
 | n + 1,ws =>
  if 0 ≤ JJ ws wOr then
   match rdW n (ws.take (JJ ws wOr).toNat),rdW n (ws.drop ((JJ ws wOr).toNat + 1)) with
   | some x,some y=>some (.either x y)
   | _,_=>none
  else if 0 ≤ JJ ws wAnd then
   match rdW n (ws.take (JJ ws wAnd).toNat),rdW n (ws.drop ((JJ ws wAnd).toNat + 1)) with
   | some x,some y=>some (.both x y)
   | _,_=>none
  else if ws.take 1 = [wNot] then
   match rdW n (ws.drop 1) with
   | some x=>some (.neg x)
   | none=>none
  else if ws.take 1 = [wL] ∧ ws.drop (ws.length - 1) = [wR] then rdW n ((ws.drop 1).take (ws.length - 2))
  else J5d ws
theorem J3F {w x : Wd} (h : J1N w = true) (c : Nat) (hc : c ∈ x) (hs : J54 c = false) : w ≠ x:=by
 rintro rfl
 unfold J1N at h
 have h2:=((Bool.and_eq_true _ _).mp h).2
 have:=List.all_eq_true.mp h2 c hc
 rw [hs] at this
 cases this
theorem J3L {w x : Wd} (h : J0l w = true) (c : Nat) (hc : c ∈ x) (hs : J4E c = false) : w ≠ x:=by
 rintro rfl
 unfold J0l at h
 have h2:=((Bool.and_eq_true _ _).mp ((Bool.and_eq_true _ _).mp h).1).2
 have:=List.all_eq_true.mp h2 c hc
 rw [hs] at this
 cases this
theorem Jem {lo hi : Nat} {w : Wd} {n : Nat} (h : fig lo hi w = some n) (hh : hi ≤ 9) : w ≠ wL ∧ w ≠ wR ∧ w ≠ wOr ∧ w ≠ wAnd ∧ w ≠ wNot:=by
 unfold fig at h
 split at h
 ·rename_i c
  split at h
  ·rename_i hc
   refine ⟨?_,?_,?_,?_,?_⟩ <;> intro e <;> simp at e
   ·omega
   ·omega
  ·cases h
 ·cases h
theorem J23 {ws : List Wd} {r : R} (h : J5d ws = some r) : (∀ w ∈ ws,w ≠ wL ∧ w ≠ wR ∧ w ≠ wOr ∧ w ≠ wAnd ∧ w ≠ wNot) ∧ ws ≠ []:=by
 unfold J5d at h
 split at h
 ·rename_i a w
  split at h
  ·rename_i hh
   obtain ⟨rfl,hw⟩:=hh
   refine ⟨fun v hv=>?_,by simp⟩
   simp only [List.mem_cons,List.not_mem_nil,or_false] at hv
   rcases hv with rfl | rfl
   ·decide
   ·exact ⟨J3F hw 40 (by decide) (by decide),J3F hw 41 (by decide) (by decide),J3F hw 111 (by decide) (by decide),J3F hw 97 (by decide) (by decide),J3F hw 110 (by decide) (by decide)⟩
  ·cases h
 ·rename_i a n o m i d
  split at h
  ·rename_i hh
   obtain ⟨rfl,rfl,hm⟩:=hh
   split at h
   ·rename_i n' d' h1 h2
    have ha : a = J3K ∨ a = J1Q:=by
     split at h
     ·rename_i e; exact .inl e
     ·split at h
      ·rename_i e; exact .inr e
      ·cases h
    refine ⟨fun v hv=>?_,by simp⟩
    simp only [List.mem_cons,List.not_mem_nil,or_false] at hv
    rcases hv with rfl | rfl | rfl | rfl | rfl | rfl
    ·rcases ha with rfl | rfl <;> decide
    ·exact Jem h1 (by decide)
    ·decide
    ·exact ⟨J3L hm 40 (by decide) (by decide),J3L hm 41 (by decide) (by decide),J3L hm 111 (by decide) (by decide),J3L hm 97 (by decide) (by decide),J3L hm 110 (by decide) (by decide)⟩
    ·decide
    ·exact Jem h2 (by decide)
   ·cases h
  ·cases h
 ·cases h
theorem J2s {wanted w : Wd} {i : Nat} {st : Int × Int} (h1 : w ≠ wL) (h2 : w ≠ wR) (h3 : w ≠ wanted ∨ st.2 ≠ 0) : JL wanted i st w = st:=by
 unfold JL
 rw [if_neg h1,if_neg h2,if_neg]
 rintro ⟨a,b⟩
 rcases h3 with h3 | h3
 ·exact h3 a
 ·exact h3 b
theorem J6N {wanted : Wd} : ∀ {ws : List Wd} {i : Nat} {st : Int × Int},(∀ w ∈ ws,w ≠ wL ∧ w ≠ wR ∧ (w ≠ wanted ∨ st.2 ≠ 0)) → lo wanted i st ws = st
 | [],_,_,_=>rfl
 | w :: r,i,st,h=>by
  obtain ⟨a,b,c⟩:=h w List.mem_cons_self
  show lo wanted (i + 1) (JL wanted i st w) r = st
  rw [J2s a b c]
  exact J6N fun v hv=>h v (List.mem_cons_of_mem _ hv)
theorem Jfo {n : Nat} {ws : List Wd} {r : R} (d : Rds n ws r) : ∀ (wanted : Wd) (i : Nat) (f h : Int),0 < h → lo wanted i (f,h) ws = (f,h):=by
 induction d with
 | plain hp =>
  intro wanted i f h hh
  exact J6N fun w hw=>⟨((J23 hp).1 w hw).1,((J23 hp).1 w hw).2.1,.inr (by show h ≠ 0; omega)⟩
 | neg _ ih =>
  intro wanted i f h hh
  show lo wanted (i + 1) (JL wanted i (f,h) wNot) _ = _
  rw [J2s (by decide) (by decide) (.inr (by show h ≠ 0; omega))]
  exact ih wanted _ f h hh
 | br _ ih =>
  intro wanted i f h hh
  show lo wanted (i + 1) (JL wanted i (f,h) wL) _ = _
  have e : JL wanted i (f,h) wL = (f,h + 1):=by unfold JL; rw [if_pos rfl]
  rw [e,J3k,ih wanted (i + 1) f (h + 1) (by omega)]
  rw [lo,lo]
  unfold JL
  rw [if_neg (by decide),if_pos rfl]
  show (f,h + 1 - 1) = (f,h)
  rw [show h + 1 - 1 = h by omega]
 | up1 _ ih=>exact ih
 | both _ _ i1 i2 =>
  intro wanted i f h hh
  rw [J3k,i1 wanted i f h hh]
  show lo wanted _ (JL wanted _ (f,h) wAnd) _ = _
  rw [J2s (by decide) (by decide) (.inr (by show h ≠ 0; omega))]
  exact i2 wanted _ f h hh
 | up2 _ ih=>exact ih
 | either _ _ i1 i2 =>
  intro wanted i f h hh
  rw [J3k,i1 wanted i f h hh]
  show lo wanted _ (JL wanted _ (f,h) wOr) _ = _
  rw [J2s (by decide) (by decide) (.inr (by show h ≠ 0; omega))]
  exact i2 wanted _ f h hh
theorem J47 {n : Nat} {ws : List Wd} {r : R} (d : Rds n ws r) : ∀ (i : Nat) (f : Int),
  (∃ g,lo wOr i (f,0) ws = (g,0)) ∧ (∃ g,lo wAnd i (f,0) ws = (g,0)) ∧ (n ≤ 1 → lo wOr i (f,0) ws = (f,0)) ∧ (n = 0 → lo wAnd i (f,0) ws = (f,0)):=by
 induction d with
 | @plain ws r hp =>
  intro i f
  have a : lo wOr i (f,0) ws = (f,0):=J6N fun w hw=>⟨((J23 hp).1 w hw).1,((J23 hp).1 w hw).2.1,.inl ((J23 hp).1 w hw).2.2.1⟩
  have b : lo wAnd i (f,0) ws = (f,0):=J6N fun w hw=>⟨((J23 hp).1 w hw).1,((J23 hp).1 w hw).2.1,.inl ((J23 hp).1 w hw).2.2.2.1⟩
  exact ⟨⟨_,a⟩,⟨_,b⟩,fun _=>a,fun _=>b⟩
 | @neg ws r _ ih =>
  intro i f
  have a : lo wOr i (f,0) (wNot :: ws) = (f,0):=by
   show lo wOr (i + 1) (JL wOr i (f,0) wNot) ws = _
   rw [J2s (by decide) (by decide) (.inl (by decide))]
   exact (ih (i + 1) f).2.2.1 (by decide)
  have b : lo wAnd i (f,0) (wNot :: ws) = (f,0):=by
   show lo wAnd (i + 1) (JL wAnd i (f,0) wNot) ws = _
   rw [J2s (by decide) (by decide) (.inl (by decide))]
   exact (ih (i + 1) f).2.2.2 rfl
  exact ⟨⟨_,a⟩,⟨_,b⟩,fun _=>a,fun _=>b⟩
 | @br ws r hd _ =>
  intro i f
  have key : ∀ wanted,lo wanted i (f,0) (wL :: (ws ++ [wR])) = (f,0):=fun wanted=>by
   show lo wanted (i + 1) (JL wanted i (f,0) wL) _ = _
   have e : JL wanted i (f,0) wL = (f,1):=by unfold JL; rw [if_pos rfl]; rfl
   rw [e,J3k,Jfo hd wanted (i + 1) f 1 (by decide)]
   rw [lo,lo]
   unfold JL
   rw [if_neg (by decide),if_pos rfl]
   rfl
  exact ⟨⟨_,key _⟩,⟨_,key _⟩,fun _=>key _,fun _=>key _⟩
 | @up1 ws r _ ih =>
  intro i f
  obtain ⟨a,b,c,d⟩:=ih i f
  exact ⟨a,b,fun _=>c (by decide),fun z=>by cases z⟩
 | @both a b x y _ _ i1 i2 =>
  intro i f
  have p : lo wOr i (f,0) (a ++ wAnd :: b) = (f,0):=by
   rw [J3k,(i1 i f).2.2.1 (by decide)]
   show lo wOr _ (JL wOr _ (f,0) wAnd) b = _
   rw [J2s (by decide) (by decide) (.inl (by decide))]
   exact (i2 _ f).2.2.1 (by decide)
  obtain ⟨g,hg⟩:=(i1 i f).2.1
  refine ⟨⟨_,p⟩,⟨((i + a.length : Nat) : Int),?_⟩,fun _=>p,fun z=>by cases z⟩
  rw [J3k,hg]
  show lo wAnd _ (JL wAnd _ (g,0) wAnd) b = _
  have e : JL wAnd (i + a.length) (g,0) wAnd = (((i + a.length : Nat) : Int),0):=by
   unfold JL
   rw [if_neg (by decide),if_neg (by decide),if_pos ⟨rfl,rfl⟩]
  rw [e]
  exact (i2 _ _).2.2.2 rfl
 | @up2 ws r _ ih =>
  intro i f
  obtain ⟨a,b,c,d⟩:=ih i f
  exact ⟨a,b,fun z=>by omega,fun z=>by cases z⟩
 | @either a b x y _ _ i1 i2 =>
  intro i f
  obtain ⟨g,hg⟩:=(i1 i f).1
  obtain ⟨g2,hg2⟩:=(i1 i f).2.1
  refine ⟨⟨((i + a.length : Nat) : Int),?_⟩,?_,fun z=>by omega,fun z=>by cases z⟩
  ·rw [J3k,hg]
   show lo wOr _ (JL wOr _ (g,0) wOr) b = _
   have e : JL wOr (i + a.length) (g,0) wOr = (((i + a.length : Nat) : Int),0):=by
    unfold JL
    rw [if_neg (by decide),if_neg (by decide),if_pos ⟨rfl,rfl⟩]
   rw [e]
   exact (i2 _ _).2.2.1 (by decide)
  ·obtain ⟨g3,hg3⟩:=(i2 (i + a.length + 1) g2).2.1
   refine ⟨g3,?_⟩
   rw [J3k,hg2]
   show lo wAnd _ (JL wAnd _ (g2,0) wOr) b = _
   rw [J2s (by decide) (by decide) (.inl (by decide))]
   exact hg3
theorem Jg7 {a b : List Wd} {x y : R} (h1 : Rds 2 a x) (h2 : Rds 1 b y) : JJ (a ++ wOr :: b) wOr = (a.length : Int):=by
 unfold JJ
 obtain ⟨g,hg⟩:=(J47 h1 0 (-1)).1
 rw [J3k,hg]
 show (lo wOr _ (JL wOr _ (g,0) wOr) b).1 = _
 have e : JL wOr (0 + a.length) (g,0) wOr = (((0 + a.length : Nat) : Int),0):=by
  unfold JL
  rw [if_neg (by decide),if_neg (by decide),if_pos ⟨rfl,rfl⟩]
 rw [e,(J47 h2 _ _).2.2.1 (by decide)]
 show ((0 + a.length : Nat) : Int) = _
 rw [Nat.zero_add]
theorem Jfw {a b : List Wd} {x y : R} (h1 : Rds 1 a x) (h2 : Rds 0 b y) : JJ (a ++ wAnd :: b) wAnd = (a.length : Int):=by
 unfold JJ
 obtain ⟨g,hg⟩:=(J47 h1 0 (-1)).2.1
 rw [J3k,hg]
 show (lo wAnd _ (JL wAnd _ (g,0) wAnd) b).1 = _
 have e : JL wAnd (0 + a.length) (g,0) wAnd = (((0 + a.length : Nat) : Int),0):=by
  unfold JL
  rw [if_neg (by decide),if_neg (by decide),if_pos ⟨rfl,rfl⟩]
 rw [e,(J47 h2 _ _).2.2.2 rfl]
 show ((0 + a.length : Nat) : Int) = _
 rw [Nat.zero_add]
theorem Jca {n : Nat} {ws : List Wd} {r : R} (h : Rds n ws r) (hn : n ≤ 1) : JJ ws wOr = -1:=by unfold JJ; rw [(J47 h 0 (-1)).2.2.1 hn]
theorem JbN {ws : List Wd} {r : R} (h : Rds 0 ws r) : JJ ws wAnd = -1:=by unfold JJ; rw [(J47 h 0 (-1)).2.2.2 rfl]
theorem Rds.pos {n : Nat} {ws : List Wd} {r : R} (d : Rds n ws r) : 0 < ws.length:=by
 induction d with
 | plain hp=>exact List.length_pos_iff.mpr (J23 hp).2
 | neg _ _=>simp
 | br _ _=>simp
 | up1 _ ih=>exact ih
 | both _ _ _ _=>simp; omega
 | up2 _ ih=>exact ih
 | either _ _ _ _=>simp; omega
theorem JeG {n : Nat} {ws : List Wd} {r : R} (d : Rds n ws r) : ∀ m,ws.length ≤ m → rdW m ws = some r:=by
 induction d with
 | @plain ws r hp =>
  intro m hm
  have h1:=J23 hp
  have h2 : Rds 0 ws r:=.plain hp
  cases m with
  | zero=>have:=h2.pos; omega
  | succ m =>
   rw [rdW,Jca h2 (by decide),if_neg (by decide),JbN h2,if_neg (by decide)]
   obtain ⟨w,t,rfl⟩ : ∃ w t,ws = w :: t:=by
    cases ws with
    | nil=>exact absurd rfl h1.2
    | cons w t=>exact ⟨w,t,rfl⟩
   obtain ⟨a,_,_,_,e⟩:=h1.1 w List.mem_cons_self
   rw [if_neg (by simpa using e),if_neg (by intro z; exact a (by simpa using z.1))]
   exact hp
 | @neg ws r hd ih =>
  intro m hm
  have h2 : Rds 0 (wNot :: ws) (.neg r):=.neg hd
  cases m with
  | zero=>simp at hm
  | succ m =>
   rw [rdW,Jca h2 (by decide),if_neg (by decide),JbN h2,if_neg (by decide),if_pos (show List.take 1 (wNot :: ws) = [wNot] from rfl)]
   show (match rdW m ws with | some x=>some (R.neg x) | none=>none) = _
   rw [ih m (by simpa using hm)]
 | @br ws r hd ih =>
  intro m hm
  have h2 : Rds 0 (wL :: (ws ++ [wR])) r:=.br hd
  cases m with
  | zero=>simp at hm
  | succ m =>
   rw [rdW,Jca h2 (by decide),if_neg (by decide),JbN h2,if_neg (by decide),if_neg (by simp),if_pos]
   ·have e : ((wL :: (ws ++ [wR])).drop 1).take ((wL :: (ws ++ [wR])).length - 2) = ws:=by
     simp
    rw [e]
    exact ih m (by simp at hm; omega)
   ·refine ⟨rfl,?_⟩
    simp
 | @up1 ws r _ ih=>exact ih
 | @both a b x y h1 h2 i1 i2 =>
  intro m hm
  have h3 : Rds 1 (a ++ wAnd :: b) (.both x y):=.both h1 h2
  cases m with
  | zero=>simp at hm
  | succ m =>
   have hl : a.length + (b.length + 1) ≤ m + 1:=by simpa using hm
   rw [rdW,Jca h3 (by decide),if_neg (by decide),Jfw h1 h2,if_pos (by omega)]
   have e1 : (a ++ wAnd :: b).take ((a.length : Int).toNat) = a:=by simp
   have e2 : (a ++ wAnd :: b).drop ((a.length : Int).toNat + 1) = b:=by
    rw [Int.toNat_natCast,← List.drop_drop]
    simp
   rw [e1,e2,i1 m (by omega),i2 m (by omega)]
 | @up2 ws r _ ih=>exact ih
 | @either a b x y h1 h2 i1 i2 =>
  intro m hm
  cases m with
  | zero=>simp at hm
  | succ m =>
   have hl : a.length + (b.length + 1) ≤ m + 1:=by simpa using hm
   rw [rdW,Jg7 h1 h2,if_pos (by omega)]
   have e1 : (a ++ wOr :: b).take ((a.length : Int).toNat) = a:=by simp
   have e2 : (a ++ wOr :: b).drop ((a.length : Int).toNat + 1) = b:=by
    rw [Int.toNat_natCast,← List.drop_drop]
    simp
   rw [e1,e2,i1 m (by omega),i2 m (by omega)]
noncomputable abbrev sgM : Wd:=[65,66,67,68,69,70,71,72,73,74,75,76,77,78,79,80,81,82,83,84,85,86,87,88,89,90,45,35]
noncomputable abbrev sgW : Wd:=[65,66,67,68,69,70,71,72,73,74,75,76,77,78,79,80,81,82,83,84,85,86,87,88,89,90,45,35,63]
noncomputable abbrev fgN : Wd:=[48,49,50,51,52,53,54,55]
noncomputable abbrev fgD : Wd:=[49,50,51,52,53,54,55]
noncomputable def R.sz : R → Nat
 | .nev _=>1
 | .most _ _ _=>1
 | .least _ _ _=>1
 | .both l r=>l.sz + r.sz + 1
 | .either l r=>l.sz + r.sz + 1
 | .neg i=>i.sz + 1
theorem R.sz_pos : ∀ r : R,1 ≤ r.sz
 | .nev _=>Nat.le_refl _
 | .most _ _ _=>Nat.le_refl _
 | .least _ _ _=>Nat.le_refl _
 | .both _ _=>Nat.le_add_left _ _
 | .either _ _=>Nat.le_add_left _ _
 | .neg _=>Nat.le_add_left _ _
noncomputable def R.lvl : R → Nat
 | .both _ _=>1
 | .either _ _=>2
 | _=>0
theorem R.lvl2 : ∀ r : R,r.lvl ≤ 2
 | .nev _=>Nat.zero_le _
 | .most _ _ _=>Nat.zero_le _
 | .least _ _ _=>Nat.zero_le _
 | .both _ _=>Nat.le_succ 1
 | .either _ _=>Nat.le_refl 2
 | .neg _=>Nat.zero_le _
noncomputable def cnT (w : List Nat) (n : Int) (m : List Nat) (d : Int) : List Nat:=w ++ [32] ++ [48 + n.toNat] ++ [32,111,102,32] ++ m ++ [32,105,110,32] ++ [48 + d.toNat]
noncomputable def brT (b : Bool) (t : List Nat) : List Nat:=if b = true then [40,32] ++ t ++ [32,41] else t
noncomputable def R.tx : R → List Nat
 | .nev w=>[110,101,118,101,114,32] ++ w
 | .most n m d=>cnT [109,111,115,116] n m d
 | .least n m d=>cnT [108,101,97,115,116] n m d
 | .both l r=>brT (decide (1 < l.lvl)) l.tx ++ [32,97,110,100,32] ++ brT (decide (0 < r.lvl)) r.tx
 | .either l r=>brT (decide (2 < l.lvl)) l.tx ++ [32,111,114,32] ++ brT (decide (1 < r.lvl)) r.tx
 | .neg i=>[110,111,116,32] ++ brT (decide (0 < i.lvl)) i.tx
noncomputable def R.ok : R → Prop
 | .nev w=>J1N w = true
 | .most n m d=>(0 ≤ n ∧ n ≤ 7) ∧ (1 ≤ d ∧ d ≤ 7) ∧ J0l m = true
 | .least n m d=>(0 ≤ n ∧ n ≤ 7) ∧ (1 ≤ d ∧ d ≤ 7) ∧ J0l m = true
 | .both l r=>l.ok ∧ r.ok
 | .either l r=>l.ok ∧ r.ok
 | .neg i=>i.ok
theorem J67 {w : Wd} (h : J1N w = true) : 1 ≤ w.length ∧ w.length ≤ 7:=by
 unfold J1N at h
 simp only [Bool.and_eq_true,decide_eq_true_eq] at h
 exact h.1
theorem J3y {w : Wd} (h : J0l w = true) : 1 ≤ w.length ∧ w.length ≤ 8:=by
 unfold J0l at h
 simp only [Bool.and_eq_true,decide_eq_true_eq] at h
 exact h.1.1
theorem J1d (a b : List Nat) : Jh 32 (a ++ 32 :: b) = Jh 32 a ++ Jh 32 b:=by
 induction a with
 | nil=>rfl
 | cons x r ih =>
  show Jh 32 (x :: (r ++ 32 :: b)) = Jh 32 (x :: r) ++ Jh 32 b
  by_cases e : x = 32
  ·rw [Jh,if_pos e,ih,Jh,if_pos e]
   rfl
  ·rw [Jh,if_neg e,ih,Jh,if_neg e]
   obtain ⟨h,t,eq⟩:=J0z 32 r
   rw [eq]
   rfl
theorem J36 {w : List Nat} (h : 32 ∉ w) : Jh 32 w = [w]:=by
 induction w with
 | nil=>rfl
 | cons x r ih =>
  rw [Jh,if_neg (fun e=>h (by rw [e]; exact List.mem_cons_self)),ih (fun z=>h (List.mem_cons_of_mem _ z))]
noncomputable def wcN (t : List Nat) : Nat:=(Jh 32 t).length
theorem Jay {w : Wd} (h : J1N w = true) : 32 ∉ w:=fun z=>J3F h 32 z (by decide) rfl
theorem J5D {w : Wd} (h : J0l w = true) : 32 ∉ w:=fun z=>J3L h 32 z (by decide) rfl
theorem J9E {a m : List Nat} {n d : Int} (ha : 32 ∉ a) (hm : 32 ∉ m) : Jh 32 (cnT a n m d) = [a,[48 + n.toNat],wOf,m,wIn,[48 + d.toNat]]:=by
 have e : cnT a n m d = a ++ 32 :: ([48 + n.toNat] ++ 32 :: ([111,102] ++ 32 :: (m ++ 32 :: ([105,110] ++ 32 :: [48 + d.toNat])))):=by
  unfold cnT
  simp [List.append_assoc]
 have one : ∀ k : Nat,32 ∉ [48 + k]:=fun k z=>by
  have:=List.mem_singleton.mp z
  omega
 rw [e,J1d,J1d,J1d,J1d,J1d,J36 ha,J36 (one _),J36 (w:=[111,102]) (by decide),J36 hm,J36 (w:=[105,110]) (by decide),J36 (one _)]
 rfl
theorem J5G (t : List Nat) : Jh 32 ([110,111,116,32] ++ t) = wNot :: Jh 32 t:=by
 rw [show [110,111,116,32] ++ t = [110,111,116] ++ 32 :: t from rfl,J1d]
 rfl
theorem J7F (t : List Nat) : Jh 32 ([40,32] ++ t ++ [32,41]) = wL :: (Jh 32 t ++ [wR]):=by
 rw [show [40,32] ++ t ++ [32,41] = [40] ++ 32 :: (t ++ 32 :: [41]) by simp,J1d,J1d]
 rfl
theorem J5H (a b : List Nat) : Jh 32 (a ++ [32,97,110,100,32] ++ b) = Jh 32 a ++ wAnd :: Jh 32 b:=by
 rw [show a ++ [32,97,110,100,32] ++ b = a ++ 32 :: ([97,110,100] ++ 32 :: b) by simp,J1d,J1d]
 rfl
theorem J7v (a b : List Nat) : Jh 32 (a ++ [32,111,114,32] ++ b) = Jh 32 a ++ wOr :: Jh 32 b:=by
 rw [show a ++ [32,111,114,32] ++ b = a ++ 32 :: ([111,114] ++ 32 :: b) by simp,J1d,J1d]
 rfl
theorem Rds.up {n m : Nat} {ws : List Wd} {r : R} (h : Rds n ws r) (h1 : n ≤ m) (h2 : m ≤ 2) : Rds m ws r:=by
 have : (n = 0 ∨ n = 1 ∨ n = 2) ∧ (m = 0 ∨ m = 1 ∨ m = 2):=by omega
 obtain ⟨rfl | rfl | rfl,rfl | rfl | rfl⟩:=this
 ·exact h
 ·exact .up1 h
 ·exact .up2 (.up1 h)
 ·omega
 ·exact h
 ·exact .up2 h
 ·omega
 ·omega
 ·exact h
theorem JgK {w : Wd} (h : J1N w = true) : Rds 0 (Jh 32 ([110,101,118,101,114,32] ++ w)) (.nev w):=by
 rw [show [110,101,118,101,114,32] ++ w = [110,101,118,101,114] ++ 32 :: w from rfl,J1d,J36 (w:=[110,101,118,101,114]) (by decide),J36 (Jay h)]
 refine .plain ?_
 show (if J4F = J4F ∧ J1N w = true then some (R.nev w) else none) = _
 rw [if_pos ⟨rfl,h⟩]
theorem J9w {lo hi : Nat} {n : Int} (h0 : (lo : Int) ≤ n) (h1 : n ≤ (hi : Int)) : fig lo hi [48 + n.toNat] = some n.toNat:=by
 show (if 48 + lo ≤ 48 + n.toNat ∧ 48 + n.toNat ≤ 48 + hi then some (48 + n.toNat - 48) else none) = _
 rw [if_pos ⟨by omega,by omega⟩,show 48 + n.toNat - 48 = n.toNat by omega]
theorem JfE {n d : Int} {m : Wd} (hn : 0 ≤ n ∧ n ≤ 7) (hd : 1 ≤ d ∧ d ≤ 7) (hm : J0l m = true) : Rds 0 (Jh 32 (cnT [109,111,115,116] n m d)) (.most n m d):=by
 rw [J9E (by decide) (J5D hm)]
 refine .plain ?_
 show (if wOf = wOf ∧ wIn = wIn ∧ J0l m = true then
   match fig 0 7 [48 + n.toNat],fig 1 7 [48 + d.toNat] with
   | some n,some d=>if J3K = J3K then some (R.most n m d) else if J3K = J1Q then some (.least n m d) else none
   | _,_=>none
  else none) = _
 rw [if_pos ⟨rfl,rfl,hm⟩,J9w (lo:=0) (hi:=7) (by omega) (by omega),J9w (lo:=1) (hi:=7) (by omega) (by omega)]
 show (if J3K = J3K then some (R.most (n.toNat : Int) m (d.toNat : Int)) else _) = _
 rw [if_pos rfl,show ((n.toNat : Nat) : Int) = n by omega,show ((d.toNat : Nat) : Int) = d by omega]
theorem Jez {n d : Int} {m : Wd} (hn : 0 ≤ n ∧ n ≤ 7) (hd : 1 ≤ d ∧ d ≤ 7) (hm : J0l m = true) : Rds 0 (Jh 32 (cnT [108,101,97,115,116] n m d)) (.least n m d):=by
 rw [J9E (by decide) (J5D hm)]
 refine .plain ?_
 show (if wOf = wOf ∧ wIn = wIn ∧ J0l m = true then
   match fig 0 7 [48 + n.toNat],fig 1 7 [48 + d.toNat] with
   | some n,some d=>if J1Q = J3K then some (R.most n m d) else if J1Q = J1Q then some (.least n m d) else none
   | _,_=>none
  else none) = _
 rw [if_pos ⟨rfl,rfl,hm⟩,J9w (lo:=0) (hi:=7) (by omega) (by omega),J9w (lo:=1) (hi:=7) (by omega) (by omega)]
 show (if J1Q = J3K then _ else if J1Q = J1Q then some (R.least (n.toNat : Int) m (d.toNat : Int)) else _) = _
 rw [if_neg (by decide),if_pos rfl,show ((n.toNat : Nat) : Int) = n by omega,show ((d.toNat : Nat) : Int) = d by omega]
structure TxW (h : Nat) (r : R) (t : List Nat) : Prop where
 rd : Rds h (Jh 32 t) r
 ln : t.length ≤ 32 * r.sz + 4
 wc : wcN (brT (decide (h < r.lvl)) r.tx) ≤ wcN t
structure TxA (r : R) (t : List Nat) : Prop where
 rd : Rds r.lvl (Jh 32 t) r
 ln : t.length ≤ 32 * r.sz
 wc : wcN r.tx ≤ wcN t
theorem JfJ (t : List Nat) : wcN ([40,32] ++ t ++ [32,41]) = wcN t + 2:=by
 unfold wcN
 rw [J7F]
 simp
theorem JbX (b : Bool) (t : List Nat) : wcN (brT b t) = if b = true then wcN t + 2 else wcN t:=by
 unfold brT
 cases b
 ·rfl
 ·exact JfJ t
theorem J6Q (b : Bool) (t : List Nat) : (brT b t).length ≤ t.length + 4:=by
 unfold brT
 cases b
 ·simp
 ·simp
theorem TxA.br {r : R} {t : List Nat} (x : TxA r t) (h : Nat) (h2 : h ≤ 2) : TxW h r ([40,32] ++ t ++ [32,41]):=by
 refine ⟨?_,?_,?_⟩
 ·rw [J7F]
  exact (Rds.br (x.rd.up (R.lvl2 r) (Nat.le_refl _))).up (Nat.zero_le _) h2
 ·have:=x.ln
  simp
  omega
 ·have:=x.wc
  rw [JfJ,JbX]
  split <;> omega
theorem TxA.in {r : R} {t : List Nat} (x : TxA r t) {h : Nat} (h2 : h ≤ 2) (hl : r.lvl ≤ h) : TxW h r t:=by
 refine ⟨x.rd.up hl h2,by have:=x.ln; omega,?_⟩
 rw [JbX,decide_eq_false (by omega),if_neg Bool.false_ne_true]
 exact x.wc
theorem JgC {w : Wd} (h : J1N w = true) : TxA (.nev w) ([110,101,118,101,114,32] ++ w):=by
 refine ⟨JgK h,?_,Nat.le_refl _⟩
 have:=J67 h
 rw [List.length_append]
 show 6 + w.length ≤ 32 * 1
 omega
theorem Jek (a m : List Nat) (n d : Int) : (cnT a n m d).length = a.length + m.length + 11:=by
 unfold cnT
 simp
 omega
theorem Jfe {n d : Int} {m : Wd} (hn : 0 ≤ n ∧ n ≤ 7) (hd : 1 ≤ d ∧ d ≤ 7) (hm : J0l m = true) : TxA (.most n m d) (cnT [109,111,115,116] n m d):=by
 refine ⟨JfE hn hd hm,?_,Nat.le_refl _⟩
 have:=J3y hm
 rw [Jek]
 show 4 + m.length + 11 ≤ 32 * 1
 omega
theorem JdF {n d : Int} {m : Wd} (hn : 0 ≤ n ∧ n ≤ 7) (hd : 1 ≤ d ∧ d ≤ 7) (hm : J0l m = true) : TxA (.least n m d) (cnT [108,101,97,115,116] n m d):=by
 refine ⟨Jez hn hd hm,?_,Nat.le_refl _⟩
 have:=J3y hm
 rw [Jek]
 show 5 + m.length + 11 ≤ 32 * 1
 omega
theorem Je4 {i : R} {t : List Nat} (x : TxW 0 i t) : TxA (.neg i) ([110,111,116,32] ++ t):=by
 refine ⟨?_,?_,?_⟩
 ·rw [J5G]
  exact .neg x.rd
 ·have:=x.ln
  rw [List.length_append]
  show 4 + t.length ≤ 32 * (i.sz + 1)
  omega
 ·have:=x.wc
  unfold wcN at this ⊢
  show (Jh 32 ([110,111,116,32] ++ brT (decide (0 < i.lvl)) i.tx)).length ≤ _
  rw [J5G,J5G,List.length_cons,List.length_cons]
  omega
theorem Jc9 {l r : R} {a b : List Nat} (x : TxW 1 l a) (y : TxW 0 r b) : TxA (.both l r) (a ++ [32,97,110,100,32] ++ b):=by
 refine ⟨?_,?_,?_⟩
 ·rw [J5H]
  exact .both x.rd y.rd
 ·have:=x.ln
  have:=y.ln
  rw [List.length_append,List.length_append]
  show a.length + 5 + b.length ≤ 32 * (l.sz + r.sz + 1)
  omega
 ·have:=x.wc
  have:=y.wc
  unfold wcN at *
  show (Jh 32 (brT (decide (1 < l.lvl)) l.tx ++ [32,97,110,100,32] ++ brT (decide (0 < r.lvl)) r.tx)).length ≤ _
  rw [J5H,J5H,List.length_append,List.length_append,List.length_cons,List.length_cons]
  omega
theorem J8k {l r : R} {a b : List Nat} (x : TxW 2 l a) (y : TxW 1 r b) : TxA (.either l r) (a ++ [32,111,114,32] ++ b):=by
 refine ⟨?_,?_,?_⟩
 ·rw [J7v]
  exact .either x.rd y.rd
 ·have:=x.ln
  have:=y.ln
  rw [List.length_append,List.length_append]
  show a.length + 4 + b.length ≤ 32 * (l.sz + r.sz + 1)
  omega
 ·have:=x.wc
  have:=y.wc
  unfold wcN at *
  show (Jh 32 (brT (decide (2 < l.lvl)) l.tx ++ [32,111,114,32] ++ brT (decide (1 < r.lvl)) r.tx)).length ≤ _
  rw [J7v,J7v,List.length_append,List.length_append,List.length_cons,List.length_cons]
  omega
theorem TxA.wt {r : R} {t : List Nat} (x : TxA r t) (h : Nat) (h2 : h ≤ 2) : TxW h r (brT (decide (h < r.lvl)) t):=by
 unfold brT
 by_cases e : h < r.lvl
 ·rw [decide_eq_true e,if_pos rfl]
  exact x.br h h2
 ·rw [decide_eq_false e,if_neg Bool.false_ne_true]
  exact x.in h2 (by omega)
theorem R.tx_ok : ∀ {r : R},r.ok → TxA r r.tx
 | .nev _,h=>JgC h
 | .most _ _ _,h=>Jfe h.1 h.2.1 h.2.2
 | .least _ _ _,h=>JdF h.1 h.2.1 h.2.2
 | .both _ _,h=>Jc9 ((R.tx_ok h.1).wt 1 (by decide)) ((R.tx_ok h.2).wt 0 (by decide))
 | .either _ _,h=>J8k ((R.tx_ok h.1).wt 2 (by decide)) ((R.tx_ok h.2).wt 1 (by decide))
 | .neg i,h=>Je4 ((R.tx_ok (r:=i) h).wt 0 (by decide))
theorem Jev {w : Wd} (h1 : 1 ≤ w.length) (h2 : w.length ≤ 7) (h3 : ∀ c ∈ w,J54 c = true) : J1N w = true:=by
 unfold J1N
 rw [decide_eq_true h1,decide_eq_true h2,List.all_eq_true.mpr h3]
 rfl
theorem JaP {w : Wd} (h1 : 1 ≤ w.length) (h2 : w.length ≤ 8) (h3 : ∀ c ∈ w,J4E c = true) (h4 : w.Nodup) : J0l w = true:=by
 unfold J0l
 rw [decide_eq_true h1,decide_eq_true h2,List.all_eq_true.mpr h3,decide_eq_true h4]
 rfl
theorem J5I (c : Int) : (J3T c).Nodup:=by
 unfold J3T
 rw [List.nodup_iff_pairwise_ne,List.pairwise_map]
 have h0 : 0 ≤ c % 4:=Int.emod_nonneg _ (by decide)
 have h1 : c % 4 < 4:=Int.emod_lt_of_pos _ (by decide)
 refine List.Pairwise.imp_of_mem ?_ (List.pairwise_lt_range (n:=(1 + c % 4).toNat))
 intro a b ha hb hab e
 have ha:=List.mem_range.mp ha
 have hb:=List.mem_range.mp hb
 unfold cap at e
 generalize hs : 1 + c / 104 % 6 = s at e
 have s0 : 1 ≤ s:=by omega
 have s1 : s ≤ 6:=by omega
 have a0 : 0 ≤ (c / 4 + (0 + (a : Int)) * s) % 26:=Int.emod_nonneg _ (by decide)
 have b0 : 0 ≤ (c / 4 + (0 + (b : Int)) * s) % 26:=Int.emod_nonneg _ (by decide)
 have e' : (c / 4 + (0 + (a : Int)) * s) % 26 = (c / 4 + (0 + (b : Int)) * s) % 26:=by omega
 have ab : a < 4 ∧ b < 4:=by omega
 obtain ⟨k,hk⟩ : ∃ k : Nat,b = a + k ∧ 1 ≤ k ∧ k ≤ 3:=⟨b - a,by omega,by omega,by omega⟩
 obtain ⟨rfl,k1,k3⟩:=hk
 have ex : (0 + ((a + k : Nat) : Int)) * s = (0 + (a : Int)) * s + (k : Int) * s:=by rw [Int.zero_add,Int.zero_add,Int.natCast_add,Int.add_mul]
 rw [ex] at e'
 generalize (0 + (a : Int)) * s = y at e'
 have kk : k = 1 ∨ k = 2 ∨ k = 3:=by omega
 rcases kk with rfl | rfl | rfl <;> omega
noncomputable abbrev wAll : List Nat:=[97,108,108]
noncomputable abbrev J7T : List Nat:=[100,97,121,115]
noncomputable abbrev J5c : List Nat:=[107,105,110,100,115]
noncomputable abbrev J7w : List Nat:=[110,101,101,100]
noncomputable abbrev J4m : List Nat:=[112,101,114,115,111,110]
noncomputable abbrev J59 : List Nat:=[108,101,97,118,101]
noncomputable abbrev J7B : List Nat:=[119,105,115,104]
noncomputable abbrev J2M : List Nat:=[114,117,108,101]
noncomputable abbrev JeE : List Nat:=[97,112,97,114,116]
noncomputable abbrev JfN : List Nat:=[119,105,116,104]
structure Ws where
 nm : List Nat
 day : Int
 ms : List Nat
structure Pq where
 wd : List Nat
 one : List Nat
 two : List Nat
structure Rt where
 nm : List Nat
 r : R
 tx : List Nat
structure TxR (r : R) (t : List Nat) : Prop where
 ok : r.ok
 sz : r.sz ≤ 9
 rd : rdW 60 (Jh 32 t) = some r
 ln : t.length ≤ 300
 wc : (Jh 32 t).length ≤ 60
 nb : 10 ∉ t
structure NdG (d : Int) (ks : List Nat) (n : Nd) : Prop where
 d0 : 0 ≤ n.day
 d1 : n.day < d
 k : n.kind ∈ ks
 l0 : 0 ≤ n.least
 l1 : n.least ≤ n.most
 h : n.most ≤ 8
noncomputable def ndLt (ks : List Nat) (a b : Nd) : Prop:=a.day < b.day ∨ (a.day = b.day ∧ ks.idxOf a.kind < ks.idxOf b.kind)
structure PsG (ks : List Nat) (n : Ps) : Prop where
 n0 : 1 ≤ n.nm.length
 n1 : n.nm.length ≤ 8
 ns : ∀ c ∈ n.nm,c ∈ abc
 na : n.nm ≠ wAll
 sk : ∀ c ∈ n.sk,c ∈ ks
 sn : n.sk.Nodup
 m0 : 0 ≤ n.most
 m1 : n.most ≤ 14
 c0 : 0 ≤ n.car
 c1 : n.car < 10 ^ 40
 p1 : n.past.length ≤ 6
 pk : ∀ c ∈ n.past,c ∈ ks ++ [45]
structure LvG (d : Int) (nms : List (List Nat)) (l : List Nat × Int) : Prop where
 nm : l.1 ∈ nms
 d0 : 0 ≤ l.2
 d1 : l.2 < d
structure WsG (d : Int) (ks : List Nat) (nms : List (List Nat)) (w : Ws) : Prop where
 nm : w.nm ∈ nms
 d0 : 0 ≤ w.day
 d1 : w.day < d
 m0 : 1 ≤ w.ms.length
 ms : ∀ c ∈ w.ms,c ∈ ks ++ [45]
 mn : w.ms.Nodup
structure RtG (nms : List (List Nat)) (a : Rt) : Prop where
 nm : a.nm = wAll ∨ a.nm ∈ nms
 tx : TxR a.r a.tx
structure PqG (nms : List (List Nat)) (p : Pq) : Prop where
 wd : p.wd = JeE ∨ p.wd = JfN
 one : p.one ∈ nms
 two : p.two ∈ nms
 ne : p.one ≠ p.two
structure Hs where
 d : Int
 ks : List Nat
 nds : List Nd
 ps : List Ps
 ls : List (List Nat × Int)
 ws : List Ws
 rts : List Rt
 prs : List Pq
noncomputable def Hs.nms (h : Hs) : List (List Nat):=h.ps.map (·.nm)
structure HsB (h : Hs) : Prop where
 d0 : 1 ≤ h.d
 d1 : h.d ≤ 14
 k0 : 1 ≤ h.ks.length
 k1 : h.ks.length ≤ 4
 kc : ∀ c ∈ h.ks,c ∈ ABC
 kn : h.ks.Nodup
 nl : h.nds.length ≤ 100
 pl : h.ps.length ≤ 8
 ll : h.ls.length ≤ 60
 wl : h.ws.length ≤ 60
 rl : h.rts.length ≤ 8
 ql : h.prs.length ≤ 8
 pg : ∀ n ∈ h.ps,PsG h.ks n
structure HsG (h : Hs) : Prop where
 b : HsB h
 ng : ∀ n ∈ h.nds,NdG h.d h.ks n
 nr : h.nds.Pairwise (ndLt h.ks)
 pn : h.nms.Nodup
 lg : ∀ l ∈ h.ls,LvG h.d h.nms l
 wg : ∀ w ∈ h.ws,WsG h.d h.ks h.nms w
 rg : ∀ a ∈ h.rts,RtG h.nms a
 qg : ∀ p ∈ h.prs,PqG h.nms p
inductive Rw where
 | nd (n : Nd)
 | ps (n : Ps)
 | lv (l : List Nat × Int)
 | ws (w : Ws)
 | rt (a : Rt)
 | pq (p : Pq)
noncomputable def dotF (w : List Nat) : List Nat:=if w = [] then [46] else w
noncomputable def Rw.wds : Rw → List (List Nat)
 | .nd n=>[J7w,numN n.day.toNat,[n.kind],numN n.least.toNat,numN n.most.toNat]
 | .ps n=>[J4m,n.nm,dotF n.sk,numN n.most.toNat,numN n.car.toNat,dotF n.past]
 | .lv l=>[J59,l.1,numN l.2.toNat]
 | .ws w=>[J7B,w.nm,numN w.day.toNat,w.ms]
 | .rt a=>J2M :: a.nm :: Jh 32 a.tx
 | .pq p=>[p.wd,p.one,p.two]
noncomputable def Rw.plc : Rw → Int
 | .nd _=>0
 | .ps _=>1
 | .lv _=>2
 | .ws _=>3
 | .rt _=>4
 | .pq _=>5
noncomputable def Hs.put (h : Hs) : Rw → Hs
 | .nd n=>{ h with nds:=h.nds ++ [n] }
 | .ps n=>{ h with ps:=h.ps ++ [n] }
 | .lv l=>{ h with ls:=h.ls ++ [l] }
 | .ws w=>{ h with ws:=h.ws ++ [w] }
 | .rt a=>{ h with rts:=h.rts ++ [a] }
 | .pq p=>{ h with prs:=h.prs ++ [p] }
noncomputable def Hs.puts (h : Hs) : List Rw → Hs
 | []=>h
 | r :: rs=>(h.put r).puts rs
noncomputable def Hs.bare (h : Hs) : Hs:=⟨h.d,h.ks,[],[],[],[],[],[]⟩
noncomputable def J2Q (h : Hs) : List Rw:=h.nds.map .nd ++ (h.ps.map .ps ++ (h.ls.map .lv ++ (h.ws.map .ws ++ (h.rts.map .rt ++ h.prs.map .pq))))
noncomputable def JN (h : Hs) : List (List (List Nat)):=[J7T,numN h.d.toNat] :: [J5c,h.ks] :: (J2Q h).map Rw.wds
noncomputable def JaU (h : Hs) : Rw → Prop
 | .nd n=>NdG h.d h.ks n ∧ (∀ m ∈ h.nds,m.kind ∈ h.ks) ∧ (∀ m,h.nds.getLast? = some m → ndLt h.ks m n) ∧ h.nds.length < 100
 | .ps n=>PsG h.ks n ∧ h.ps.length < 8 ∧ n.nm ∉ h.nms
 | .lv l=>LvG h.d h.nms l ∧ h.ls.length < 60
 | .ws w=>WsG h.d h.ks h.nms w ∧ h.ws.length < 60
 | .rt a=>RtG h.nms a ∧ h.rts.length < 8
 | .pq p=>PqG h.nms p ∧ h.prs.length < 8
noncomputable def J3m (h : Hs) (lat : Int) : List Rw → Prop
 | []=>True
 | r :: rs=>HsB h ∧ JaU h r ∧ lat ≤ r.plc ∧ J3m (h.put r) r.plc rs
theorem HsB.of {h h' : Hs} (g : HsB h) (ed : h'.d = h.d) (ek : h'.ks = h.ks) (a1 : h'.nds.length ≤ h.nds.length) (a2 : h'.ps.length ≤ h.ps.length) (a2' : ∀ n ∈ h'.ps,n ∈ h.ps) (a3 : h'.ls.length ≤ h.ls.length) (a4 : h'.ws.length ≤ h.ws.length) (a5 : h'.rts.length ≤ h.rts.length) (a6 : h'.prs.length ≤ h.prs.length) : HsB h':=by
 obtain ⟨q1,q2,q3,q4,q5,q6,q7,q8,q9,q10,q11,q12,q13⟩:=g
 refine ⟨by rw [ed]; exact q1,by rw [ed]; exact q2,by rw [ek]; exact q3,by rw [ek]; exact q4,by rw [ek]; exact q5,by rw [ek]; exact q6,by omega,by omega,by omega,by omega,by omega,by omega,fun n hn=>by rw [ek]; exact q13 n (a2' n hn)⟩
section
variable {h : Hs}
theorem JdN (g : HsG h) : ∀ (suf pre : List Nd) (rest : List Rw),pre ++ suf = h.nds → J3m { h.bare with nds:=h.nds } 0 rest → ∀ lat : Int,lat ≤ 0 → (suf = [] → lat = 0) → J3m { h.bare with nds:=pre } lat (suf.map .nd ++ rest)
 | [],pre,rest,e,hr,lat,l0,l1=>by
  rw [List.append_nil] at e
  rw [e,l1 rfl]
  exact hr
 | n :: suf,pre,rest,e,hr,lat,l0,_=>by
  have hm : ∀ m ∈ pre ++ n :: suf,NdG h.d h.ks m:=by rw [e]; exact g.ng
  have hp:=g.nr
  rw [← e] at hp
  have hl : pre.length + (suf.length + 1) = h.nds.length:=by rw [← e]; simp
  refine ⟨g.b.of rfl rfl (by show pre.length ≤ _; omega) (Nat.zero_le _) (fun n hn=>absurd hn List.not_mem_nil) (Nat.zero_le _) (Nat.zero_le _) (Nat.zero_le _) (Nat.zero_le _),⟨hm n (by simp),fun m hx=>(hm m (List.mem_append_left _ hx)).k,fun m hx=>?_,?_⟩,l0,?_⟩
  ·exact (List.pairwise_append.mp hp).2.2 m (List.mem_of_getLast? hx) n List.mem_cons_self
  ·have:=g.b.nl
   show pre.length < 100
   omega
  ·have:=JdN g suf (pre ++ [n]) rest (by rw [List.append_assoc]; exact e) hr 0 (Int.le_refl _) (fun _=>rfl)
   exact this
theorem JfK (g : HsG h) : ∀ (suf pre : List Ps) (rest : List Rw),pre ++ suf = h.ps → (∀ lat : Int,lat ≤ 1 → J3m { h.bare with nds:=h.nds,ps:=h.ps } lat rest) → ∀ lat : Int,lat ≤ 1 → J3m { h.bare with nds:=h.nds,ps:=pre } lat (suf.map .ps ++ rest)
 | [],pre,rest,e,hr,lat,l0=>by
  rw [List.append_nil] at e
  rw [e]
  exact hr lat l0
 | n :: suf,pre,rest,e,hr,lat,l0=>by
  have hl : pre.length + (suf.length + 1) = h.ps.length:=by rw [← e]; simp
  have hin : ∀ m ∈ pre,m ∈ h.ps:=fun m hm=>by rw [← e]; exact List.mem_append_left _ hm
  have hnd:=g.pn
  unfold Hs.nms at hnd
  rw [← e,List.map_append,List.map_cons] at hnd
  refine ⟨g.b.of rfl rfl (Nat.le_refl _) (by show pre.length ≤ _; omega) hin (Nat.zero_le _) (Nat.zero_le _) (Nat.zero_le _) (Nat.zero_le _),⟨g.b.pg n (by rw [← e]; simp),?_,fun hx=>?_⟩,l0,?_⟩
  ·have:=g.b.pl
   show pre.length < 8
   omega
  ·exact (List.nodup_append.mp hnd).2.2 n.nm hx n.nm List.mem_cons_self rfl
  ·have:=JfK g suf (pre ++ [n]) rest (by rw [List.append_assoc]; exact e) hr 1 (Int.le_refl _)
   exact this
theorem JfO (g : HsG h) : ∀ (suf pre : List (List Nat × Int)) (rest : List Rw),pre ++ suf = h.ls → (∀ lat : Int,lat ≤ 2 → J3m { h.bare with nds:=h.nds,ps:=h.ps,ls:=h.ls } lat rest) → ∀ lat : Int,lat ≤ 2 → J3m { h.bare with nds:=h.nds,ps:=h.ps,ls:=pre } lat (suf.map .lv ++ rest)
 | [],pre,rest,e,hr,lat,l0=>by
  rw [List.append_nil] at e
  rw [e]
  exact hr lat l0
 | n :: suf,pre,rest,e,hr,lat,l0=>by
  have hl : pre.length + (suf.length + 1) = h.ls.length:=by rw [← e]; simp
  refine ⟨g.b.of rfl rfl (Nat.le_refl _) (Nat.le_refl _) (fun _ hn=>hn) (by show pre.length ≤ _; omega) (Nat.zero_le _) (Nat.zero_le _) (Nat.zero_le _),⟨g.lg n (by rw [← e]; simp),?_⟩,l0,?_⟩
  ·have:=g.b.ll
   show pre.length < 60
   omega
  ·have:=JfO g suf (pre ++ [n]) rest (by rw [List.append_assoc]; exact e) hr 2 (Int.le_refl _)
   exact this
theorem JfH (g : HsG h) : ∀ (suf pre : List Ws) (rest : List Rw),pre ++ suf = h.ws → (∀ lat : Int,lat ≤ 3 → J3m { h.bare with nds:=h.nds,ps:=h.ps,ls:=h.ls,ws:=h.ws } lat rest) → ∀ lat : Int,lat ≤ 3 → J3m { h.bare with nds:=h.nds,ps:=h.ps,ls:=h.ls,ws:=pre } lat (suf.map .ws ++ rest)
 | [],pre,rest,e,hr,lat,l0=>by
  rw [List.append_nil] at e
  rw [e]
  exact hr lat l0
 | n :: suf,pre,rest,e,hr,lat,l0=>by
  have hl : pre.length + (suf.length + 1) = h.ws.length:=by rw [← e]; simp
  refine ⟨g.b.of rfl rfl (Nat.le_refl _) (Nat.le_refl _) (fun _ hn=>hn) (Nat.le_refl _) (by show pre.length ≤ _; omega) (Nat.zero_le _) (Nat.zero_le _),⟨g.wg n (by rw [← e]; simp),?_⟩,l0,?_⟩
  ·have:=g.b.wl
   show pre.length < 60
   omega
  ·have:=JfH g suf (pre ++ [n]) rest (by rw [List.append_assoc]; exact e) hr 3 (Int.le_refl _)
   exact this
theorem JdW (g : HsG h) : ∀ (suf pre : List Rt) (rest : List Rw),pre ++ suf = h.rts → (∀ lat : Int,lat ≤ 4 → J3m { h.bare with nds:=h.nds,ps:=h.ps,ls:=h.ls,ws:=h.ws,rts:=h.rts } lat rest) → ∀ lat : Int,lat ≤ 4 → J3m { h.bare with nds:=h.nds,ps:=h.ps,ls:=h.ls,ws:=h.ws,rts:=pre } lat (suf.map .rt ++ rest)
 | [],pre,rest,e,hr,lat,l0=>by
  rw [List.append_nil] at e
  rw [e]
  exact hr lat l0
 | n :: suf,pre,rest,e,hr,lat,l0=>by
  have hl : pre.length + (suf.length + 1) = h.rts.length:=by rw [← e]; simp
  refine ⟨g.b.of rfl rfl (Nat.le_refl _) (Nat.le_refl _) (fun _ hn=>hn) (Nat.le_refl _) (Nat.le_refl _) (by show pre.length ≤ _; omega) (Nat.zero_le _),⟨g.rg n (by rw [← e]; simp),?_⟩,l0,?_⟩
  ·have:=g.b.rl
   show pre.length < 8
   omega
  ·have:=JdW g suf (pre ++ [n]) rest (by rw [List.append_assoc]; exact e) hr 4 (Int.le_refl _)
   exact this
theorem Je8 (g : HsG h) : ∀ (suf pre : List Pq),pre ++ suf = h.prs → ∀ lat : Int,lat ≤ 5 → J3m { h.bare with nds:=h.nds,ps:=h.ps,ls:=h.ls,ws:=h.ws,rts:=h.rts,prs:=pre } lat (suf.map .pq)
 | [],pre,e,lat,l0=>trivial
 | n :: suf,pre,e,lat,l0=>by
  have hl : pre.length + (suf.length + 1) = h.prs.length:=by rw [← e]; simp
  refine ⟨g.b.of rfl rfl (Nat.le_refl _) (Nat.le_refl _) (fun _ hn=>hn) (Nat.le_refl _) (Nat.le_refl _) (Nat.le_refl _) (by show pre.length ≤ _; omega),⟨g.qg n (by rw [← e]; simp),?_⟩,l0,?_⟩
  ·have:=g.b.ql
   show pre.length < 8
   omega
  ·have:=Je8 g suf (pre ++ [n]) (by rw [List.append_assoc]; exact e) 5 (Int.le_refl _)
   exact this
theorem JbG (g : HsG h) : J3m h.bare 0 (J2Q h):=by
 refine JdN g h.nds [] _ rfl ?_ 0 (Int.le_refl _) (fun _=>rfl)
 refine JfK g h.ps [] _ rfl (fun lat hl=>?_) 0 (by decide)
 refine JfO g h.ls [] _ rfl (fun lat hl=>?_) lat (by omega)
 refine JfH g h.ws [] _ rfl (fun lat hl=>?_) lat (by omega)
 refine JdW g h.rts [] _ rfl (fun lat hl=>?_) lat (by omega)
 exact Je8 g h.prs [] rfl lat (by omega)
theorem Jaz (h : Hs) : ∀ (a b : List Rw),h.puts (a ++ b) = (h.puts a).puts b
 | [],_=>rfl
 | r :: a,b=>by
  show ((h.put r).puts (a ++ b)) = ((h.put r).puts a).puts b
  exact Jaz (h.put r) a b
theorem Jck (x : Hs) : ∀ l : List Nd,x.puts (l.map .nd) = { x with nds:=x.nds ++ l }
 | []=>by rw [List.append_nil]; rfl
 | n :: l=>by
  show (x.put (.nd n)).puts (l.map .nd) = _
  rw [Jck (x.put (.nd n)) l]
  show ({ x with nds:=x.nds ++ [n] ++ l } : Hs) = _
  rw [List.append_assoc]
  rfl
theorem Jc6 (x : Hs) : ∀ l : List Ps,x.puts (l.map .ps) = { x with ps:=x.ps ++ l }
 | []=>by rw [List.append_nil]; rfl
 | n :: l=>by
  show (x.put (.ps n)).puts (l.map .ps) = _
  rw [Jc6 (x.put (.ps n)) l]
  show ({ x with ps:=x.ps ++ [n] ++ l } : Hs) = _
  rw [List.append_assoc]
  rfl
theorem Jcf (x : Hs) : ∀ l : List (List Nat × Int),x.puts (l.map .lv) = { x with ls:=x.ls ++ l }
 | []=>by rw [List.append_nil]; rfl
 | n :: l=>by
  show (x.put (.lv n)).puts (l.map .lv) = _
  rw [Jcf (x.put (.lv n)) l]
  show ({ x with ls:=x.ls ++ [n] ++ l } : Hs) = _
  rw [List.append_assoc]
  rfl
theorem Jc8 (x : Hs) : ∀ l : List Ws,x.puts (l.map .ws) = { x with ws:=x.ws ++ l }
 | []=>by rw [List.append_nil]; rfl
 | n :: l=>by
  show (x.put (.ws n)).puts (l.map .ws) = _
  rw [Jc8 (x.put (.ws n)) l]
  show ({ x with ws:=x.ws ++ [n] ++ l } : Hs) = _
  rw [List.append_assoc]
  rfl
theorem Jce (x : Hs) : ∀ l : List Rt,x.puts (l.map .rt) = { x with rts:=x.rts ++ l }
 | []=>by rw [List.append_nil]; rfl
 | n :: l=>by
  show (x.put (.rt n)).puts (l.map .rt) = _
  rw [Jce (x.put (.rt n)) l]
  show ({ x with rts:=x.rts ++ [n] ++ l } : Hs) = _
  rw [List.append_assoc]
  rfl
theorem Jc5 (x : Hs) : ∀ l : List Pq,x.puts (l.map .pq) = { x with prs:=x.prs ++ l }
 | []=>by rw [List.append_nil]; rfl
 | n :: l=>by
  show (x.put (.pq n)).puts (l.map .pq) = _
  rw [Jc5 (x.put (.pq n)) l]
  show ({ x with prs:=x.prs ++ [n] ++ l } : Hs) = _
  rw [List.append_assoc]
  rfl
theorem Jdz (h : Hs) : h.bare.puts (J2Q h) = h:=by
 unfold J2Q
 simp only [Jaz,Jck,Jc6,Jcf,Jc8,Jce,Jc5]
 rfl
end
theorem Jap {c : Nat} {w : List Nat} (h : c ∉ w) : Jh c w = [w]:=by
 induction w with
 | nil=>rfl
 | cons x r ih=>rw [Jh,if_neg (fun e=>h (by rw [e]; exact List.mem_cons_self)),ih (fun z=>h (List.mem_cons_of_mem _ z))]
theorem Jen (c : Nat) (a b : List Nat) : Jh c (a ++ c :: b) = Jh c a ++ Jh c b:=by
 induction a with
 | nil =>
  show (if c = c then [] :: Jh c b else _) = _
  rw [if_pos rfl]
  rfl
 | cons x r ih =>
  show Jh c (x :: (r ++ c :: b)) = Jh c (x :: r) ++ Jh c b
  by_cases e : x = c
  ·rw [Jh,if_pos e,ih,Jh,if_pos e]
   rfl
  ·rw [Jh,if_neg e,ih,Jh,if_neg e]
   obtain ⟨h,t,eq⟩:=J0z c r
   rw [eq]
   rfl
theorem J7R {c : Nat} : ∀ {ws : List (List Nat)},ws ≠ [] → (∀ w ∈ ws,c ∉ w) → Jh c (JV [c] ws) = ws
 | [],h,_=>absurd rfl h
 | [w],_,h=>Jap (h w List.mem_cons_self)
 | w :: v :: r,_,h=>by
  show Jh c (w ++ [c] ++ JV [c] (v :: r)) = _
  rw [List.append_assoc]
  show Jh c (w ++ c :: JV [c] (v :: r)) = _
  rw [Jen,Jap (h w List.mem_cons_self),J7R (by simp) (fun u hu=>h u (List.mem_cons_of_mem _ hu))]
  rfl
theorem J5Q (c : Nat) : ∀ t : List Nat,JV [c] (Jh c t) = t
 | []=>rfl
 | x :: r=>by
  have ih:=J5Q c r
  obtain ⟨h,t,eq⟩:=J0z c r
  rw [eq] at ih
  by_cases e : x = c
  ·rw [Jh,if_pos e,eq]
   show [] ++ [c] ++ JV [c] (h :: t) = x :: r
   rw [ih,e]
   rfl
  ·rw [Jh,if_neg e,eq]
   show JV [c] ((x :: h) :: t) = x :: r
   cases t with
   | nil=>rw [← ih]; rfl
   | cons y t=>rw [← ih]; rfl
theorem Jau (c : Nat) : ∀ (t : List Nat),∀ w ∈ Jh c t,c ∉ w
 | [],w,hw=>by rw [List.mem_singleton.mp hw]; exact List.not_mem_nil
 | x :: r,w,hw=>by
  have ih:=Jau c r
  obtain ⟨h,t,eq⟩:=J0z c r
  rw [eq] at ih
  by_cases e : x = c
  ·rw [Jh,if_pos e,eq] at hw
   rcases List.mem_cons.mp hw with rfl | hw
   ·exact List.not_mem_nil
   ·exact ih w hw
  ·rw [Jh,if_neg e,eq] at hw
   rcases List.mem_cons.mp hw with rfl | hw
   ·intro z
    rcases List.mem_cons.mp z with z | z
    ·exact e z.symm
    ·exact ih h List.mem_cons_self z
   ·exact ih w (List.mem_cons_of_mem _ hw)
theorem Jc3 (c : Nat) : ∀ (t : List Nat),∀ w ∈ Jh c t,∀ x ∈ w,x ∈ t
 | [],w,hw,x,hx=>by rw [List.mem_singleton.mp hw] at hx; exact hx
 | y :: r,w,hw,x,hx=>by
  have ih:=Jc3 c r
  obtain ⟨h,t,eq⟩:=J0z c r
  rw [eq] at ih
  by_cases e : y = c
  ·rw [Jh,if_pos e,eq] at hw
   rcases List.mem_cons.mp hw with rfl | hw
   ·exact absurd hx List.not_mem_nil
   ·exact List.mem_cons_of_mem _ (ih w hw x hx)
  ·rw [Jh,if_neg e,eq] at hw
   rcases List.mem_cons.mp hw with rfl | hw
   ·rcases List.mem_cons.mp hx with rfl | hx
    ·exact List.mem_cons_self
    ·exact List.mem_cons_of_mem _ (ih h List.mem_cons_self x hx)
   ·exact List.mem_cons_of_mem _ (ih w (List.mem_cons_of_mem _ hw) x hx)
theorem JaR {s : List Nat} : ∀ {ws : List (List Nat)} {x : Nat},x ∈ JV s ws → x ∈ s ∨ ∃ w ∈ ws,x ∈ w
 | [],_,h=>absurd h List.not_mem_nil
 | [w],_,h=>.inr ⟨w,List.mem_cons_self,h⟩
 | w :: v :: r,x,h=>by
  have h' : x ∈ w ++ s ++ JV s (v :: r):=h
  rcases List.mem_append.mp h' with h' | h'
  ·rcases List.mem_append.mp h' with h' | h'
   ·exact .inr ⟨w,List.mem_cons_self,h'⟩
   ·exact .inl h'
  ·rcases JaR h' with h' | ⟨u,hu,hx⟩
   ·exact .inl h'
   ·exact .inr ⟨u,List.mem_cons_of_mem _ hu,hx⟩
noncomputable def Fre (w : List Nat) : Prop:=∀ c ∈ w,c ≠ 32 ∧ c ≠ 10
instance (w : List Nat) : Decidable (Fre w):=inferInstanceAs (Decidable (∀ c ∈ w,c ≠ 32 ∧ c ≠ 10))
theorem Fre.num (n : Nat) : Fre (numN n):=fun c hc=>by
 have:=J7S n c hc
 omega
theorem Fre.of {w l : List Nat} (h : ∀ c ∈ w,c ∈ l) (hl : Fre l) : Fre w:=fun c hc=>hl c (h c hc)
theorem Fre.abc : Fre abc:=by decide
theorem Fre.ABC : Fre ABC:=by decide
theorem Fre.dot {w : List Nat} (h : Fre w) : Fre (dotF w):=by
 unfold dotF
 split
 ·decide
 ·exact h
theorem HsB.fk {h : Hs} (g : HsB h) : Fre h.ks:=Fre.of g.kc Fre.ABC
theorem HsB.fkd {h : Hs} (g : HsB h) : Fre (h.ks ++ [45]):=fun c hc=>by
 rcases List.mem_append.mp hc with hc | hc
 ·exact g.fk c hc
 ·rw [List.mem_singleton.mp hc]
  decide
theorem HsB.fn {h : Hs} (g : HsB h) {w : List Nat} (hw : w ∈ h.nms) : Fre w:=by
 obtain ⟨n,hn,rfl⟩:=List.mem_map.mp hw
 exact Fre.of (g.pg n hn).ns Fre.abc
theorem Jfc {h : Hs} (b : HsB h) : ∀ {r : Rw},JaU h r → ∀ w ∈ r.wds,Fre w
 | .nd n,g,w,hw=>by
  simp only [Rw.wds,List.mem_cons,List.not_mem_nil,or_false] at hw
  rcases hw with rfl | rfl | rfl | rfl | rfl
  ·decide
  ·exact Fre.num _
  ·exact Fre.of (fun c hc=>by rw [List.mem_singleton.mp hc]; exact g.1.k) b.fk
  ·exact Fre.num _
  ·exact Fre.num _
 | .ps n,g,w,hw=>by
  simp only [Rw.wds,List.mem_cons,List.not_mem_nil,or_false] at hw
  rcases hw with rfl | rfl | rfl | rfl | rfl | rfl
  ·decide
  ·exact Fre.of g.1.ns Fre.abc
  ·exact (Fre.of g.1.sk b.fk).dot
  ·exact Fre.num _
  ·exact Fre.num _
  ·exact (Fre.of g.1.pk b.fkd).dot
 | .lv l,g,w,hw=>by
  simp only [Rw.wds,List.mem_cons,List.not_mem_nil,or_false] at hw
  rcases hw with rfl | rfl | rfl
  ·decide
  ·exact b.fn g.1.nm
  ·exact Fre.num _
 | .ws v,g,w,hw=>by
  simp only [Rw.wds,List.mem_cons,List.not_mem_nil,or_false] at hw
  rcases hw with rfl | rfl | rfl | rfl
  ·decide
  ·exact b.fn g.1.nm
  ·exact Fre.num _
  ·exact Fre.of g.1.ms b.fkd
 | .rt a,g,w,hw=>by
  have hw' : w = J2M ∨ w = a.nm ∨ w ∈ Jh 32 a.tx:=by simpa [Rw.wds] using hw
  rcases hw' with rfl | rfl | hw
  ·decide
  ·rcases g.1.nm with e | e
   ·rw [e]; decide
   ·exact b.fn e
  ·intro c hc
   refine ⟨fun z=>Jau 32 _ w hw (z ▸ hc),fun z=>g.1.tx.nb (z ▸ Jc3 32 _ w hw c hc)⟩
 | .pq p,g,w,hw=>by
  simp only [Rw.wds,List.mem_cons,List.not_mem_nil,or_false] at hw
  rcases hw with rfl | rfl | rfl
  ·rcases g.1.wd with e | e
   ·rw [e]; decide
   ·rw [e]; decide
  ·exact b.fn g.1.one
  ·exact b.fn g.1.two
theorem JeH : ∀ {rs : List Rw} {h : Hs} {lat : Int},J3m h lat rs → ∀ r ∈ rs,r.wds ≠ [] ∧ ∀ w ∈ r.wds,Fre w
 | r :: rs,h,lat,g,r',hr=>by
  rcases List.mem_cons.mp hr with rfl | hr
  ·refine ⟨?_,Jfc g.1 g.2.1⟩
   cases r' <;> exact List.cons_ne_nil _ _
  ·exact JeH g.2.2.2 r' hr
theorem J69 {h : Hs} (g : HsG h) : ∀ l ∈ JN h,l ≠ [] ∧ ∀ w ∈ l,Fre w:=by
 intro l hl
 unfold JN at hl
 rcases List.mem_cons.mp hl with rfl | hl
 ·refine ⟨List.cons_ne_nil _ _,fun w hw=>?_⟩
  simp only [List.mem_cons,List.not_mem_nil,or_false] at hw
  rcases hw with rfl | rfl
  ·decide
  ·exact Fre.num _
 rcases List.mem_cons.mp hl with rfl | hl
 ·refine ⟨List.cons_ne_nil _ _,fun w hw=>?_⟩
  simp only [List.mem_cons,List.not_mem_nil,or_false] at hw
  rcases hw with rfl | rfl
  ·decide
  ·exact g.b.fk
 ·obtain ⟨r,hr,rfl⟩:=List.mem_map.mp hl
  exact JeH (JbG g) r hr
noncomputable def rowT (l : List (List Nat)) : List Nat:=JV [32] l
noncomputable def J6u (h : Hs) : List Nat:=JV [10] ((JN h).map rowT)
theorem JbL {h : Hs} (g : HsG h) : Jh 10 (J6u h) = (JN h).map rowT:=by
 refine J7R (by unfold JN; exact List.cons_ne_nil _ _) fun w hw=>?_
 obtain ⟨l,hl,rfl⟩:=List.mem_map.mp hw
 intro z
 rcases JaR z with z | ⟨u,hu,hx⟩
 ·exact absurd z (by decide)
 ·exact ((J69 g l hl).2 u hu 10 hx).2 rfl
theorem Jd2 {h : Hs} (g : HsG h) {l : List (List Nat)} (hl : l ∈ JN h) : Jh 32 (rowT l) = l :=
 J7R (J69 g l hl).1 fun w hw z=>((J69 g l hl).2 w hw 32 z).1 rfl
section
variable {P : Program} {w : World} {K : PySem.W.Frag} {mg : Str → Option Value} {base : Heap} {J9 Jd J8 Jb J5 Ji J4 J1 : Addr}
theorem J8X (tx : Tx K mg J9 Jd J8 Jb J5 Ji J4 J1) : MtG P w K mg base J9 "__init__" 1 ["self","word"] (JbZ J9):=by
 refine tx.J92.g tx.J5j.cl J8b (fun _ _ _ _ _ _ us hl=>match us,hl with | [_,_],_=>rfl) (fun vs H Q E h=>?_) (fun f cdv A outer s H vs Q E hr h=>?_)
 ·obtain ⟨p,dx,w,rfl,_⟩:=h
  rfl
 ·obtain ⟨p,dx,w,rfl,hp,q⟩:=h
  refine ⟨_,(Ja (J0e (pv 0) (pv 1) rfl)),?_⟩
  walk_at "st"
  exact ⟨_,rfl,_,rfl,p,J9,dx,[],rfl,hp,tx.J5j.cl,tx.J1w,by decide,q⟩
theorem Ja4 (tx : Tx K mg J9 Jd J8 Jb J5 Ji J4 J1) : MtG P w K mg base Jd "__init__" 1 ["self","many","marks","days"] (J5k Jd):=by
 refine tx.J9Y.g tx.J58.cl J9k (fun _ _ _ _ _ _ us hl=>match us,hl with | [_,_,_,_],_=>rfl) (fun vs H Q E h=>?_) (fun f cdv A outer s H vs Q E hr h=>?_)
 ·obtain ⟨p,dx,n,m,d,rfl,_⟩:=h
  rfl
 ·obtain ⟨p,dx,n,m,d,rfl,hp,q⟩:=h
  refine ⟨_,(J6 (J0e (pv 0) (pv 1) rfl)
   (J6 (J0e (pv 0) (pv 2) rfl)
   (Ja (J0e (pv 0) (pv 3) rfl)))),?_⟩
  walk_at "st"
  refine ⟨_,rfl,_,rfl,p,Jd,dx,[],rfl,hp,tx.J58.cl,tx.J2l,by decide,?_⟩
  refine ⟨_,rfl,_,rfl,p,Jd,dx,_,rfl,Je,tx.J58.cl,tx.J1u,by show 1 < 1000; decide,?_⟩
  refine ⟨_,rfl,_,rfl,p,Jd,dx,_,rfl,Je,tx.J58.cl,tx.J2c,?_,?_⟩
  ·have:=J2u "marks" (T m) (putF "many" (.int n) [])
   have h2:=J2u "many" (V.int n) []
   have h3 : ([] : List (Str × V)).length = 0:=rfl
   omega
  rw [put3]
  exact q
theorem J8Z (tx : Tx K mg J9 Jd J8 Jb J5 Ji J4 J1) : MtG P w K mg base J8 "__init__" 1 ["self","many","marks","days"] (J5k J8):=by
 refine tx.J9g.g tx.J4e.cl J81 (fun _ _ _ _ _ _ us hl=>match us,hl with | [_,_,_,_],_=>rfl) (fun vs H Q E h=>?_) (fun f cdv A outer s H vs Q E hr h=>?_)
 ·obtain ⟨p,dx,n,m,d,rfl,_⟩:=h
  rfl
 ·obtain ⟨p,dx,n,m,d,rfl,hp,q⟩:=h
  refine ⟨_,(J6 (J0e (pv 0) (pv 1) rfl)
   (J6 (J0e (pv 0) (pv 2) rfl)
   (Ja (J0e (pv 0) (pv 3) rfl)))),?_⟩
  walk_at "st"
  refine ⟨_,rfl,_,rfl,p,J8,dx,[],rfl,hp,tx.J4e.cl,tx.J1A,by decide,?_⟩
  refine ⟨_,rfl,_,rfl,p,J8,dx,_,rfl,Je,tx.J4e.cl,tx.J16,by show 1 < 1000; decide,?_⟩
  refine ⟨_,rfl,_,rfl,p,J8,dx,_,rfl,Je,tx.J4e.cl,tx.J1y,?_,?_⟩
  ·have:=J2u "marks" (T m) (putF "many" (.int n) [])
   have h2:=J2u "many" (V.int n) []
   have h3 : ([] : List (Str × V)).length = 0:=rfl
   omega
  rw [put3]
  exact q
theorem J9Z (tx : Tx K mg J9 Jd J8 Jb J5 Ji J4 J1) : MtG P w K mg base Jb "__init__" 1 ["self","left","right"] (J5h Jb):=by
 refine tx.J9Q.g tx.J56.cl J96 (fun _ _ _ _ _ _ us hl=>match us,hl with | [_,_,_],_=>rfl) (fun vs H Q E h=>?_) (fun f cdv A outer s H vs Q E hr h=>?_)
 ·obtain ⟨p,dx,a,b,rfl,_⟩:=h
  rfl
 ·obtain ⟨p,dx,a,b,rfl,hp,q⟩:=h
  refine ⟨_,(J6 (J0e (pv 0) (pv 1) rfl)
   (Ja (J0e (pv 0) (pv 2) rfl))),?_⟩
  walk_at "st"
  refine ⟨_,rfl,_,rfl,p,Jb,dx,[],rfl,hp,tx.J56.cl,tx.J2g,by decide,?_⟩
  refine ⟨_,rfl,_,rfl,p,Jb,dx,_,rfl,Je,tx.J56.cl,tx.J1F,by show 1 < 1000; decide,?_⟩
  rw [put2]
  exact q
theorem J7W (tx : Tx K mg J9 Jd J8 Jb J5 Ji J4 J1) : MtG P w K mg base J5 "__init__" 1 ["self","left","right"] (J5h J5):=by
 refine tx.J8a.g tx.J2w.cl J78 (fun _ _ _ _ _ _ us hl=>match us,hl with | [_,_,_],_=>rfl) (fun vs H Q E h=>?_) (fun f cdv A outer s H vs Q E hr h=>?_)
 ·obtain ⟨p,dx,a,b,rfl,_⟩:=h
  rfl
 ·obtain ⟨p,dx,a,b,rfl,hp,q⟩:=h
  refine ⟨_,(J6 (J0e (pv 0) (pv 1) rfl)
   (Ja (J0e (pv 0) (pv 2) rfl))),?_⟩
  walk_at "st"
  refine ⟨_,rfl,_,rfl,p,J5,dx,[],rfl,hp,tx.J2w.cl,tx.J18,by decide,?_⟩
  refine ⟨_,rfl,_,rfl,p,J5,dx,_,rfl,Je,tx.J2w.cl,tx.J0P,by show 1 < 1000; decide,?_⟩
  rw [put2]
  exact q
theorem Jb4 (tx : Tx K mg J9 Jd J8 Jb J5 Ji J4 J1) : MtG P w K mg base Ji "__init__" 1 ["self","inner"] (J9U Ji):=by
 refine tx.Jbn.g tx.Ja6.cl Jan (fun _ _ _ _ _ _ us hl=>match us,hl with | [_,_],_=>rfl) (fun vs H Q E h=>?_) (fun f cdv A outer s H vs Q E hr h=>?_)
 ·obtain ⟨p,dx,a,rfl,_⟩:=h
  rfl
 ·obtain ⟨p,dx,a,rfl,hp,q⟩:=h
  refine ⟨_,(Ja (J0e (pv 0) (pv 1) rfl)),?_⟩
  walk_at "st"
  exact ⟨_,rfl,_,rfl,p,Ji,dx,[],rfl,hp,tx.Ja6.cl,tx.J2h,by decide,q⟩
theorem J4X (tx : Tx K mg J9 Jd J8 Jb J5 Ji J4 J1) : MtG P w K mg base J4 "__init__" 1 ["self","name","skills","most","carried","past"] (Jah J4):=by
 refine tx.J82.g tx.J1Z.cl J7s (fun _ _ _ _ _ _ us hl=>match us,hl with | [_,_,_,_,_,_],_=>rfl) (fun vs H Q E h=>?_) (fun f cdv A outer s H vs Q E hr h=>?_)
 ·obtain ⟨p,dx,a,b,c,d,e,rfl,_⟩:=h
  rfl
 ·obtain ⟨p,dx,a,b,c,d,e,rfl,hp,q⟩:=h
  refine ⟨_,(J6 (J0e (pv 0) (pv 1) rfl)
   (J6 (J0e (pv 0) (pv 2) rfl)
   (J6 (J0e (pv 0) (pv 3) rfl)
   (J6 (J0e (pv 0) (pv 4) rfl)
   (Ja (J0e (pv 0) (pv 5) rfl)))))),?_⟩
  walk_at "st"
  refine ⟨_,rfl,_,rfl,p,J4,dx,[],rfl,hp,tx.J1Z.cl,tx.J0J,(by show 0 < 1000; decide),?_⟩
  refine ⟨_,rfl,_,rfl,p,J4,dx,[("name",a)],rfl,Je,tx.J1Z.cl,tx.J0y,(by show 1 < 1000; decide),?_⟩
  rw [putN (fs:=[("name",a)]) (show ∀ g ∈ [("name" : Str)],g ≠ "skills" from by decide +kernel)]
  refine ⟨_,rfl,_,rfl,p,J4,dx,[("name",a),("skills",b)],rfl,Je,tx.J1Z.cl,tx.J19,(by show 2 < 1000; decide),?_⟩
  rw [putN (fs:=[("name",a),("skills",b)]) (show ∀ g ∈ [("name" : Str),"skills"],g ≠ "most" from by decide +kernel)]
  refine ⟨_,rfl,_,rfl,p,J4,dx,[("name",a),("skills",b),("most",c)],rfl,Je,tx.J1Z.cl,tx.J0m,(by show 3 < 1000; decide),?_⟩
  rw [putN (fs:=[("name",a),("skills",b),("most",c)]) (show ∀ g ∈ [("name" : Str),"skills","most"],g ≠ "carried" from by decide +kernel)]
  refine ⟨_,rfl,_,rfl,p,J4,dx,[("name",a),("skills",b),("most",c),("carried",d)],rfl,Je,tx.J1Z.cl,tx.J10,(by show 4 < 1000; decide),?_⟩
  rw [putN (fs:=[("name",a),("skills",b),("most",c),("carried",d)]) (show ∀ g ∈ [("name" : Str),"skills","most","carried"],g ≠ "past" from by decide +kernel)]
  exact q _ (But.refl p H).at.at.at.at.at Je
theorem J5q (tx : Tx K mg J9 Jd J8 Jb J5 Ji J4 J1) : MtG P w K mg base J1 "__init__" 1 ["self","days","kinds","needs","persons","leave","wishes","rules","pairs"] (J9M J1):=by
 refine tx.J8S.g tx.JW.cl J83 (fun _ _ _ _ _ _ us hl=>match us,hl with | [_,_,_,_,_,_,_,_,_],_=>rfl) (fun vs H Q E h=>?_) (fun f cdv A outer s H vs Q E hr h=>?_)
 ·obtain ⟨p,dx,d,k,b1,b2,b3,b4,b5,b6,x1,x2,x3,x4,x5,x6,rfl,_⟩:=h
  rfl
 ·obtain ⟨p,dx,d,k,b1,b2,b3,b4,b5,b6,x1,x2,x3,x4,x5,x6,rfl,hp,h1,h2,h3,h4,h5,h6,q⟩:=h
  refine ⟨_,(J6 (J0e (pv 0) (pv 1) rfl)
   (J6 (J0e (pv 0) (pv 2) rfl)
   (J6 (J0e (pv 0) (JG J03 rfl tx.J26 J0s (J0 (pv 3) J2)) rfl)
   (J6 (J0e (pv 0) (JG J03 rfl tx.J26 J0s (J0 (pv 4) J2)) rfl)
   (J6 (J0e (pv 0) (JG J03 rfl tx.J26 J0s (J0 (pv 5) J2)) rfl)
   (J6 (J0e (pv 0) (JG J03 rfl tx.J26 J0s (J0 (pv 6) J2)) rfl)
   (J6 (J0e (pv 0) (JG J03 rfl tx.J26 J0s (J0 (pv 7) J2)) rfl)
   (Ja (J0e (pv 0) (JG J03 rfl tx.J26 J0s (J0 (pv 8) J2)) rfl))))))))),?_⟩
  walk_at "st"
  have nb : ∀ {b : Addr} {x : List V},H b = some (.lst x) → b ≠ p:=fun e=>Jh6 e hp (by intro z; cases z)
  refine ⟨_,rfl,_,rfl,p,J1,dx,[],rfl,hp,tx.JW.cl,tx.J0V,(by show 0 < 1000; decide),?_⟩
  refine ⟨_,rfl,_,rfl,p,J1,dx,[("days",d)],rfl,Je,tx.JW.cl,tx.JU,(by show 1 < 1000; decide),?_⟩
  rw [putN (fs:=[("days",d)]) (show ∀ g ∈ [("days" : Str)],g ≠ "kinds" from by decide +kernel)]
  have B0 : But p H (upd (upd H p (.ins J1 dx (putF "days" d []))) p (.ins J1 dx ([(("days" : Str),d)] ++ [(("kinds" : Str),k)]))):=(But.refl p H).at.at
  have e0 : upd (upd H p (.ins J1 dx (putF "days" d []))) p (.ins J1 dx ([(("days" : Str),d)] ++ [(("kinds" : Str),k)])) p = some (.ins J1 dx [("days",d),("kinds",k)]):=Je
  generalize upd (upd H p (.ins J1 dx (putF "days" d []))) p (.ins J1 dx ([(("days" : Str),d)] ++ [(("kinds" : Str),k)])) = H0 at B0 e0 ⊢
  refine ⟨_,rfl,b1,x1,rfl,.inl (SqL.of (B0 _ _ (nb h1) h1)),fun a1 n1=>?_⟩
  refine ⟨_,rfl,p,J1,dx,[("days",d),("kinds",k)],rfl,(Jj (Jc e0 n1)).trans e0,tx.JW.cl,tx.J0H,(by show 2 < 1000; decide),?_⟩
  rw [putN (fs:=[("days",d),("kinds",k)]) (show ∀ g ∈ [("days" : Str),"kinds"],g ≠ "needs" from by decide +kernel)]
  have z1 : a1 ≠ p:=(Jc e0 n1).symm
  have B1 : But p H (upd (upd H0 a1 (.lst x1)) p (.ins J1 dx ([(("days" : Str),d),("kinds",k)] ++ [(("needs" : Str),.ref a1)]))):=(B0.new n1).at
  have e1 : upd (upd H0 a1 (.lst x1)) p (.ins J1 dx ([(("days" : Str),d),("kinds",k)] ++ [(("needs" : Str),.ref a1)])) p = some (.ins J1 dx [("days",d),("kinds",k),("needs",.ref a1)]):=Je
  have y1 : upd (upd H0 a1 (.lst x1)) p (.ins J1 dx ([(("days" : Str),d),("kinds",k)] ++ [(("needs" : Str),.ref a1)])) a1 = some (.lst x1):=by rw [Jj z1]; exact Je
  have m1 : H a1 = none:=by cases hh : H a1 with | none=>rfl | some o=>rw [B0 _ _ z1 hh] at n1; cases n1
  generalize upd (upd H0 a1 (.lst x1)) p (.ins J1 dx ([(("days" : Str),d),("kinds",k)] ++ [(("needs" : Str),.ref a1)])) = H1 at B1 e1 y1 ⊢
  refine ⟨_,rfl,b2,x2,rfl,.inl (SqL.of (B1 _ _ (nb h2) h2)),fun a2 n2=>?_⟩
  refine ⟨_,rfl,p,J1,dx,[("days",d),("kinds",k),("needs",.ref a1)],rfl,(Jj (Jc e1 n2)).trans e1,tx.JW.cl,tx.J05,(by show 3 < 1000; decide),?_⟩
  rw [putN (fs:=[("days",d),("kinds",k),("needs",.ref a1)]) (show ∀ g ∈ [("days" : Str),"kinds","needs"],g ≠ "persons" from by decide +kernel)]
  have z2 : a2 ≠ p:=(Jc e1 n2).symm
  have B2 : But p H (upd (upd H1 a2 (.lst x2)) p (.ins J1 dx ([(("days" : Str),d),("kinds",k),("needs",.ref a1)] ++ [(("persons" : Str),.ref a2)]))):=(B1.new n2).at
  have e2 : upd (upd H1 a2 (.lst x2)) p (.ins J1 dx ([(("days" : Str),d),("kinds",k),("needs",.ref a1)] ++ [(("persons" : Str),.ref a2)])) p = some (.ins J1 dx [("days",d),("kinds",k),("needs",.ref a1),("persons",.ref a2)]):=Je
  have y2 : upd (upd H1 a2 (.lst x2)) p (.ins J1 dx ([(("days" : Str),d),("kinds",k),("needs",.ref a1)] ++ [(("persons" : Str),.ref a2)])) a2 = some (.lst x2):=by rw [Jj z2]; exact Je
  have y12 : upd (upd H1 a2 (.lst x2)) p (.ins J1 dx ([(("days" : Str),d),("kinds",k),("needs",.ref a1)] ++ [(("persons" : Str),.ref a2)])) a1 = some (.lst x1):=by rw [Jj z1,Jj (Jc y1 n2)]; exact y1
  have m2 : H a2 = none:=by cases hh : H a2 with | none=>rfl | some o=>rw [B1 _ _ z2 hh] at n2; cases n2
  have d12:=Jc y1 n2
  generalize upd (upd H1 a2 (.lst x2)) p (.ins J1 dx ([(("days" : Str),d),("kinds",k),("needs",.ref a1)] ++ [(("persons" : Str),.ref a2)])) = H2 at B2 e2 y2 y12 ⊢
  refine ⟨_,rfl,b3,x3,rfl,.inl (SqL.of (B2 _ _ (nb h3) h3)),fun a3 n3=>?_⟩
  refine ⟨_,rfl,p,J1,dx,[("days",d),("kinds",k),("needs",.ref a1),("persons",.ref a2)],rfl,(Jj (Jc e2 n3)).trans e2,tx.JW.cl,tx.J0G,(by show 4 < 1000; decide),?_⟩
  rw [putN (fs:=[("days",d),("kinds",k),("needs",.ref a1),("persons",.ref a2)]) (show ∀ g ∈ [("days" : Str),"kinds","needs","persons"],g ≠ "leave" from by decide +kernel)]
  have z3 : a3 ≠ p:=(Jc e2 n3).symm
  have B3 : But p H (upd (upd H2 a3 (.lst x3)) p (.ins J1 dx ([(("days" : Str),d),("kinds",k),("needs",.ref a1),("persons",.ref a2)] ++ [(("leave" : Str),.ref a3)]))):=(B2.new n3).at
  have e3 : upd (upd H2 a3 (.lst x3)) p (.ins J1 dx ([(("days" : Str),d),("kinds",k),("needs",.ref a1),("persons",.ref a2)] ++ [(("leave" : Str),.ref a3)])) p = some (.ins J1 dx [("days",d),("kinds",k),("needs",.ref a1),("persons",.ref a2),("leave",.ref a3)]):=Je
  have y3 : upd (upd H2 a3 (.lst x3)) p (.ins J1 dx ([(("days" : Str),d),("kinds",k),("needs",.ref a1),("persons",.ref a2)] ++ [(("leave" : Str),.ref a3)])) a3 = some (.lst x3):=by rw [Jj z3]; exact Je
  have y13 : upd (upd H2 a3 (.lst x3)) p (.ins J1 dx ([(("days" : Str),d),("kinds",k),("needs",.ref a1),("persons",.ref a2)] ++ [(("leave" : Str),.ref a3)])) a1 = some (.lst x1):=by rw [Jj z1,Jj (Jc y12 n3)]; exact y12
  have y23 : upd (upd H2 a3 (.lst x3)) p (.ins J1 dx ([(("days" : Str),d),("kinds",k),("needs",.ref a1),("persons",.ref a2)] ++ [(("leave" : Str),.ref a3)])) a2 = some (.lst x2):=by rw [Jj z2,Jj (Jc y2 n3)]; exact y2
  have m3 : H a3 = none:=by cases hh : H a3 with | none=>rfl | some o=>rw [B2 _ _ z3 hh] at n3; cases n3
  have d13:=Jc y12 n3
  have d23:=Jc y2 n3
  generalize upd (upd H2 a3 (.lst x3)) p (.ins J1 dx ([(("days" : Str),d),("kinds",k),("needs",.ref a1),("persons",.ref a2)] ++ [(("leave" : Str),.ref a3)])) = H3 at B3 e3 y3 y13 y23 ⊢
  refine ⟨_,rfl,b4,x4,rfl,.inl (SqL.of (B3 _ _ (nb h4) h4)),fun a4 n4=>?_⟩
  refine ⟨_,rfl,p,J1,dx,[("days",d),("kinds",k),("needs",.ref a1),("persons",.ref a2),("leave",.ref a3)],rfl,(Jj (Jc e3 n4)).trans e3,tx.JW.cl,tx.J0p,(by show 5 < 1000; decide),?_⟩
  rw [putN (fs:=[("days",d),("kinds",k),("needs",.ref a1),("persons",.ref a2),("leave",.ref a3)]) (show ∀ g ∈ [("days" : Str),"kinds","needs","persons","leave"],g ≠ "wishes" from by decide +kernel)]
  have z4 : a4 ≠ p:=(Jc e3 n4).symm
  have B4 : But p H (upd (upd H3 a4 (.lst x4)) p (.ins J1 dx ([(("days" : Str),d),("kinds",k),("needs",.ref a1),("persons",.ref a2),("leave",.ref a3)] ++ [(("wishes" : Str),.ref a4)]))):=(B3.new n4).at
  have e4 : upd (upd H3 a4 (.lst x4)) p (.ins J1 dx ([(("days" : Str),d),("kinds",k),("needs",.ref a1),("persons",.ref a2),("leave",.ref a3)] ++ [(("wishes" : Str),.ref a4)])) p = some (.ins J1 dx [("days",d),("kinds",k),("needs",.ref a1),("persons",.ref a2),("leave",.ref a3),("wishes",.ref a4)]):=Je
  have y4 : upd (upd H3 a4 (.lst x4)) p (.ins J1 dx ([(("days" : Str),d),("kinds",k),("needs",.ref a1),("persons",.ref a2),("leave",.ref a3)] ++ [(("wishes" : Str),.ref a4)])) a4 = some (.lst x4):=by rw [Jj z4]; exact Je
  have y14 : upd (upd H3 a4 (.lst x4)) p (.ins J1 dx ([(("days" : Str),d),("kinds",k),("needs",.ref a1),("persons",.ref a2),("leave",.ref a3)] ++ [(("wishes" : Str),.ref a4)])) a1 = some (.lst x1):=by rw [Jj z1,Jj (Jc y13 n4)]; exact y13
  have y24 : upd (upd H3 a4 (.lst x4)) p (.ins J1 dx ([(("days" : Str),d),("kinds",k),("needs",.ref a1),("persons",.ref a2),("leave",.ref a3)] ++ [(("wishes" : Str),.ref a4)])) a2 = some (.lst x2):=by rw [Jj z2,Jj (Jc y23 n4)]; exact y23
  have y34 : upd (upd H3 a4 (.lst x4)) p (.ins J1 dx ([(("days" : Str),d),("kinds",k),("needs",.ref a1),("persons",.ref a2),("leave",.ref a3)] ++ [(("wishes" : Str),.ref a4)])) a3 = some (.lst x3):=by rw [Jj z3,Jj (Jc y3 n4)]; exact y3
  have m4 : H a4 = none:=by cases hh : H a4 with | none=>rfl | some o=>rw [B3 _ _ z4 hh] at n4; cases n4
  have d14:=Jc y13 n4
  have d24:=Jc y23 n4
  have d34:=Jc y3 n4
  generalize upd (upd H3 a4 (.lst x4)) p (.ins J1 dx ([(("days" : Str),d),("kinds",k),("needs",.ref a1),("persons",.ref a2),("leave",.ref a3)] ++ [(("wishes" : Str),.ref a4)])) = H4 at B4 e4 y4 y14 y24 y34 ⊢
  refine ⟨_,rfl,b5,x5,rfl,.inl (SqL.of (B4 _ _ (nb h5) h5)),fun a5 n5=>?_⟩
  refine ⟨_,rfl,p,J1,dx,[("days",d),("kinds",k),("needs",.ref a1),("persons",.ref a2),("leave",.ref a3),("wishes",.ref a4)],rfl,(Jj (Jc e4 n5)).trans e4,tx.JW.cl,tx.J0j,(by show 6 < 1000; decide),?_⟩
  rw [putN (fs:=[("days",d),("kinds",k),("needs",.ref a1),("persons",.ref a2),("leave",.ref a3),("wishes",.ref a4)]) (show ∀ g ∈ [("days" : Str),"kinds","needs","persons","leave","wishes"],g ≠ "rules" from by decide +kernel)]
  have z5 : a5 ≠ p:=(Jc e4 n5).symm
  have B5 : But p H (upd (upd H4 a5 (.lst x5)) p (.ins J1 dx ([(("days" : Str),d),("kinds",k),("needs",.ref a1),("persons",.ref a2),("leave",.ref a3),("wishes",.ref a4)] ++ [(("rules" : Str),.ref a5)]))):=(B4.new n5).at
  have e5 : upd (upd H4 a5 (.lst x5)) p (.ins J1 dx ([(("days" : Str),d),("kinds",k),("needs",.ref a1),("persons",.ref a2),("leave",.ref a3),("wishes",.ref a4)] ++ [(("rules" : Str),.ref a5)])) p = some (.ins J1 dx [("days",d),("kinds",k),("needs",.ref a1),("persons",.ref a2),("leave",.ref a3),("wishes",.ref a4),("rules",.ref a5)]):=Je
  have y5 : upd (upd H4 a5 (.lst x5)) p (.ins J1 dx ([(("days" : Str),d),("kinds",k),("needs",.ref a1),("persons",.ref a2),("leave",.ref a3),("wishes",.ref a4)] ++ [(("rules" : Str),.ref a5)])) a5 = some (.lst x5):=by rw [Jj z5]; exact Je
  have y15 : upd (upd H4 a5 (.lst x5)) p (.ins J1 dx ([(("days" : Str),d),("kinds",k),("needs",.ref a1),("persons",.ref a2),("leave",.ref a3),("wishes",.ref a4)] ++ [(("rules" : Str),.ref a5)])) a1 = some (.lst x1):=by rw [Jj z1,Jj (Jc y14 n5)]; exact y14
  have y25 : upd (upd H4 a5 (.lst x5)) p (.ins J1 dx ([(("days" : Str),d),("kinds",k),("needs",.ref a1),("persons",.ref a2),("leave",.ref a3),("wishes",.ref a4)] ++ [(("rules" : Str),.ref a5)])) a2 = some (.lst x2):=by rw [Jj z2,Jj (Jc y24 n5)]; exact y24
  have y35 : upd (upd H4 a5 (.lst x5)) p (.ins J1 dx ([(("days" : Str),d),("kinds",k),("needs",.ref a1),("persons",.ref a2),("leave",.ref a3),("wishes",.ref a4)] ++ [(("rules" : Str),.ref a5)])) a3 = some (.lst x3):=by rw [Jj z3,Jj (Jc y34 n5)]; exact y34
  have y45 : upd (upd H4 a5 (.lst x5)) p (.ins J1 dx ([(("days" : Str),d),("kinds",k),("needs",.ref a1),("persons",.ref a2),("leave",.ref a3),("wishes",.ref a4)] ++ [(("rules" : Str),.ref a5)])) a4 = some (.lst x4):=by rw [Jj z4,Jj (Jc y4 n5)]; exact y4
  have m5 : H a5 = none:=by cases hh : H a5 with | none=>rfl | some o=>rw [B4 _ _ z5 hh] at n5; cases n5
  have d15:=Jc y14 n5
  have d25:=Jc y24 n5
  have d35:=Jc y34 n5
  have d45:=Jc y4 n5
  generalize upd (upd H4 a5 (.lst x5)) p (.ins J1 dx ([(("days" : Str),d),("kinds",k),("needs",.ref a1),("persons",.ref a2),("leave",.ref a3),("wishes",.ref a4)] ++ [(("rules" : Str),.ref a5)])) = H5 at B5 e5 y5 y15 y25 y35 y45 ⊢
  refine ⟨_,rfl,b6,x6,rfl,.inl (SqL.of (B5 _ _ (nb h6) h6)),fun a6 n6=>?_⟩
  refine ⟨_,rfl,p,J1,dx,[("days",d),("kinds",k),("needs",.ref a1),("persons",.ref a2),("leave",.ref a3),("wishes",.ref a4),("rules",.ref a5)],rfl,(Jj (Jc e5 n6)).trans e5,tx.JW.cl,tx.J0I,(by show 7 < 1000; decide),?_⟩
  rw [putN (fs:=[("days",d),("kinds",k),("needs",.ref a1),("persons",.ref a2),("leave",.ref a3),("wishes",.ref a4),("rules",.ref a5)]) (show ∀ g ∈ [("days" : Str),"kinds","needs","persons","leave","wishes","rules"],g ≠ "pairs" from by decide +kernel)]
  have z6 : a6 ≠ p:=(Jc e5 n6).symm
  have m6 : H a6 = none:=by cases hh : H a6 with | none=>rfl | some o=>rw [B5 _ _ z6 hh] at n6; cases n6
  have ds : Dis6 a1 a2 a3 a4 a5 a6:=⟨d12,d13,d14,d15,Jc y15 n6,d23,d24,d25,Jc y25 n6,d34,d35,Jc y35 n6,d45,Jc y45 n6,Jc y5 n6⟩
  refine q _ a1 a2 a3 a4 a5 a6 (B5.new n6).at Je ?_ ?_ ?_ ?_ ?_ ?_ m1 m2 m3 m4 m5 m6 ds
  ·rw [Jj z1,Jj (Jc y15 n6)]; exact y15
  ·rw [Jj z2,Jj (Jc y25 n6)]; exact y25
  ·rw [Jj z3,Jj (Jc y35 n6)]; exact y35
  ·rw [Jj z4,Jj (Jc y45 n6)]; exact y45
  ·rw [Jj z5,Jj (Jc y5 n6)]; exact y5
  ·rw [Jj z6]; exact Je
end
theorem Je1 : ∀ c : Nat,decide (c ∈ sgM) = J4E c:=by
 intro c
 by_cases h : c < 128
 ·have key : ∀ c < 128,decide (c ∈ sgM) = J4E c:=by decide +kernel
  exact key c h
 ·have n1 : ¬ c ∈ sgM:=fun z=>by
   have key : ∀ x ∈ sgM,x < 128:=by decide +kernel
   exact h (key c z)
  have n2 : J4E c = false:=by
   unfold J4E isUp
   rw [decide_eq_false (p:=c ≤ 90) (by omega),Bool.and_false,Bool.false_or]
   rw [show (c == 45) = false from beq_eq_false_iff_ne.mpr (by omega),show (c == 35) = false from beq_eq_false_iff_ne.mpr (by omega)]
   rfl
  rw [decide_eq_false n1,n2]
theorem JdS : ∀ c : Nat,decide (c ∈ sgW) = J54 c:=by
 intro c
 by_cases h : c < 128
 ·have key : ∀ c < 128,decide (c ∈ sgW) = J54 c:=by decide +kernel
  exact key c h
 ·have n1 : ¬ c ∈ sgW:=fun z=>by
   have key : ∀ x ∈ sgW,x < 128:=by decide +kernel
   exact h (key c z)
  have n2 : J54 c = false:=by
   unfold J54 isUp
   rw [decide_eq_false (p:=c ≤ 90) (by omega),Bool.and_false,Bool.false_or]
   rw [show (c == 45) = false from beq_eq_false_iff_ne.mpr (by omega),show (c == 35) = false from beq_eq_false_iff_ne.mpr (by omega),show (c == 63) = false from beq_eq_false_iff_ne.mpr (by omega)]
   rfl
  rw [decide_eq_false n1,n2]
noncomputable def J52 (w l : Wd) : Bool:=(w.map fun c=>decide (c ∈ l)).all id
theorem JgJ (w : Wd) : J52 w sgM = w.all J4E:=by
 unfold J52
 rw [List.all_map]
 congr 1
 funext c
 exact Je1 c
theorem Jgy (w : Wd) : J52 w sgW = w.all J54:=by
 unfold J52
 rw [List.all_map]
 congr 1
 funext c
 exact JdS c
theorem J6P (l : List Nat) : ∀ i,i ≤ l.length → ∀ s : Str,s ∈ metK (fun i=>(⟨#[l.getD i 0]⟩ : Str)) i ↔ ∃ x ∈ l.take i,s = ⟨#[x]⟩
 | 0,_,s=>by simp [metK]
 | i + 1,h,s=>by
  have ih:=J6P l i (by omega) s
  have e : l.getD i 0 = l[i]:=by rw [List.getD_eq_getElem?_getD,List.getElem?_eq_getElem (by omega)]; rfl
  have et : l.take (i + 1) = l.take i ++ [l[i]]:=by rw [List.take_succ_eq_append_getElem]
  rw [metK,et]
  by_cases hm : (⟨#[l.getD i 0]⟩ : Str) ∈ metK (fun i=>(⟨#[l.getD i 0]⟩ : Str)) i
  ·rw [if_pos hm,ih]
   obtain ⟨x,hx,ex⟩:=(J6P l i (by omega) _).mp hm
   rw [e] at ex
   have ex : l[i] = x:=by injection ex with z; simpa using z
   constructor
   ·rintro ⟨y,hy,rfl⟩
    exact ⟨y,List.mem_append_left _ hy,rfl⟩
   ·rintro ⟨y,hy,rfl⟩
    rcases List.mem_append.mp hy with hy | hy
    ·exact ⟨y,hy,rfl⟩
    ·rw [List.mem_singleton.mp hy,ex]
     exact ⟨x,hx,rfl⟩
  ·rw [if_neg hm,List.mem_append,ih,List.mem_singleton,e]
   constructor
   ·rintro (⟨y,hy,rfl⟩ | rfl)
    ·exact ⟨y,List.mem_append_left _ hy,rfl⟩
    ·exact ⟨l[i],List.mem_append_right _ (List.mem_singleton.mpr rfl),rfl⟩
   ·rintro ⟨y,hy,rfl⟩
    rcases List.mem_append.mp hy with hy | hy
    ·exact .inl ⟨y,hy,rfl⟩
    ·rw [List.mem_singleton.mp hy]
     exact .inr rfl
theorem J8n (l : List Nat) : ∀ i,i ≤ l.length → ((metK (fun i=>(⟨#[l.getD i 0]⟩ : Str)) i).length = i ↔ (l.take i).Nodup)
 | 0,_=>by simp [metK]
 | i + 1,h=>by
  have ih:=J8n l i (by omega)
  have hl:=J7D (fun i=>(⟨#[l.getD i 0]⟩ : Str)) i
  have e : l.getD i 0 = l[i]:=by rw [List.getD_eq_getElem?_getD,List.getElem?_eq_getElem (by omega)]; rfl
  have et : l.take (i + 1) = l.take i ++ [l[i]]:=by rw [List.take_succ_eq_append_getElem]
  have nd : (l.take i ++ [l[i]]).Nodup ↔ (l.take i).Nodup ∧ l[i] ∉ l.take i:=by
   rw [List.nodup_append]
   constructor
   ·rintro ⟨a,_,c⟩
    exact ⟨a,fun z=>c _ z _ (by simp) rfl⟩
   ·rintro ⟨a,c⟩
    exact ⟨a,by simp,fun x hx y hy z=>c (by rw [List.mem_singleton.mp hy] at z; rw [← z]; exact hx)⟩
  rw [metK,et,nd]
  by_cases hm : (⟨#[l.getD i 0]⟩ : Str) ∈ metK (fun i=>(⟨#[l.getD i 0]⟩ : Str)) i
  ·rw [if_pos hm]
   obtain ⟨x,hx,ex⟩:=(J6P l i (by omega) _).mp hm
   rw [e] at ex
   have ex : l[i] = x:=by injection ex with z; simpa using z
   constructor
   ·intro z
    omega
   ·rintro ⟨_,z⟩
    exact absurd (ex ▸ hx) z
  ·rw [if_neg hm,List.length_append,List.length_singleton]
   have nx : l[i] ∉ l.take i:=fun z=>hm ((J6P l i (by omega) _).mpr ⟨_,z,by rw [e]⟩)
   rw [← ih]
   constructor
   ·intro z
    exact ⟨by omega,nx⟩
   ·rintro ⟨z,_⟩
    omega
theorem J7Q (l : List Nat) : decide (V.int (J5E l : Int) = V.int (l.length : Int)) = decide l.Nodup:=by
 have k:=J8n l l.length (Nat.le_refl _)
 rw [List.take_length] at k
 have k2 : J5E l = l.length ↔ l.Nodup:=k
 by_cases h : l.Nodup
 ·rw [decide_eq_true h,decide_eq_true (by rw [k2.mpr h])]
 ·rw [decide_eq_false h,decide_eq_false]
  intro z
  injection z with z
  exact h (k2.mp (by omega))
noncomputable def figB (w l : Wd) : Bool:=decide (w.length = 1) && decide (w.getD 0 0 ∈ l)
noncomputable def Jf3 : Sp:=fun vs H Q _=>∃ w l,vs = [T w,T l] ∧ w.length ≤ 1000 ∧ ∀ H',Same H H' → Q (.bl (J52 w l)) H'
noncomputable def Jdv : Sp:=fun vs H Q _=>∃ w l,vs = [T w,T l] ∧ w.length ≤ 1000 ∧ Q (.bl (figB w l)) H
noncomputable def Jcl : Sp:=fun vs H Q _=>∃ w,vs = [T w] ∧ w.length ≤ 1000 ∧ ∀ H',Same H H' → Q (.bl (J1N w)) H'
noncomputable def Jcx : Sp:=fun vs H Q _=>∃ w,vs = [T w] ∧ w.length ≤ 1000 ∧ ∀ H',Same H H' → Q (.bl (J0l w)) H'
noncomputable def Jdd (K : PySem.W.Frag) : Sp:=fun vs H Q _=>∃ (D : Addr) (a n m d f : Wd),vs = [.ref D,T f] ∧ SqL K H D [T a,T n,T wOf,T m,T wIn,T d] ∧ n.length ≤ 1000 ∧ m.length ≤ 1000 ∧ d.length ≤ 1000 ∧ ∀ H',Same H H' → Q (.bl (decide (a = f) && (figB n fgN && (J0l m && figB d fgD)))) H'
noncomputable def JfG (K : PySem.W.Frag) : Sp:=fun vs H Q _=>∃ (D : Addr) (ws : List Wd) (wd : Wd),vs = [.ref D,T wd] ∧ SqL K H D (ws.map T) ∧ ws.length ≤ 1000 ∧ ∀ H',Same H H' → Q (.int (JJ ws wd)) H'
noncomputable def JgU (K : PySem.W.Frag) (c6 : Cs) : Sp:=fun vs H Q _=>∃ (D : Addr) (ws : List Wd) (r : R),vs = [.ref D] ∧ SqL K H D (ws.map T) ∧ J5d ws = some r ∧ ∀ p H',Same H H' → JH c6 H' r p → Q (.ref p) H'
noncomputable def JgP (K : PySem.W.Frag) (c6 : Cs) (n : Nat) : Sp:=fun vs H Q _=>∃ (D : Addr) (ws : List Wd) (r : R),vs = [.ref D] ∧ SqL K H D (ws.map T) ∧ rdW n ws = some r ∧ ws.length ≤ 1000 ∧ ∀ p H',Same H H' → JH c6 H' r p → Q (.ref p) H'
noncomputable def JgR (c6 : Cs) : Sp:=fun vs H Q _=>∃ (t : List Nat) (r : R),vs = [T t] ∧ rdW 60 (Jh 32 t) = some r ∧ t.length ≤ 10000 ∧ (Jh 32 t).length ≤ 60 ∧ ∀ p H',Same H H' → JH c6 H' r p → Q (.ref p) H'
theorem J3S (ws : List Wd) (lo hi : Option Int) : cutV (ws.map T) lo hi = (cutN ws lo hi).map T:=by
 unfold cutV cutN
 rw [List.length_map,List.map_take,List.map_drop]
theorem JdP (ws : List Wd) : (ws.map T).all J5J = true:=by
 rw [List.all_eq_true]
 rintro x hx
 obtain ⟨w,_,rfl⟩:=List.mem_map.mp hx
 rfl
theorem Jg9 (a b : List Nat) : eqV (T a) (T b) = decide (a = b):=by
 by_cases h : a = b
 ·subst h
  rw [decide_eq_true rfl]
  exact decide_eq_true rfl
 ·rw [decide_eq_false h]
  exact decide_eq_false fun z=>h (J1M (congrArg V.str z))
theorem JbT : ∀ (a b : List Wd),eqVs (a.map T) (b.map T) = decide (a = b)
 | [],[]=>rfl
 | [],y :: b=>rfl
 | x :: a,[]=>rfl
 | x :: a,y :: b=>by
  show (eqV (T x) (T y) && eqVs (a.map T) (b.map T)) = _
  rw [JbT a b,Jg9]
  by_cases e : x = y <;> by_cases e2 : a = b <;> simp [e,e2]
theorem Je0 {α : Type} (l : List α) : cutN l (some (-1)) none = l.drop (l.length - 1):=by
 unfold cutN
 rw [HT.sIx_none]
 have e : HT.sIx l.length 0 (some (-1)) = l.length - 1:=by
  show (if (-1 : Int) < 0 then ((-1 : Int) + (l.length : Int)).toNat else min (-1 : Int).toNat l.length) = _
  rw [if_pos (by decide)]
  omega
 rw [e]
 exact List.take_of_length_le (by rw [List.length_drop]; omega)
theorem JcH {α : Type} (l : List α) : cutN l (some 1) (some (-1)) = (l.drop 1).take (l.length - 2):=by
 unfold cutN
 have e1 : HT.sIx l.length 0 (some 1) = min 1 l.length:=by
  show (if (1 : Int) < 0 then ((1 : Int) + (l.length : Int)).toNat else min (1 : Int).toNat l.length) = _
  rw [if_neg (by decide)]
  rfl
 have e2 : HT.sIx l.length l.length (some (-1)) = l.length - 1:=by
  show (if (-1 : Int) < 0 then ((-1 : Int) + (l.length : Int)).toNat else min (-1 : Int).toNat l.length) = _
  rw [if_pos (by decide)]
  omega
 rw [e1,e2]
 cases l with
 | nil=>rfl
 | cons x r =>
  have : min 1 (x :: r).length = 1:=by simp
  rw [this]
  rfl
theorem J6v {lo hi : Nat} {w : Wd} {k : Nat} (h : fig lo hi w = some k) : ∃ c,w = [c] ∧ 48 + lo ≤ c ∧ c ≤ 48 + hi ∧ k = c - 48:=by
 unfold fig at h
 split at h
 ·rename_i c
  split at h
  ·rename_i hc
   exact ⟨c,rfl,hc.1,hc.2,(Option.some.inj h).symm⟩
  ·cases h
 ·cases h
theorem figN {c : Nat} (h0 : 48 ≤ c) (h1 : c ≤ 55) : figB [c] fgN = true:=by
 have key : ∀ k : Nat,k < 8 → figB [48 + k] fgN = true:=by decide +kernel
 have:=key (c - 48) (by omega)
 rwa [show 48 + (c - 48) = c by omega] at this
theorem figD {c : Nat} (h0 : 49 ≤ c) (h1 : c ≤ 55) : figB [c] fgD = true:=by
 have key : ∀ k : Nat,k < 7 → figB [49 + k] fgD = true:=by decide +kernel
 have:=key (c - 49) (by omega)
 rwa [show 49 + (c - 49) = c by omega] at this
theorem JaI {ws : List Wd} {r : R} (h : J5d ws = some r) : (∃ w,ws = [J4F,w] ∧ J1N w = true ∧ r = .nev w) ∨
  ∃ c m d,ws = [J3K,[c],wOf,m,wIn,[d]] ∧ (48 ≤ c ∧ c ≤ 55) ∧ (49 ≤ d ∧ d ≤ 55) ∧ J0l m = true ∧ r = .most ((c : Int) - 48) m ((d : Int) - 48) ∨
  ws = [J1Q,[c],wOf,m,wIn,[d]] ∧ (48 ≤ c ∧ c ≤ 55) ∧ (49 ≤ d ∧ d ≤ 55) ∧ J0l m = true ∧ r = .least ((c : Int) - 48) m ((d : Int) - 48):=by
 unfold J5d at h
 split at h
 ·rename_i a w
  split at h
  ·rename_i hh
   obtain ⟨rfl,hw⟩:=hh
   exact .inl ⟨w,rfl,hw,(Option.some.inj h).symm⟩
  ·cases h
 ·rename_i a n o m i d
  split at h
  ·rename_i hh
   obtain ⟨rfl,rfl,hm⟩:=hh
   split at h
   ·rename_i n' d' h1 h2
    obtain ⟨c,rfl,c0,c1,rfl⟩:=J6v h1
    obtain ⟨e,rfl,e0,e1,rfl⟩:=J6v h2
    have x1 : ((c - 48 : Nat) : Int) = (c : Int) - 48:=by omega
    have x2 : ((e - 48 : Nat) : Int) = (e : Int) - 48:=by omega
    rw [x1,x2] at h
    split at h
    ·rename_i ea
     subst ea
     exact .inr ⟨c,m,e,.inl ⟨rfl,⟨by omega,by omega⟩,⟨by omega,by omega⟩,hm,(Option.some.inj h).symm⟩⟩
    ·split at h
     ·rename_i ea
      subst ea
      exact .inr ⟨c,m,e,.inr ⟨rfl,⟨by omega,by omega⟩,⟨by omega,by omega⟩,hm,(Option.some.inj h).symm⟩⟩
     ·cases h
   ·cases h
  ·cases h
 ·cases h
theorem nwl {H : Hp} {l : Addr} {xs : List V} (h : H l = none) : ∃ H',H' = upd H l (.lst xs) ∧ H' l = some (.lst xs) ∧ Same H H':=⟨_,rfl,Je,JF h _⟩
section
variable {P : Program} {w : World} {K : PySem.W.Frag} {mg : Str → Option Value} {base : Heap} {J9 Jd J8 Jb J5 Ji J4 J1 : Addr}
theorem J3u (tx : Tx K mg J9 Jd J8 Jb J5 Ji J4 J1) : FnG P w K mg base "made_of" 1 ["word","signs"] Jf3:=by
 refine tx.JcA.g Jbj (fun _ _ _ _ _ _ us hl=>match us,hl with | [_,_],_=>rfl) (fun vs H Q E h=>?_) (fun f cdv A outer s H vs Q E hr h=>?_)
 ·obtain ⟨w,l,rfl,_⟩:=h
  rfl
 ·obtain ⟨w,l,rfl,hw,q⟩:=h
  refine ⟨_,(Ja (Jl (Jx (JbE (K:=K) rfl rfl) rfl tx.Jao Jgp (J0 (J1L (osc:=J7 J2W) (ON:=["word","signs"]) (N:=["sign","signs"]) (js:=[none,some 1]) ⟨rfl,by decide +kernel,by decide +kernel,by decide +kernel,rfl,by decide +kernel⟩ rfl rfl rfl (Jgk (pv 0)) (fun _ _ _ _ _=>Ju (i:=0) (show List.Nodup (["sign","signs"] : List Str) from by decide +kernel) rfl (Or.inl rfl)) (fun _ _ _ _ _=>J0q) (fun _ _ _ _ _=>(J0v JbC (pv 0) (pv 1) rfl))) J2)))),?_⟩
  walk_at "st"
  walk_at "rd"
  refine J7E (fun x=>match x with | .str z=>.bl (decide (z.cps.getD 0 0 ∈ l)) | v=>v) (JcP w) ?_ (fun x hx H' s' R hR=>?_) (fun D H' hD s' hDD=>?_)
  ·rw [List.length_map]; omega
  ·obtain ⟨k,_,rfl⟩:=List.mem_map.mp hx
   walk_at "rd"
   exact hR H' (Same.refl _)
  refine ⟨D,w.map fun c=>decide (c ∈ l),rfl,SqL.of ?_,?_⟩
  ·rw [hDD,List.map_map,List.map_map]
   rfl
  ·exact q H' s'
theorem Ja5 (tx : Tx K mg J9 Jd J8 Jb J5 Ji J4 J1) : FnG P w K mg base "is_figure" 1 ["word","figures"] Jdv:=by
 refine tx.J9L.g J8K (fun _ _ _ _ _ _ us hl=>match us,hl with | [_,_],_=>rfl) (fun vs H Q E h=>?_) (fun f cdv A outer s H vs Q E hr h=>?_)
 ·obtain ⟨w,l,rfl,_⟩:=h
  rfl
 ·obtain ⟨w,l,rfl,hw,q⟩:=h
  refine ⟨_,(Ja (Jl (J1R (J0v JO (Jx JT rfl tx.JS PySem.boot_len (J0 (pv 0) J2)) J3 (Js _)) (J33 (J0v JbC (pv 0) (pv 1) rfl))))),?_⟩
  walk_at "st"
  walk_at "rd"
  refine ite2 (fun c=>?_) (fun c=>?_)
  ·have c' : (w.length : Int) = 1:=by have:=of_decide_eq_true c; injection this
   obtain ⟨x,rfl⟩ : ∃ x,w = [x]:=List.length_eq_one_iff.mp (by omega)
   walk_at "rd"
   have e : figB [x] l = decide (x ∈ l):=by unfold figB; rw [decide_eq_true (show [x].length = 1 from rfl),Bool.true_and]; rfl
   rw [e] at q
   exact q
  ·have e : figB w l = false:=by
    unfold figB
    rw [decide_eq_false,Bool.false_and]
    intro z
    exact c (decide_eq_true (by rw [z]; rfl))
   rw [e] at q
   exact q
theorem Jco (tx : Tx K mg J9 Jd J8 Jb J5 Ji J4 J1) : FnG P w K mg base "is_word" 2 ["word"] Jcl:=by
 have J09:=J3u (P:=P) (w:=w) (base:=base) tx
 refine tx.Jcw.g Jbl (fun _ _ _ _ _ _ us hl=>match us,hl with | [_],_=>rfl) (fun vs H Q E h=>?_) (fun f cdv A outer s H vs Q E hr h=>?_)
 ·obtain ⟨w,rfl,_⟩:=h
  rfl
 ·obtain ⟨w,rfl,hw,q⟩:=h
  refine ⟨_,(Ja (Jl (J1R (J4C J2N J2N J3 (Jx JT rfl tx.JS PySem.boot_len (J0 (pv 0) J2)) J3) (J33 (Jv J09 (hr.mono (by decide)) (J0 (pv 0) (J0 (J3I (l:=[65,66,67,68,69,70,71,72,73,74,75,76,77,78,79,80,81,82,83,84,85,86,87,88,89,90,45,35,63]) rfl tx.J2z) J2))))))),?_⟩
  walk_at "st"
  walk_at "rd"
  refine ite2 (fun c1=>?_) (fun c1=>?_)
  ·have d1 : (1 : Int) ≤ (w.length : Int):=of_decide_eq_true c1
   walk_at "rd"
   refine ite2 (fun c2=>?_) (fun c2=>?_)
   ·have d2 : (w.length : Int) ≤ 7:=of_decide_eq_true c2
    walk_at "rd"
    intro H1 s1
    have e : J1N w = J52 w sgW:=by
     rw [Jgy]
     unfold J1N
     rw [decide_eq_true (show 1 ≤ w.length by omega),decide_eq_true (show w.length ≤ 7 by omega)]
     rfl
    have q1:=q H1 s1
    rw [e] at q1
    exact q1
   ·have d2 : ¬ (w.length : Int) ≤ 7:=fun z=>c2 (decide_eq_true z)
    have e : J1N w = false:=by
     unfold J1N
     rw [decide_eq_false (show ¬ w.length ≤ 7 by omega),Bool.and_false]
     rfl
    have q1:=q H (Same.refl _)
    rw [e] at q1
    exact q1
  ·have d1 : ¬ (1 : Int) ≤ (w.length : Int):=fun z=>c1 (decide_eq_true z)
   have e : J1N w = false:=by
    unfold J1N
    rw [decide_eq_false (show ¬ 1 ≤ w.length by omega)]
    rfl
   have q1:=q H (Same.refl _)
   rw [e] at q1
   walk_at "rd"
   exact q1
theorem Jal (tx : Tx K mg J9 Jd J8 Jb J5 Ji J4 J1) : FnG P w K mg base "are_marks" 2 ["word"] Jcx:=by
 have J09:=J3u (P:=P) (w:=w) (base:=base) tx
 refine tx.Jaj.g J8H (fun _ _ _ _ _ _ us hl=>match us,hl with | [_],_=>rfl) (fun vs H Q E h=>?_) (fun f cdv A outer s H vs Q E hr h=>?_)
 ·obtain ⟨w,rfl,_⟩:=h
  rfl
 ·obtain ⟨w,rfl,hw,q⟩:=h
  refine ⟨_,(Ja (Jl (J1R (J4C J2N J2N J3 (Jx JT rfl tx.JS PySem.boot_len (J0 (pv 0) J2)) J3) (J1R (Jv J09 (hr.mono (by decide)) (J0 (pv 0) (J0 (J3I (l:=[65,66,67,68,69,70,71,72,73,74,75,76,77,78,79,80,81,82,83,84,85,86,87,88,89,90,45,35]) rfl tx.J2G) J2))) (J33 (J0v JO (Jx J7N rfl tx.JS PySem.boot_len (J0 (JG (J8F rfl) rfl tx.J8j J8E (J0 (pv 0) J2)) J2)) (Jx JT rfl tx.JS PySem.boot_len (J0 (pv 0) J2)) (Js _))))))),?_⟩
  walk_at "st"
  walk_at "rd"
  refine ite2 (fun c1=>?_) (fun c1=>?_)
  ·have d1 : (1 : Int) ≤ (w.length : Int):=of_decide_eq_true c1
   walk_at "rd"
   refine ite2 (fun c2=>?_) (fun c2=>?_)
   ·have d2 : (w.length : Int) ≤ 8:=of_decide_eq_true c2
    walk_at "rd"
    intro H1 s1
    have e : J0l w = (J52 w sgM && decide w.Nodup):=by
     rw [JgJ]
     unfold J0l
     rw [decide_eq_true (show 1 ≤ w.length by omega),decide_eq_true (show w.length ≤ 8 by omega)]
     rfl
    walk_at "rd"
    refine ite2 (fun c3=>?_) (fun c3=>?_)
    ·walk_at "rd"
     intro p hp
     have q1:=q _ (s1.trans (JF hp (SO p (J5E w))))
     rw [e,c3,Bool.true_and,← J7Q] at q1
     walk_at "rd"
     exact q1
    ·have q1:=q H1 s1
     rw [e,Bool.eq_false_iff.mpr c3,Bool.false_and] at q1
     exact q1
   ·have d2 : ¬ (w.length : Int) ≤ 8:=fun z=>c2 (decide_eq_true z)
    have e : J0l w = false:=by
     unfold J0l
     rw [decide_eq_false (show ¬ w.length ≤ 8 by omega),Bool.and_false]
     rfl
    have q1:=q H (Same.refl _)
    rw [e] at q1
    exact q1
  ·have d1 : ¬ (1 : Int) ≤ (w.length : Int):=fun z=>c1 (decide_eq_true z)
   have e : J0l w = false:=by
    unfold J0l
    rw [decide_eq_false (show ¬ 1 ≤ w.length by omega)]
    rfl
   have q1:=q H (Same.refl _)
   rw [e] at q1
   walk_at "rd"
   exact q1
theorem J4v (tx : Tx K mg J9 Jd J8 Jb J5 Ji J4 J1) : FnG P w K mg base "last_outside" 1 ["words","wanted"] (JfG K):=by
 refine tx.J76.g J04 (fun _ _ _ _ _ _ us hl=>match us,hl with | [_,_],_=>rfl) (fun vs H Q E h=>?_) (fun f cdv A outer s H vs Q E hr h=>?_)
 ·obtain ⟨D,ws,wd,rfl,_⟩:=h
  rfl
 ·obtain ⟨D,ws,wd,rfl,hD,hl,q⟩:=h
  refine ⟨_,(J6 (Jw (i:=2) J04.nd rfl (Or.inl rfl) (J6x J4A J3))
   (J6 (Jw (i:=3) J04.nd rfl (Or.inl rfl) J3)
   (J6 (J2J PassesOwn.never rfl (Jd4 (K:=K) rfl rfl tx.J3e (J0 (pv 0) J2)) (J3H rfl (JB (Ju (i:=4) J04.nd rfl (Or.inl rfl)) (JB (Ju (i:=5) J04.nd rfl (Or.inl rfl)) J1f))) (Ja (JK (Jp JO (pv 5) (Jk (l:=[40]) (by decide +kernel)) (Js _)) (Ja (J4D (i:=3) J04.nd rfl (Or.inl rfl) J3 Jgw)) (Ja (JK (Jp JO (pv 5) (Jk (l:=[41]) (by decide +kernel)) (Js _)) (Ja (J4D (i:=3) J04.nd rfl (Or.inl rfl) J3 Jgv)) (Ja (JK (PW.pt (J34 (Jp JO (pv 5) (pv 1) (Js _)) (J2P (Jp JO (pv 3) J3 (Js _))))) (Ja (Jw (i:=2) J04.nd rfl (Or.inl rfl) (pv 4))) Jz)))))))
   (Ja (Jl (pv 2)))))),?_⟩
  walk_at "st"
  walk_at "rd"
  refine JcZ (K:=K) (xs:=ws.map T) (fun i σ H2=>Here (∃ v1 v2,σ = [some (.ref D),some (T wd),some (.int (lo wd 0 (-1,0) (ws.take i)).1),some (.int (lo wd 0 (-1,0) (ws.take i)).2),v1,v2] ∧ Same H H2)) (Here.mk ⟨none,none,rfl,Same.refl _⟩) (fun i σ H2 _ hv=>by obtain ⟨_,_,_,s2⟩:=hv.out; exact s2.seq hD) ?_ ?_
  ·rintro i x p σ H2 hx hp hv
   obtain ⟨v1,v2,rfl,s2⟩:=hv.out
   obtain ⟨wi,hwi,rfl⟩ : ∃ wi,ws[i]? = some wi ∧ x = T wi:=by
    rw [List.getElem?_map] at hx
    cases h : ws[i]? with
    | none=>rw [h] at hx; cases hx
    | some z=>rw [h] at hx; exact ⟨z,rfl,(Option.some.inj hx).symm⟩
   have s3 : Same H2 (upd H2 p (.tup [.int i,T wi])):=JF hp _
   have et : ws.take (i + 1) = ws.take i ++ [wi]:=by
    rw [List.take_add_one,hwi]
    rfl
   have il:=(List.getElem?_eq_some_iff.mp hwi).1
   have el : lo wd 0 (-1,0) (ws.take (i + 1)) = JL wd i (lo wd 0 (-1,0) (ws.take i)) wi:=by
    rw [et,J3k,List.length_take,Nat.min_eq_left (by omega),Nat.zero_add]
    rfl
   rw [el]
   obtain ⟨⟨st1,st2⟩,est⟩ : ∃ st,st = lo wd 0 (-1,0) (ws.take i):=⟨_,rfl⟩
   rw [← est]
   walk_at "rd"
   refine ite2 (fun c=>?_) (fun c=>?_)
   ·have c' : wi = wL:=J1M (of_decide_eq_true c)
    walk_at "rd"
    have e : JL wd i (st1,st2) wi = (st1,st2 + 1):=by unfold JL; rw [if_pos c']
    refine Here.mk ⟨some (.int i),some (T wi),?_,s2.trans s3⟩
    rw [e]
    rfl
   ·have c' : ¬ wi = wL:=fun z=>c (decide_eq_true (by rw [z]))
    walk_at "rd"
    refine ite2 (fun c1=>?_) (fun c1=>?_)
    ·have c1' : wi = wR:=J1M (of_decide_eq_true c1)
     walk_at "rd"
     have e : JL wd i (st1,st2) wi = (st1,st2 - 1):=by unfold JL; rw [if_neg c',if_pos c1']
     refine Here.mk ⟨some (.int i),some (T wi),?_,s2.trans s3⟩
     rw [e]
     rfl
    ·have c1' : ¬ wi = wR:=fun z=>c1 (decide_eq_true (by rw [z]))
     walk_at "rd"
     have no : ¬ (wi = wd ∧ st2 = 0) → JL wd i (st1,st2) wi = (st1,st2):=fun z=>by
      unfold JL
      rw [if_neg c',if_neg c1',if_neg z]
     refine ite2 (fun c2=>?_) (fun c2=>?_)
     ·have c2' : wi = wd:=J1M (of_decide_eq_true c2)
      walk_at "rd"
      refine ite2 (fun c3=>?_) (fun c3=>?_)
      ·have c3' : st2 = 0:=by have:=of_decide_eq_true c3; injection this
       walk_at "rd"
       have e : JL wd i (st1,st2) wi = ((i : Int),st2):=by unfold JL; rw [if_neg c',if_neg c1',if_pos ⟨c2',c3'⟩]
       refine Here.mk ⟨some (.int i),some (T wi),?_,s2.trans s3⟩
       rw [e]
      ·have c3' : ¬ st2 = 0:=fun z=>c3 (decide_eq_true (by rw [z]))
       refine Here.mk ⟨some (.int i),some (T wi),?_,s2.trans s3⟩
       rw [no fun z=>c3' z.2]
     ·have c2' : ¬ wi = wd:=fun z=>c2 (decide_eq_true (by rw [z]))
      refine Here.mk ⟨some (.int i),some (T wi),?_,s2.trans s3⟩
      rw [no fun z=>c2' z.1]
  ·rintro σ H2 hv
   obtain ⟨v1,v2,rfl,s2⟩:=hv.out
   rw [List.length_map,List.take_length]
   walk_at "rd"
   exact q H2 s2
theorem Jbs (tx : Tx K mg J9 Jd J8 Jb J5 Ji J4 J1) : FnG P w K mg base "is_count" 3 ["words","first"] (Jdd K):=by
 have J6n:=Ja5 (P:=P) (w:=w) (base:=base) tx
 have J9P:=Jal (P:=P) (w:=w) (base:=base) tx
 refine tx.Jb7.g Jaa (fun _ _ _ _ _ _ us hl=>match us,hl with | [_,_],_=>rfl) (fun vs H Q E h=>?_) (fun f cdv A outer s H vs Q E hr h=>?_)
 ·obtain ⟨D,a,n,m,d,f,rfl,_⟩:=h
  rfl
 ·obtain ⟨D,a,n,m,d,f,rfl,hD,hn,hm,hd,q⟩:=h
  refine ⟨_,(J6 (JK (PW.pt (J1O (Jp J3O (Jx (JE (K:=K) rfl) rfl tx.JS PySem.boot_len (J0 (pv 0) J2)) J3 (Js _)) (J1O (Jp J3O (Jr (Jg (K:=K) rfl) (pv 0) J3 (fun _ _=>rfl)) (pv 1) (Js _)) (J1O (Jp J3O (Jr (Jg (K:=K) rfl) (pv 0) J3 (fun _ _=>rfl)) (Jk (l:=[111,102]) (by decide +kernel)) (Js _)) (J1q (Jp J3O (Jr (Jg (K:=K) rfl) (pv 0) J3 (fun _ _=>rfl)) (Jk (l:=[105,110]) (by decide +kernel)) (Js _))))))) (Ja (Jl J1c)) Jz)
   (Ja (Jl (J1R (Jv J6n (hr.mono (by decide)) (J0 (Jr (Jg (K:=K) rfl) (pv 0) J3 (fun _ _=>rfl)) (J0 (J3I (l:=[48,49,50,51,52,53,54,55]) rfl tx.J1i) J2))) (J1R (Jv J9P (hr.mono (by decide)) (J0 (Jr (Jg (K:=K) rfl) (pv 0) J3 (fun _ _=>rfl)) J2)) (J33 (Jv J6n (hr.mono (by decide)) (J0 (Jr (Jg (K:=K) rfl) (pv 0) J3 (fun _ _=>rfl)) (J0 (J3I (l:=[49,50,51,52,53,54,55]) rfl tx.J1m) J2))))))))),?_⟩
  walk_at "st"
  have e0 : atI [T a,T n,T wOf,T m,T wIn,T d] (0 : Int) = some (T a):=by simp [atI,ixN]
  have e1 : atI [T a,T n,T wOf,T m,T wIn,T d] (1 : Int) = some (T n):=by simp [atI,ixN]
  have e2 : atI [T a,T n,T wOf,T m,T wIn,T d] (2 : Int) = some (T wOf):=by simp [atI,ixN]
  have e3 : atI [T a,T n,T wOf,T m,T wIn,T d] (3 : Int) = some (T m):=by simp [atI,ixN]
  have e4 : atI [T a,T n,T wOf,T m,T wIn,T d] (4 : Int) = some (T wIn):=by simp [atI,ixN]
  have e5 : atI [T a,T n,T wOf,T m,T wIn,T d] (5 : Int) = some (T d):=by simp [atI,ixN]
  walk_at "rd"
  refine ite2 (fun c=>?_) (fun c=>?_)
  ·have ea : decide (a = f) = false:=by
    refine decide_eq_false fun z=>?_
    rw [z,decide_eq_true rfl] at c
    cases c
   have q1:=q H (Same.refl _)
   rw [ea,Bool.false_and] at q1
   walk_at "rd"
   exact q1
  ·have ea : decide (a = f) = true:=by
    refine decide_eq_true (J1M ?_)
    cases z : decide (T a = T f) with
    | true=>exact of_decide_eq_true z
    | false=>rw [z] at c; exact absurd rfl c
   rw [ea,Bool.true_and] at q
   walk_at "rd"
   refine ite2 (fun c1=>?_) (fun c1=>?_)
   ·rw [c1,Bool.true_and] at q
    walk_at "rd"
    intro H1 s1
    have hD1:=s1.seq hD
    walk_at "rd"
    refine ite2 (fun c2=>?_) (fun c2=>?_)
    ·rw [c2,Bool.true_and] at q
     walk_at "rd"
     exact q H1 s1
    ·rw [Bool.eq_false_iff.mpr c2,Bool.false_and] at q
     walk_at "rd"
     exact q H1 s1
   ·rw [Bool.eq_false_iff.mpr c1,Bool.false_and] at q
    walk_at "rd"
    exact q H (Same.refl _)
theorem J9j (tx : Tx K mg J9 Jd J8 Jb J5 Ji J4 J1) : FnG P w K mg base "read_plain" 4 ["words"] (JgU K (cs6 J9 Jd J8 Jb J5 Ji J4 J1)):=by
 have Jcn:=Jco (P:=P) (w:=w) (base:=base) tx
 have J7o:=Jbs (P:=P) (w:=w) (base:=base) tx
 have Jf2:=tx.J5j.g (J8X (P:=P) (w:=w) (base:=base) tx)
 have Jg0:=tx.J58.g (Ja4 (P:=P) (w:=w) (base:=base) tx)
 have JeR:=tx.J4e.g (J8Z (P:=P) (w:=w) (base:=base) tx)
 refine tx.J9p.g J80 (fun _ _ _ _ _ _ us hl=>match us,hl with | [_],_=>rfl) (fun vs H Q E h=>?_) (fun f cdv A outer s H vs Q E hr h=>?_)
 ·obtain ⟨D,ws,r,rfl,_⟩:=h
  rfl
 ·obtain ⟨D,ws,r,rfl,hD,hp,q⟩:=h
  refine ⟨_,(J6 (JK (PW.pt (J34 (Jp JO (Jx (JE (K:=K) rfl) rfl tx.JS PySem.boot_len (J0 (pv 0) J2)) J3 (Js _)) (J34 (Jp JO (Jr (Jg (K:=K) rfl) (pv 0) J3 (fun _ _=>rfl)) (Jk (l:=[110,101,118,101,114]) (by decide +kernel)) (Js _)) (J2P (J0u (Jv Jcn (hr.mono (by decide)) (J0 (Jr (Jg (K:=K) rfl) (pv 0) J3 (fun _ _=>rfl)) J2))))))) (Ja (Jl (J3U (r:=rNev (cs6 J9 Jd J8 Jb J5 Ji J4 J1)) Jf2 (hr.mono (by decide)) Jgu (J0 (Jr (Jg (K:=K) rfl) (pv 0) J3 (fun _ _=>rfl)) J2)))) Jz)
   (J6 (JK (J0u (Jv J7o (hr.mono (by decide)) (J0 (pv 0) (J0 (Jk (l:=[109,111,115,116]) (by decide +kernel)) J2)))) (Ja (Jl (J3U (r:=JfQ (cs6 J9 Jd J8 Jb J5 Ji J4 J1)) Jg0 (hr.mono (by decide)) Jfq (J0 (JG J3q rfl tx.J5g J44 (J0 (Jr (Jg (K:=K) rfl) (pv 0) J3 (fun _ _=>rfl)) J2)) (J0 (Jr (Jg (K:=K) rfl) (pv 0) J3 (fun _ _=>rfl)) (J0 (JG J3q rfl tx.J5g J44 (J0 (Jr (Jg (K:=K) rfl) (pv 0) J3 (fun _ _=>rfl)) J2)) J2)))))) Jz)
   (J6 (JK (J0u (Jv J7o (hr.mono (by decide)) (J0 (pv 0) (J0 (Jk (l:=[108,101,97,115,116]) (by decide +kernel)) J2)))) (Ja (Jl (J3U (r:=Je6 (cs6 J9 Jd J8 Jb J5 Ji J4 J1)) JeR (hr.mono (by decide)) Jea (J0 (JG J3q rfl tx.J5g J44 (J0 (Jr (Jg (K:=K) rfl) (pv 0) J3 (fun _ _=>rfl)) J2)) (J0 (Jr (Jg (K:=K) rfl) (pv 0) J3 (fun _ _=>rfl)) (J0 (JG J3q rfl tx.J5g J44 (J0 (Jr (Jg (K:=K) rfl) (pv 0) J3 (fun _ _=>rfl)) J2)) J2)))))) Jz)
   (Ja J4I)))),?_⟩
  walk_at "st"
  rcases JaI hp with ⟨w,rfl,hw,rfl⟩ | ⟨c,m,d,⟨rfl,⟨c0,c1⟩,⟨d0,d1⟩,hm,rfl⟩ | ⟨rfl,⟨c0,c1⟩,⟨d0,d1⟩,hm,rfl⟩⟩
  ·have hD' : SqL K H D [T J4F,T w]:=hD
   have e0 : atI [T J4F,T w] (0 : Int) = some (T J4F):=by simp [atI,ixN]
   have e1 : atI [T J4F,T w] (1 : Int) = some (T w):=by simp [atI,ixN]
   obtain ⟨w1,w2⟩:=J67 hw
   clear hD hp
   walk_at "rd"
   intro H1 s1
   have hD1:=s1.seq hD'
   rw [hw]
   walk_at "rd"
   intro p H2 s2 r2
   exact q p H2 (s1.trans s2) r2
  ·have hD' : SqL K H D [T J3K,T [c],T wOf,T m,T wIn,T [d]]:=hD
   have e1 : atI [T J3K,T [c],T wOf,T m,T wIn,T [d]] (1 : Int) = some (T [c]):=by simp [atI,ixN]
   have e3 : atI [T J3K,T [c],T wOf,T m,T wIn,T [d]] (3 : Int) = some (T m):=by simp [atI,ixN]
   have e5 : atI [T J3K,T [c],T wOf,T m,T wIn,T [d]] (5 : Int) = some (T [d]):=by simp [atI,ixN]
   obtain ⟨m1,m2⟩:=J3y hm
   have et : (decide (J3K = [109,111,115,116]) && (figB [c] fgN && (J0l m && figB [d] fgD))) = true:=by rw [figN c0 c1,hm,figD d0 d1]; rfl
   have c2 : c ≤ 57:=by omega
   have d2 : d ≤ 57:=by omega
   have d3 : 48 ≤ d:=by omega
   clear hD hp
   walk_at "rd"
   intro H1 s1
   have hD1:=s1.seq hD'
   rw [et]
   walk_at "rd"
   intro p H2 s2 r2
   exact q p H2 (s1.trans s2) r2
  ·have hD' : SqL K H D [T J1Q,T [c],T wOf,T m,T wIn,T [d]]:=hD
   have e1 : atI [T J1Q,T [c],T wOf,T m,T wIn,T [d]] (1 : Int) = some (T [c]):=by simp [atI,ixN]
   have e3 : atI [T J1Q,T [c],T wOf,T m,T wIn,T [d]] (3 : Int) = some (T m):=by simp [atI,ixN]
   have e5 : atI [T J1Q,T [c],T wOf,T m,T wIn,T [d]] (5 : Int) = some (T [d]):=by simp [atI,ixN]
   obtain ⟨m1,m2⟩:=J3y hm
   have ef : (decide (J1Q = [109,111,115,116]) && (figB [c] fgN && (J0l m && figB [d] fgD))) = false:=by rw [decide_eq_false (by decide)]; rfl
   have et : (decide (J1Q = [108,101,97,115,116]) && (figB [c] fgN && (J0l m && figB [d] fgD))) = true:=by rw [figN c0 c1,hm,figD d0 d1]; rfl
   have c2 : c ≤ 57:=by omega
   have d2 : d ≤ 57:=by omega
   have d3 : 48 ≤ d:=by omega
   clear hD hp
   walk_at "rd"
   intro H1 s1
   have hD1:=s1.seq hD'
   rw [ef]
   walk_at "rd"
   intro H3 s3
   have hD3:=s3.seq hD1
   rw [et]
   walk_at "rd"
   intro p H2 s2 r2
   exact q p H2 (s1.trans (s3.trans s2)) r2
end
section
variable {P : Program} {w : World} {K : PySem.W.Frag} {mg : Str → Option Value} {base : Heap} {J9 Jd J8 Jb J5 Ji J4 J1 : Addr}
theorem J5s (tx : Tx K mg J9 Jd J8 Jb J5 Ji J4 J1) : ∀ n,FnG P w K mg base "read_words" (5 + n) ["words"] (JgP K (cs6 J9 Jd J8 Jb J5 Ji J4 J1) n)
 | 0=>by
  have J0f : FnG P w K mg base "last_outside" 1 ["words","wanted"] (JfG K):=J4v (P:=P) (w:=w) (base:=base) tx
  refine FnG.mono (j:=5) (tx.J5v.g J35 (fun _ _ _ _ _ _ us hl=>match us,hl with | [_],_=>rfl) (fun vs H Q E h=>?_) (fun f cdv A outer s H vs Q E hr h=>?_)) (by omega)
  ·obtain ⟨D,ws,r,rfl,_⟩:=h
   rfl
  ·obtain ⟨D,ws,r,_,_,hn,_⟩:=h
   rw [rdW] at hn
   cases hn
 | n + 1=>by
  have J0f:=J5s tx n
  have J4s:=J4v (P:=P) (w:=w) (base:=base) tx
  have J9b:=J9j (P:=P) (w:=w) (base:=base) tx
  have JfX:=tx.J56.g (J9Z (P:=P) (w:=w) (base:=base) tx)
  have Jdu:=tx.J2w.g (J7W (P:=P) (w:=w) (base:=base) tx)
  have JgS:=tx.Ja6.g (Jb4 (P:=P) (w:=w) (base:=base) tx)
  refine FnG.mono (j:=(5 + n) + 1) (tx.J5v.g J35 (fun _ _ _ _ _ _ us hl=>match us,hl with | [_],_=>rfl) (fun vs H Q E h=>?_) (fun f cdv A outer s H vs Q E hr h=>?_)) (by omega)
  ·obtain ⟨D,ws,r,rfl,_⟩:=h
   rfl
  ·obtain ⟨D,ws,r,rfl,hD,hn,hl,q⟩:=h
   refine ⟨_,(J6 (Jw (i:=1) J35.nd rfl (Or.inl rfl) (Jv J4s (hr.mono (by omega)) (J0 (pv 0) (J0 (Jk (l:=[111,114]) (by decide +kernel)) J2))))
   (J6 (JK (Jp Jeu (pv 1) J3 (Js _)) (Ja (Jl (J3U (r:=Jc7 (cs6 J9 Jd J8 Jb J5 Ji J4 J1)) Jdu (hr.mono (by omega)) JcN (J0 (Jv J0f (hr.mono (by omega)) (J0 (J08 (J0S (K:=K) rfl) (pv 0) J0M (J0c (pv 1))) J2)) (J0 (Jv J0f (hr.mono (by omega)) (J0 (J08 (J0S (K:=K) rfl) (pv 0) (J0c (Jf J0h (pv 1) J3)) J0M) J2)) J2))))) Jz)
   (J6 (Jw (i:=1) J35.nd rfl (Or.inl rfl) (Jv J4s (hr.mono (by omega)) (J0 (pv 0) (J0 (Jk (l:=[97,110,100]) (by decide +kernel)) J2))))
   (J6 (JK (Jp Jeu (pv 1) J3 (Js _)) (Ja (Jl (J3U (r:=JfI (cs6 J9 Jd J8 Jb J5 Ji J4 J1)) JfX (hr.mono (by omega)) Jfy (J0 (Jv J0f (hr.mono (by omega)) (J0 (J08 (J0S (K:=K) rfl) (pv 0) J0M (J0c (pv 1))) J2)) (J0 (Jv J0f (hr.mono (by omega)) (J0 (J08 (J0S (K:=K) rfl) (pv 0) (J0c (Jf J0h (pv 1) J3)) J0M) J2)) J2))))) Jz)
   (J6 (JK (Jp (JbQ (K:=K) rfl hr.units0) (J08 (J0S (K:=K) rfl) (pv 0) J0M (J0c J3)) (J0d (J0 (Jk (l:=[110,111,116]) (by decide +kernel)) J2)) (Js _)) (Ja (Jl (J3U (r:=rNot (cs6 J9 Jd J8 Jb J5 Ji J4 J1)) JgS (hr.mono (by omega)) Jg3 (J0 (Jv J0f (hr.mono (by omega)) (J0 (J08 (J0S (K:=K) rfl) (pv 0) (J0c J3) J0M) J2)) J2)))) Jz)
   (J6 (JK (PW.pt (J34 (Jp (JbQ (K:=K) rfl hr.units0) (J08 (J0S (K:=K) rfl) (pv 0) J0M (J0c J3)) (J0d (J0 (Jk (l:=[40]) (by decide +kernel)) J2)) (Js _)) (J2P (Jp (JbQ (K:=K) rfl hr.units0) (J08 (J0S (K:=K) rfl) (pv 0) (J0c (J6x J4A J3)) J0M) (J0d (J0 (Jk (l:=[41]) (by decide +kernel)) J2)) (Js _))))) (Ja (Jl (Jv J0f (hr.mono (by omega)) (J0 (J08 (J0S (K:=K) rfl) (pv 0) (J0c J3) (J0c (J6x J4A J3))) J2)))) Jz)
   (Ja (Jl (Jv J9b (hr.mono (by omega)) (J0 (pv 0) J2)))))))))),?_⟩
   walk_at "st"
   rw [rdW] at hn
   walk_at "rd"
   intro H1 s1
   have hD1:=s1.seq hD
   walk_at "rd"
   refine ite2 (fun c=>?_) (fun c=>?_)
   ·have c' : 0 ≤ JJ ws wOr:=of_decide_eq_true c
    rw [if_pos c'] at hn
    split at hn
    ·rename_i x y hx hy
     cases hn
     walk_at "rd"
     intro p1 hp1
     obtain ⟨H2,e2,hp2,s2⟩:=nwl (xs:=cutV (ws.map T) none (some (JJ ws wOr))) hp1
     rw [← e2]
     clear e2
     have q2 : SqL K H2 p1 ((ws.take (JJ ws wOr).toNat).map T):=by
      rw [← J6i _ _ c',← J3S]
      exact SqL.of hp2
     have l2 : (ws.take (JJ ws wOr).toNat).length ≤ 1000:=by rw [List.length_take]; omega
     have hD2:=s2.seq hD1
     walk_at "rd"
     intro pa Ha sa ra
     have hDa:=sa.seq hD2
     walk_at "rd"
     intro p3 hp3
     obtain ⟨H3,e3,hp4,s3⟩:=nwl (xs:=cutV (ws.map T) (some (JJ ws wOr + 1)) none) hp3
     rw [← e3]
     clear e3
     have q3 : SqL K H3 p3 ((ws.drop ((JJ ws wOr).toNat + 1)).map T):=by
      rw [show (JJ ws wOr).toNat + 1 = (JJ ws wOr + 1).toNat by omega,← J45 _ _ (by omega),← J3S]
      exact SqL.of hp4
     have l3 : (ws.drop ((JJ ws wOr).toNat + 1)).length ≤ 1000:=by rw [List.length_drop]; omega
     walk_at "rd"
     intro pb Hb sb rb
     have ra':=(ra.same s3).same sb
     walk_at "rd"
     intro p dx H5 s5 r5 _
     exact q p H5 (s1.trans (s2.trans (sa.trans (s3.trans (sb.trans s5))))) r5
    ·cases hn
   ·have c' : ¬ 0 ≤ JJ ws wOr:=fun z=>c (decide_eq_true z)
    rw [if_neg c'] at hn
    clear c c'
    walk_at "rd"
    intro H1b s1b
    have hD1b:=s1b.seq hD1
    have s1c:=s1.trans s1b
    clear hD1 s1 s1b
    walk_at "rd"
    refine ite2 (fun c=>?_) (fun c=>?_)
    ·have c' : 0 ≤ JJ ws wAnd:=of_decide_eq_true c
     rw [if_pos c'] at hn
     split at hn
     ·rename_i x y hx hy
      cases hn
      walk_at "rd"
      intro p1 hp1
      obtain ⟨H2,e2,hp2,s2⟩:=nwl (xs:=cutV (ws.map T) none (some (JJ ws wAnd))) hp1
      rw [← e2]
      clear e2
      have q2 : SqL K H2 p1 ((ws.take (JJ ws wAnd).toNat).map T):=by
       rw [← J6i _ _ c',← J3S]
       exact SqL.of hp2
      have l2 : (ws.take (JJ ws wAnd).toNat).length ≤ 1000:=by rw [List.length_take]; omega
      have hD2:=s2.seq hD1b
      walk_at "rd"
      intro pa Ha sa ra
      have hDa:=sa.seq hD2
      walk_at "rd"
      intro p3 hp3
      obtain ⟨H3,e3,hp4,s3⟩:=nwl (xs:=cutV (ws.map T) (some (JJ ws wAnd + 1)) none) hp3
      rw [← e3]
      clear e3
      have q3 : SqL K H3 p3 ((ws.drop ((JJ ws wAnd).toNat + 1)).map T):=by
       rw [show (JJ ws wAnd).toNat + 1 = (JJ ws wAnd + 1).toNat by omega,← J45 _ _ (by omega),← J3S]
       exact SqL.of hp4
      have l3 : (ws.drop ((JJ ws wAnd).toNat + 1)).length ≤ 1000:=by rw [List.length_drop]; omega
      walk_at "rd"
      intro pb Hb sb rb
      have ra':=(ra.same s3).same sb
      walk_at "rd"
      intro p dx H5 s5 r5 _
      exact q p H5 (s1c.trans (s2.trans (sa.trans (s3.trans (sb.trans s5))))) r5
     ·cases hn
    ·have c' : ¬ 0 ≤ JJ ws wAnd:=fun z=>c (decide_eq_true z)
     rw [if_neg c'] at hn
     clear c c'
     have f1 : (cutV (ws.map T) none (some 1)).all J5J = true:=by rw [J3S]; exact JdP _
     have f2 : (cutV (ws.map T) (some (-1)) none).all J5J = true:=by rw [J3S]; exact JdP _
     have k1 : ∀ w : Wd,eqVs (cutV (ws.map T) none (some 1)) [T w] = decide (ws.take 1 = [w]):=fun w=>by
      rw [J3S,J6i _ _ (by decide)]
      exact JbT _ [w]
     have k2 : ∀ w : Wd,eqVs (cutV (ws.map T) (some (-1)) none) [T w] = decide (ws.drop (ws.length - 1) = [w]):=fun w=>by
      rw [J3S,Je0]
      exact JbT _ [w]
     walk_at "rd"
     intro p1 hp1
     obtain ⟨H2,e2,hp2,s2⟩:=nwl (xs:=cutV (ws.map T) none (some 1)) hp1
     rw [← e2]
     clear e2
     have hD2:=s2.seq hD1b
     walk_at "rd"
     intro p3 hp3
     obtain ⟨H3,e3,hp4,s3⟩:=nwl (xs:=[T [110,111,116]]) hp3
     rw [← e3]
     clear e3
     have hp5:=s3 _ _ hp2
     have hD3:=s3.seq hD2
     walk_at "rd"
     refine ite2 (fun c=>?_) (fun c=>?_)
     ·have c' : ws.take 1 = [wNot]:=by
       have c2 : eqVs (cutV (ws.map T) none (some 1)) [T wNot] = true:=c
       rw [k1] at c2
       exact of_decide_eq_true c2
      rw [if_pos c'] at hn
      split at hn
      ·rename_i x hx
       cases hn
       walk_at "rd"
       intro p6 hp6
       obtain ⟨H4,e4,hp7,s4⟩:=nwl (xs:=cutV (ws.map T) (some 1) none) hp6
       rw [← e4]
       clear e4
       have q4 : SqL K H4 p6 ((ws.drop 1).map T):=by
        have e:=J45 ws 1 (by decide)
        rw [J3S,e] at hp7
        exact SqL.of hp7
       have l4 : (ws.drop 1).length ≤ 1000:=by rw [List.length_drop]; omega
       walk_at "rd"
       intro pa Ha sa ra
       walk_at "rd"
       intro p dx H5 s5 r5 _
       exact q p H5 (s1c.trans (s2.trans (s3.trans (s4.trans (sa.trans s5))))) r5
      ·cases hn
     ·have c' : ¬ ws.take 1 = [wNot]:=fun z=>c (by
       show eqVs (cutV (ws.map T) none (some 1)) [T wNot] = true
       rw [k1]
       exact decide_eq_true z)
      rw [if_neg c'] at hn
      clear c c'
      have s03:=s1c.trans (s2.trans s3)
      clear hp5 hp4 hp3 hp2 hp1 hD2 s1c s2 s3 hD1b
      walk_at "rd"
      intro p6 hp6
      obtain ⟨H4,e4,hp7,s4⟩:=nwl (xs:=cutV (ws.map T) none (some 1)) hp6
      rw [← e4]
      clear e4
      have hD4:=s4.seq hD3
      walk_at "rd"
      intro p8 hp8
      obtain ⟨H5,e5,hp9,s5⟩:=nwl (xs:=[T [40]]) hp8
      rw [← e5]
      clear e5
      have hp10:=s5 _ _ hp7
      have hD5:=s5.seq hD4
      have s05:=s03.trans (s4.trans s5)
      walk_at "rd"
      refine ite2 (fun c=>?_) (fun c=>?_)
      ·have c1 : ws.take 1 = [wL]:=by
        have c2 : eqVs (cutV (ws.map T) none (some 1)) [T wL] = true:=c
        rw [k1] at c2
        exact of_decide_eq_true c2
       clear c hp10 hp9 hp8 hp7 hp6 hD4 s4 s5 hD3 s03
       walk_at "rd"
       intro pb hpb
       obtain ⟨H6,e6,hpb2,s6⟩:=nwl (xs:=cutV (ws.map T) (some (-1)) none) hpb
       rw [← e6]
       clear e6
       have hD6:=s6.seq hD5
       walk_at "rd"
       intro pc hpc
       obtain ⟨H7,e7,hpc2,s7⟩:=nwl (xs:=[T [41]]) hpc
       rw [← e7]
       clear e7
       have hpb3:=s7 _ _ hpb2
       have hD7:=s7.seq hD6
       have s07:=s05.trans (s6.trans s7)
       walk_at "rd"
       refine ite2 (fun c=>?_) (fun c=>?_)
       ·have c3 : ws.drop (ws.length - 1) = [wR]:=by
         have c2 : eqVs (cutV (ws.map T) (some (-1)) none) [T wR] = true:=c
         rw [k2] at c2
         exact of_decide_eq_true c2
        rw [if_pos ⟨c1,c3⟩] at hn
        walk_at "rd"
        intro pd hpd
        obtain ⟨H8,e8,hpd2,s8⟩:=nwl (xs:=cutV (ws.map T) (some 1) (some (-1))) hpd
        rw [← e8]
        clear e8
        have q8 : SqL K H8 pd (((ws.drop 1).take (ws.length - 2)).map T):=by
         rw [J3S,JcH] at hpd2
         exact SqL.of hpd2
        have l8 : ((ws.drop 1).take (ws.length - 2)).length ≤ 1000:=by rw [List.length_take,List.length_drop]; omega
        walk_at "rd"
        intro p H9 s9 r9
        exact q p H9 (s07.trans (s8.trans s9)) r9
       ·have c3 : ¬ ws.drop (ws.length - 1) = [wR]:=fun z=>c (by
         show eqVs (cutV (ws.map T) (some (-1)) none) [T wR] = true
         rw [k2]
         exact decide_eq_true z)
        rw [if_neg fun z=>c3 z.2] at hn
        walk_at "rd"
        intro p H9 s9 r9
        exact q p H9 (s07.trans s9) r9
      ·have c1 : ¬ ws.take 1 = [wL]:=fun z=>c (by
        show eqVs (cutV (ws.map T) none (some 1)) [T wL] = true
        rw [k1]
        exact decide_eq_true z)
       rw [if_neg fun z=>c1 z.1] at hn
       walk_at "rd"
       intro p H9 s9 r9
       exact q p H9 (s05.trans s9) r9
end
section
variable {P : Program} {w : World} {K : PySem.W.Frag} {mg : Str → Option Value} {base : Heap} {J9 Jd J8 Jb J5 Ji J4 J1 : Addr}
theorem Jak (tx : Tx K mg J9 Jd J8 Jb J5 Ji J4 J1) : FnG P w K mg base "read_rule" 66 ["text"] (JgR (cs6 J9 Jd J8 Jb J5 Ji J4 J1)):=by
 have J0f:=J5s (P:=P) (w:=w) (base:=base) tx 60
 refine tx.J9R.g J5t (fun _ _ _ _ _ _ us hl=>match us,hl with | [_],_=>rfl) (fun vs H Q E h=>?_) (fun f cdv A outer s H vs Q E hr h=>?_)
 ·obtain ⟨t,r,rfl,_⟩:=h
  rfl
 ·obtain ⟨t,r,rfl,hn,ht,hl,q⟩:=h
  refine ⟨_,(J6 (Jw (i:=1) J5t.nd rfl (Or.inl rfl) (J6a (K:=K) rfl (pv 0) (J0 (Jk (l:=[32]) (by decide +kernel)) J2)))
   (J6 (JK (Jp J7G (Jx (JE (K:=K) rfl) rfl tx.JS PySem.boot_len (J0 (pv 1) J2)) (J0T rfl tx.J2D) (Js _)) (Ja J4I) Jz)
   (Ja (Jl (Jv J0f (hr.mono (by decide)) (J0 (pv 1) J2)))))),?_⟩
  walk_at "st"
  walk_at "rd"
  intro p hp
  obtain ⟨H1,e1,hp1,s1⟩:=nwl (xs:=(Jh 32 t).map T) hp
  rw [← e1]
  clear e1
  have q1 : SqL K H1 p ((Jh 32 t).map T):=SqL.of hp1
  have l1 : (Jh 32 t).length ≤ 1000:=by omega
  walk_at "rd"
  refine ite2 (fun c=>?_) (fun c=>?_)
  ·have c':=of_decide_eq_true c
   rw [List.length_map] at c'
   omega
  walk_at "rd"
  intro p2 H2 s2 r2
  exact q p2 H2 (s1.trans s2) r2
end
noncomputable def JgO : Sp:=fun vs H Q _=>∃ w n m d,vs = [T w,.int n,T m,.int d] ∧ 0 ≤ n ∧ n ≤ 9 ∧ 0 ≤ d ∧ d ≤ 9 ∧ w.length ≤ 9 ∧ m.length ≤ 9 ∧ Q (T (cnT w n m d)) H
noncomputable def JfZ (c : Cs) : Sp:=fun vs H Q _=>∃ (r : R) (p : Addr),vs = [.ref p] ∧ JH c H r p ∧ Q (.bl (decide (0 < r.lvl))) H
noncomputable def Ja8 (c : Cs) (r : R) : Sp:=fun vs H Q _=>∃ p,vs = [.ref p] ∧ JH c H r p ∧ Q (T r.tx) H
noncomputable def JgN (c : Cs) (n : Nat) : Sp:=fun vs H Q _=>∃ (r : R) (p : Addr) (b : Bool),vs = [.ref p,.bl b] ∧ JH c H r p ∧ r.ok ∧ r.sz ≤ n ∧ r.sz ≤ 25 ∧ Q (T (brT b r.tx)) H
theorem R.tx_len {r : R} (h : r.ok) : r.tx.length ≤ 32 * r.sz:=(R.tx_ok h).ln
section
variable {P : Program} {w : World} {K : PySem.W.Frag} {mg : Str → Option Value} {base : Heap} {J9 Jd J8 Jb J5 Ji J4 J1 : Addr}
local macro_rules | `(tactic| walk_at "lk")=>`(tactic| first | exact wl _ | exact Jfj _ _ _ | exact JdR _ _ _ | exact JfB _ _ _ | exact Jf5 _ _ | exact JeO _ _ | exact Je5 _)
theorem J5r (tx : Tx K mg J9 Jd J8 Jb J5 Ji J4 J1) : FnG P w K mg base "count_text" 1 ["word","many","marks","days"] JgO:=by
 refine tx.J9s.g J85 (fun _ _ _ _ _ _ us hl=>match us,hl with | [_,_,_,_],_=>rfl) (fun vs H Q E h=>?_) (fun f cdv A outer s H vs Q E hr h=>?_)
 ·obtain ⟨w,n,m,d,rfl,_⟩:=h
  rfl
 ·obtain ⟨w,n,m,d,rfl,n0,n1,d0,d1,hw,hm,q⟩:=h
  obtain ⟨n,rfl⟩ : ∃ k : Nat,n = (k : Int):=⟨n.toNat,by omega⟩
  obtain ⟨d,rfl⟩ : ∃ k : Nat,d = (k : Int):=⟨d.toNat,by omega⟩
  refine ⟨_,(Ja (Jl (J2O (Jy (J1p (pv 0)) (Jy (J0w (l:=[32]) (by decide +kernel)) (Jy (JdO (pv 1)) (Jy (J0w (l:=[32,111,102,32]) (by decide +kernel)) (Jy (J1p (pv 2)) (Jy (J0w (l:=[32,105,110,32]) (by decide +kernel)) (Jy (JdO (pv 3)) J2K)))))))))),?_⟩
  walk_at "st"
  have n2 : n ≤ 9:=by omega
  have d2 : d ≤ 9:=by omega
  walk_at "rd"
  exact q
theorem R.kinds (tx : Tx K mg J9 Jd J8 Jb J5 Ji J4 J1) {H : Hp} {r : R} {p : Addr} (h : JH (cs6 J9 Jd J8 Jb J5 Ji J4 J1) H r p) : ∃ dx fs b1 b2,H p = some (.ins (r.cls (cs6 J9 Jd J8 Jb J5 Ji J4 J1)) dx fs) ∧ J6w K (r.cls (cs6 J9 Jd J8 Jb J5 Ji J4 J1)) ∧ PySem.W.kitOne K (.ref (r.cls (cs6 J9 Jd J8 Jb J5 Ji J4 J1))) (.ref Jb) = some b1 ∧ PySem.W.kitOne K (.ref (r.cls (cs6 J9 Jd J8 Jb J5 Ji J4 J1))) (.ref J5) = some b2 ∧
  (b1 || b2) = decide (0 < r.lvl) ∧ b2 = decide (1 < r.lvl) ∧ fs.lookup ("text" : Str) = none:=by
 obtain ⟨dx,fs,ob,_,_,nt⟩:=h.obj
 cases r with
 | nev _=>exact ⟨dx,fs,_,_,ob,tx.JeZ,tx.J2B,tx.J1n,rfl,rfl,nt⟩
 | most _ _ _=>exact ⟨dx,fs,_,_,ob,tx.JfY,tx.J3g,tx.J1Y,rfl,rfl,nt⟩
 | least _ _ _=>exact ⟨dx,fs,_,_,ob,tx.JeY,tx.J2v,tx.J1g,rfl,rfl,nt⟩
 | both _ _=>exact ⟨dx,fs,_,_,ob,tx.JfR,tx.J38,tx.J1W,rfl,rfl,nt⟩
 | either _ _=>exact ⟨dx,fs,_,_,ob,tx.Jdm,tx.J1X,tx.J0Y,rfl,rfl,nt⟩
 | neg _=>exact ⟨dx,fs,_,_,ob,tx.JgT,tx.J3C,tx.J2H,rfl,rfl,nt⟩
theorem J6o (tx : Tx K mg J9 Jd J8 Jb J5 Ji J4 J1) : FnG P w K mg base "is_joined" 1 ["rule"] (JfZ (cs6 J9 Jd J8 Jb J5 Ji J4 J1)):=by
 refine tx.Jac.g J8L (fun _ _ _ _ _ _ us hl=>match us,hl with | [_],_=>rfl) (fun vs H Q E h=>?_) (fun f cdv A outer s H vs Q E hr h=>?_)
 ·obtain ⟨r,p,rfl,_⟩:=h
  rfl
 ·obtain ⟨r,p,rfl,hR,q⟩:=h
  refine ⟨_,(Ja (Jl (Jex (Jx (J4k (K:=K) rfl) rfl tx.J0g J22 (J0 (pv 0) (J0 (J4j (v:=.ref Jb) rfl tx.J56.mg rfl) J2))) (J33 (Jx (J4k (K:=K) rfl) rfl tx.J0g J22 (J0 (pv 0) (J0 (J4j (v:=.ref J5) rfl tx.J2w.mg rfl) J2))))))),?_⟩
  walk_at "st"
  obtain ⟨dx,fs,b1,b2,ob,hy,i1,i2,e1,e2,_⟩:=R.kinds tx hR
  rw [← e1] at q
  clear hR
  walk_at "rd"
  refine ite2 (fun c=>?_) (fun c=>?_)
  ·rw [c,Bool.true_or] at q
   exact q
  ·rw [Bool.eq_false_iff.mpr c,Bool.false_or] at q
   walk_at "rd"
   exact q
theorem J8M (tx : Tx K mg J9 Jd J8 Jb J5 Ji J4 J1) : ∀ wd,J1N wd = true → MtG P w K mg base J9 "text" 1 ["self"] (Ja8 (cs6 J9 Jd J8 Jb J5 Ji J4 J1) (.nev wd)):=fun wd hw=>by
 refine tx.J9c.g tx.J5j.cl J89 (fun _ _ _ _ _ _ us hl=>match us,hl with | [_],_=>rfl) (fun vs H Q E h=>?_) (fun f cdv A outer s H vs Q E hr h=>?_)
 ·obtain ⟨p,rfl,_⟩:=h
  rfl
 ·obtain ⟨p,rfl,⟨⟨dx,hp⟩,_⟩,q⟩:=h
  refine ⟨_,(Ja (Jl (Jf Jn (Jk (l:=[110,101,118,101,114,32]) (by decide +kernel)) (JD (K:=K) rfl (pv 0) rfl)))),?_⟩
  walk_at "st"
  have c1:=tx.J5j.cl
  have n1:=tx.J1w
  obtain ⟨w1,w2⟩:=J67 hw
  have hp' : H p = some (.ins J9 dx [("word",T wd)]):=hp
  clear hp
  walk_at "rd"
  exact q
theorem Ja0 (tx : Tx K mg J9 Jd J8 Jb J5 Ji J4 J1) : ∀ n m d,(R.most n m d).ok → MtG P w K mg base Jd "text" 2 ["self"] (Ja8 (cs6 J9 Jd J8 Jb J5 Ji J4 J1) (.most n m d)):=fun n m d ho=>by
 have J2A:=J5r (P:=P) (w:=w) (base:=base) tx
 refine tx.Ja2.g tx.J58.cl J9d (fun _ _ _ _ _ _ us hl=>match us,hl with | [_],_=>rfl) (fun vs H Q E h=>?_) (fun f cdv A outer s H vs Q E hr h=>?_)
 ·obtain ⟨p,rfl,_⟩:=h
  rfl
 ·obtain ⟨p,rfl,⟨⟨dx,hp⟩,_⟩,q⟩:=h
  refine ⟨_,(Ja (Jl (Jv J2A (hr.mono (by decide)) (J0 (Jk (l:=[109,111,115,116]) (by decide +kernel)) (J0 (JD (K:=K) rfl (pv 0) rfl) (J0 (JD (K:=K) rfl (pv 0) rfl) (J0 (JD (K:=K) rfl (pv 0) rfl) J2))))))),?_⟩
  walk_at "st"
  clear J2A
  have c1:=tx.J58.cl
  have k1:=tx.J2l
  have k2:=tx.J1u
  have k3:=tx.J2c
  obtain ⟨⟨n0,n1⟩,⟨d0,d1⟩,hm⟩:=ho
  obtain ⟨m1,m2⟩:=J3y hm
  have n2 : n ≤ 9:=by omega
  have d2 : d ≤ 9:=by omega
  have d3 : 0 ≤ d:=by omega
  have hp' : H p = some (.ins Jd dx [("many",.int n),("marks",T m),("days",.int d)]):=hp
  clear hp
  walk_at "rd"
  exact q
theorem J9r (tx : Tx K mg J9 Jd J8 Jb J5 Ji J4 J1) : ∀ n m d,(R.least n m d).ok → MtG P w K mg base J8 "text" 2 ["self"] (Ja8 (cs6 J9 Jd J8 Jb J5 Ji J4 J1) (.least n m d)):=fun n m d ho=>by
 have J2A:=J5r (P:=P) (w:=w) (base:=base) tx
 refine tx.J8W.g tx.J4e.cl J88 (fun _ _ _ _ _ _ us hl=>match us,hl with | [_],_=>rfl) (fun vs H Q E h=>?_) (fun f cdv A outer s H vs Q E hr h=>?_)
 ·obtain ⟨p,rfl,_⟩:=h
  rfl
 ·obtain ⟨p,rfl,⟨⟨dx,hp⟩,_⟩,q⟩:=h
  refine ⟨_,(Ja (Jl (Jv J2A (hr.mono (by decide)) (J0 (Jk (l:=[108,101,97,115,116]) (by decide +kernel)) (J0 (JD (K:=K) rfl (pv 0) rfl) (J0 (JD (K:=K) rfl (pv 0) rfl) (J0 (JD (K:=K) rfl (pv 0) rfl) J2))))))),?_⟩
  walk_at "st"
  clear J2A
  have c1:=tx.J4e.cl
  have k1:=tx.J1A
  have k2:=tx.J16
  have k3:=tx.J1y
  obtain ⟨⟨n0,n1⟩,⟨d0,d1⟩,hm⟩:=ho
  obtain ⟨m1,m2⟩:=J3y hm
  have n2 : n ≤ 9:=by omega
  have d2 : d ≤ 9:=by omega
  have d3 : 0 ≤ d:=by omega
  have hp' : H p = some (.ins J8 dx [("many",.int n),("marks",T m),("days",.int d)]):=hp
  clear hp
  walk_at "rd"
  exact q
theorem J4x (tx : Tx K mg J9 Jd J8 Jb J5 Ji J4 J1) {n : Nat} (G : ∀ r : R,r.ok → r.sz ≤ n → r.sz ≤ 25 → MtG P w K mg base (r.cls (cs6 J9 Jd J8 Jb J5 Ji J4 J1)) "text" (2 + 2 * n) ["self"] (Ja8 (cs6 J9 Jd J8 Jb J5 Ji J4 J1) r)) : FnG P w K mg base "part_text" (3 + 2 * n) ["rule","in_brackets"] (JgN (cs6 J9 Jd J8 Jb J5 Ji J4 J1) n):=by
 refine FnG.mono (j:=(2 + 2 * n) + 1) (tx.J9T.g J5l (fun _ _ _ _ _ _ us hl=>match us,hl with | [_,_],_=>rfl) (fun vs H Q E h=>?_) (fun f cdv A outer s H vs Q E hr h=>?_)) (by omega)
 ·obtain ⟨r,p,b,rfl,_⟩:=h
  rfl
 ·obtain ⟨r,p,b,rfl,hR,ho,hz,hz2,q⟩:=h
  refine ⟨_,(J6 (Jw (i:=2) J5l.nd rfl (Or.inl rfl) (J9D (P:=P) (w:=w) (K:=K) (mg:=mg) (base:=base) hr (pv 0) rfl rfl rfl rfl rfl))
   (Ja (Jl (J7L (J0u (pv 1)) (J2O (Jy (J0w (l:=[40,32]) (by decide +kernel)) (Jy (J1p (pv 2)) (Jy (J0w (l:=[32,41]) (by decide +kernel)) J2K)))) (pv 2))))),?_⟩
  walk_at "st"
  obtain ⟨dx,fs,ob,_,_,nt⟩:=hR.obj
  have Gr:=G r ho hz hz2
  have hl:=R.tx_len ho
  have hl2 : r.tx.length ≤ 960:=by omega
  clear G
  walk_at "rd"
  refine ite2 (fun c=>?_) (fun c=>?_)
  ·rw [c] at q
   walk_at "rd"
   exact q
  ·rw [Bool.eq_false_iff.mpr c] at q
   walk_at "rd"
   exact q
theorem Jdi (tx : Tx K mg J9 Jd J8 Jb J5 Ji J4 J1) : ∀ (n : Nat) (r : R),r.ok → r.sz ≤ n → r.sz ≤ 25 → MtG P w K mg base (r.cls (cs6 J9 Jd J8 Jb J5 Ji J4 J1)) "text" (2 + 2 * n) ["self"] (Ja8 (cs6 J9 Jd J8 Jb J5 Ji J4 J1) r)
 | 0,r,_,hz,_=>by have:=r.sz_pos; omega
 | n + 1,.nev w,ho,_,_=>(J8M tx w ho).mono (by omega)
 | n + 1,.most a m d,ho,_,_=>(Ja0 tx a m d ho).mono (by omega)
 | n + 1,.least a m d,ho,_,_=>(J9r tx a m d ho).mono (by omega)
 | n + 1,.neg i,ho,hz,h24=>by
  have hi : i.sz ≤ n:=by have : i.sz + 1 ≤ n + 1:=hz; omega
  have hi2 : i.sz ≤ 25:=by have : i.sz + 1 ≤ 25:=h24; omega
  have hoi : i.ok:=ho
  have J0B:=J4x (P:=P) (w:=w) (base:=base) tx (n:=n) fun r h1 h2=>Jdi tx n r h1 h2
  have J3d:=J6o (P:=P) (w:=w) (base:=base) tx
  refine MtG.mono (j:=(3 + 2 * n) + 1) (tx.Jba.g tx.Ja6.cl Jae (fun _ _ _ _ _ _ us hl=>match us,hl with | [_],_=>rfl) (fun vs H Q E h=>?_) (fun f cdv A outer s H vs Q E hr h=>?_)) (by omega)
  ·obtain ⟨p,rfl,_⟩:=h
   rfl
  ·obtain ⟨p,rfl,⟨dx,a,e,ha⟩,q⟩:=h
   refine ⟨_,(Ja (Jl (Jf Jn (Jk (l:=[110,111,116,32]) (by decide +kernel)) (Jv J0B (hr.mono (by omega)) (J0 (JD (K:=K) rfl (pv 0) rfl) (J0 (Jv J3d (hr.mono (by omega)) (J0 (JD (K:=K) rfl (pv 0) rfl) J2)) J2)))))),?_⟩
   walk_at "st"
   have c1:=tx.Ja6.cl
   have n1:=tx.J2h
   have hl:=R.tx_len hoi
   have hb:=J6Q (decide (0 < i.lvl)) i.tx
   have hb2 : (brT (decide (0 < i.lvl)) i.tx).length ≤ 964:=by omega
   have e' : H p = some (.ins Ji dx [("inner",.ref a)]):=e
   clear e J0B J3d
   walk_at "rd"
   exact q
 | n + 1,.both l r,ho,hz,h24=>by
  have z1 : l.sz + r.sz + 1 ≤ n + 1:=hz
  have z2 : l.sz + r.sz + 1 ≤ 25:=h24
  have hl1 : l.sz ≤ n:=by omega
  have hl2 : l.sz ≤ 25:=by omega
  have hr1 : r.sz ≤ n:=by omega
  have hr2 : r.sz ≤ 25:=by omega
  obtain ⟨ol,or⟩ : l.ok ∧ r.ok:=ho
  have tl:=R.tx_len ol
  have tr:=R.tx_len or
  have J0B:=J4x (P:=P) (w:=w) (base:=base) tx (n:=n) fun r h1 h2=>Jdi tx n r h1 h2
  have J3d:=J6o (P:=P) (w:=w) (base:=base) tx
  refine MtG.mono (j:=(3 + 2 * n) + 1) (tx.J9X.g tx.J56.cl J4g (fun _ _ _ _ _ _ us hl=>match us,hl with | [_],_=>rfl) (fun vs H Q E h=>?_) (fun f cdv A outer s H vs Q E hr h=>?_)) (by omega)
  ·obtain ⟨p,rfl,_⟩:=h
   rfl
  ·obtain ⟨p,rfl,⟨dx,a,b,e,ha,hb⟩,q⟩:=h
   refine ⟨_,(J6 (Jw (i:=1) J4g.nd rfl (Or.inl rfl) (Jv J0B (hr.mono (by omega)) (J0 (JD (K:=K) rfl (pv 0) rfl) (J0 (Jx (J4k (K:=K) rfl) rfl tx.J0g J22 (J0 (JD (K:=K) rfl (pv 0) rfl) (J0 (J4j (v:=.ref J5) rfl tx.J2w.mg rfl) J2))) J2))))
   (J6 (Jw (i:=2) J4g.nd rfl (Or.inl rfl) (Jv J0B (hr.mono (by omega)) (J0 (JD (K:=K) rfl (pv 0) rfl) (J0 (Jv J3d (hr.mono (by omega)) (J0 (JD (K:=K) rfl (pv 0) rfl) J2)) J2))))
   (Ja (Jl (J2O (Jy (J1p (pv 1)) (Jy (J0w (l:=[32,97,110,100,32]) (by decide +kernel)) (Jy (J1p (pv 2)) J2K)))))))),?_⟩
   walk_at "st"
   have c1:=tx.J56.cl
   have n1:=tx.J2g
   have n2:=tx.J1F
   have e' : H p = some (.ins Jb dx [("left",.ref a),("right",.ref b)]):=e
   clear e
   obtain ⟨dxl,fsl,b1,b2,obl,yl,il1,il2,el1,el2,_⟩:=R.kinds tx ha
   have w1:=J6Q b2 l.tx
   have w2:=J6Q (decide (0 < r.lvl)) r.tx
   have w3 : (brT b2 l.tx).length + (brT (decide (0 < r.lvl)) r.tx).length ≤ 930:=by omega
   have w4 : (brT b2 l.tx).length ≤ 930:=by omega
   have w5 : (brT (decide (0 < r.lvl)) r.tx).length ≤ 930:=by omega
   clear J0B J3d
   walk_at "rd"
   have eq : brT b2 l.tx ++ [32,97,110,100,32] ++ brT (decide (0 < r.lvl)) r.tx = (R.both l r).tx:=by rw [el2]; rfl
   rw [← eq] at q
   exact q
 | n + 1,.either l r,ho,hz,h24=>by
  have z1 : l.sz + r.sz + 1 ≤ n + 1:=hz
  have z2 : l.sz + r.sz + 1 ≤ 25:=h24
  have hl1 : l.sz ≤ n:=by omega
  have hl2 : l.sz ≤ 25:=by omega
  have hr1 : r.sz ≤ n:=by omega
  have hr2 : r.sz ≤ 25:=by omega
  obtain ⟨ol,or⟩ : l.ok ∧ r.ok:=ho
  have tl:=R.tx_len ol
  have tr:=R.tx_len or
  have J0B:=J4x (P:=P) (w:=w) (base:=base) tx (n:=n) fun r h1 h2=>Jdi tx n r h1 h2
  have Gl:=Jdi tx n l ol hl1 hl2
  refine MtG.mono (j:=(3 + 2 * n) + 1) (tx.J7Y.g tx.J2w.cl J3D (fun _ _ _ _ _ _ us hl=>match us,hl with | [_],_=>rfl) (fun vs H Q E h=>?_) (fun f cdv A outer s H vs Q E hr h=>?_)) (by omega)
  ·obtain ⟨p,rfl,_⟩:=h
   rfl
  ·obtain ⟨p,rfl,⟨dx,a,b,e,ha,hb⟩,q⟩:=h
   refine ⟨_,(J6 (Jw (i:=1) J3D.nd rfl (Or.inl rfl) (J9D (P:=P) (w:=w) (K:=K) (mg:=mg) (base:=base) hr (JD (K:=K) rfl (pv 0) rfl) rfl rfl rfl rfl rfl))
   (J6 (Jw (i:=2) J3D.nd rfl (Or.inl rfl) (Jv J0B (hr.mono (by omega)) (J0 (JD (K:=K) rfl (pv 0) rfl) (J0 (Jx (J4k (K:=K) rfl) rfl tx.J0g J22 (J0 (JD (K:=K) rfl (pv 0) rfl) (J0 (J4j (v:=.ref J5) rfl tx.J2w.mg rfl) J2))) J2))))
   (Ja (Jl (J2O (Jy (J1p (pv 1)) (Jy (J0w (l:=[32,111,114,32]) (by decide +kernel)) (Jy (J1p (pv 2)) J2K)))))))),?_⟩
   walk_at "st"
   have c1:=tx.J2w.cl
   have n1:=tx.J18
   have n2:=tx.J0P
   have e' : H p = some (.ins J5 dx [("left",.ref a),("right",.ref b)]):=e
   clear e
   obtain ⟨dxl,fsl,obl,_,_,ntl⟩:=ha.obj
   obtain ⟨dxr,fsr,b1,b2,obr,yr,ir1,ir2,er1,er2,_⟩:=R.kinds tx hb
   have w2:=J6Q b2 r.tx
   have w3 : l.tx.length + (brT b2 r.tx).length ≤ 930:=by omega
   have w4 : l.tx.length ≤ 930:=by omega
   have w5 : (brT b2 r.tx).length ≤ 930:=by omega
   clear J0B
   walk_at "rd"
   have eq : l.tx ++ [32,111,114,32] ++ brT b2 r.tx = (R.either l r).tx:=by
    have el : brT (decide (2 < l.lvl)) l.tx = l.tx:=by rw [decide_eq_false (by have:=l.lvl2; omega)]; rfl
    rw [er2,← el]
    show _ = brT (decide (2 < l.lvl)) l.tx ++ [32,111,114,32] ++ brT (decide (1 < r.lvl)) r.tx
    rw [el]
   rw [← eq] at q
   exact q
end
section
variable {P : Program} {w : World} {K : PySem.W.Frag} {mg : Str → Option Value} {base : Heap} {J9 Jd J8 Jb J5 Ji J4 J1 : Addr}
theorem J4Z (tx : Tx K mg J9 Jd J8 Jb J5 Ji J4 J1) : FnG P w K mg base "_law_cell_at" 1 ["_law_script","_law_k"] (Jde K):=by
 refine tx.J8c.g J7k (fun _ _ _ _ _ _ us hl=>match us,hl with | [_,_],_=>rfl) (fun vs H Q E h=>?_) (fun f cdv A outer s H vs Q E hr h=>?_)
 ·obtain ⟨a,ns,k,rfl,_⟩:=h
  rfl
 ·obtain ⟨a,ns,k,rfl,hS,h0,q⟩:=h
  refine ⟨_,(J6 (JK (Jp J7K (pv 1) (Jx (JE (K:=K) rfl) rfl tx.JS PySem.boot_len (J0 (pv 0) J2)) (Js _)) (Ja (Jl (Jr (Jg (K:=K) rfl) (pv 0) (pv 1) (fun _ _=>rfl)))) Jz)
   (Ja (Jl J3))),?_⟩
  walk_at "st"
  walk_at "rd"
  refine ite2 (fun c=>?_) (fun c=>?_)
  ·have c' : k < ((ns.map V.int).length : Int):=of_decide_eq_true c
   rw [List.length_map] at c'
   have hv:=JeA h0 c'
   walk_at "rd"
   exact q
  ·have c' : ¬ k < ((ns.map V.int).length : Int):=of_decide_eq_false (Bool.eq_false_iff.mpr c)
   rw [List.length_map] at c'
   walk_at "rd"
   rw [Jes (by omega)] at q
   exact q
theorem J4i (tx : Tx K mg J9 Jd J8 Jb J5 Ji J4 J1) : FnG P w K mg base "_law_stream" 1 ["_law_cell","_law_many"] Jbh:=by
 refine tx.J91.g J1S (fun _ _ _ _ _ _ us hl=>match us,hl with | [_,_],_=>rfl) (fun vs H Q E h=>?_) (fun f cdv A outer s H vs Q E hr h=>?_)
 ·obtain ⟨c,m,rfl,_⟩:=h
  rfl
 ·obtain ⟨c,m,rfl,h0,h1,q⟩:=h
  refine ⟨_,(J6 (Jw (i:=2) J1S.nd rfl (Or.inl rfl) (J0d J2))
   (J6 (Jw (i:=3) J1S.nd rfl (Or.inl rfl) (Jf J0h (Jf JI (pv 0) J3) J3))
   (J6 (J2J PassesOwn.never rfl (J2q rfl tx.J1x (J0 (Jf J0h (pv 1) J3) J2)) (Ju (i:=4) J1S.nd rfl (Or.inl rfl)) (J6 (Jw (i:=3) J1S.nd rfl (Or.inl rfl) (Jf JI (Jf J0h (Jf J0h (Jf J5a (pv 3) (pv 3)) (Jf J5a J3 (pv 3))) (pv 4)) J3))
   (Ja (J0i (J20 PySem.F.plainAttrs_list PySem.F.slot_list_append PySem.F.type_list_append JP (pv 2) (J0 (pv 3) J2))))))
   (Ja (Jl (J08 (J0S (K:=K) rfl) (pv 2) (J0c J3) J0M)))))),?_⟩
  walk_at "st"
  have b0 : 0 ≤ c % 2147483647:=Int.emod_nonneg _ (by decide)
  have b1 : c % 2147483647 < 2147483647:=Int.emod_lt_of_pos _ (by decide)
  walk_at "rd"
  intro p hp
  walk_at "rd"
  refine J4S (n:=(m + 1).toNat) (fun i σ H2=>Here (∃ (n : Int) (v : Option V) (ys : List Int),σ = [some (.int c),some (.int m),some (.ref p),some (.int n),v] ∧ 0 ≤ n ∧ n < 2147600000 ∧ ys.length = i ∧ H2 p = some (.lst (ys.map V.int)) ∧ Same H H2))
   (Here.mk ⟨_,none,[],rfl,by omega,by omega,rfl,Je,JF hp _⟩) ?_ ?_
  ·rintro i σ H2 hi hv
   obtain ⟨n,v,ys,rfl,hn0,hn1,hy,hpp,hs⟩:=hv.out
   have z0 : 0 ≤ (n * n + 48271 * n + (0 + (i : Int))) % 2147483647:=Int.emod_nonneg _ (by decide)
   have z1 : (n * n + 48271 * n + (0 + (i : Int))) % 2147483647 < 2147483647:=Int.emod_lt_of_pos _ (by decide)
   have hl : (ys.map V.int).length ≤ 1000:=by rw [List.length_map]; omega
   walk_at "rd"
   refine Here.mk ⟨_,_,ys ++ [(n * n + 48271 * n + (0 + (i : Int))) % 2147483647],rfl,z0,by omega,?_,?_,hs.upd hp⟩
   ·rw [List.length_append,List.length_singleton,hy]
   ·rw [Je,List.map_append]
    rfl
  ·rintro σ H2 hv
   obtain ⟨n,v,ys,rfl,hn0,hn1,hy,hpp,hs⟩:=hv.out
   walk_at "rd"
   intro r hr'
   refine q r _ (ys.drop 1) (hs.trans (JF hr' _)) (hs.free hr') ?_ ?_
   ·rw [Je]
    have e : cutV (ys.map V.int) (some 1) none = (ys.drop 1).map V.int:=by
     rw [List.map_drop]
     exact J45 (ys.map V.int) 1 (by decide)
    rw [e]
   ·rw [List.length_drop,hy]
    omega
theorem Jab (tx : Tx K mg J9 Jd J8 Jb J5 Ji J4 J1) : FnG P w K mg base "_law_kinds" 1 ["_law_cell"] Jdh:=by
 refine tx.J9O.g J4d (fun _ _ _ _ _ _ us hl=>match us,hl with | [_],_=>rfl) (fun vs H Q E h=>?_) (fun f cdv A outer s H vs Q E hr h=>?_)
 ·obtain ⟨c,rfl,_⟩:=h
  rfl
 ·obtain ⟨c,rfl,q⟩:=h
  refine ⟨_,(J6 (Jw (i:=1) J4d.nd rfl (Or.inr rfl) (Jk (l:=[65,66,67,68,69,70,71,72,73,74,75,76,77,78,79,80,81,82,83,84,85,86,87,88,89,90]) (by decide +kernel)))
   (J6 (Jw (i:=2) J4d.nd rfl (Or.inl rfl) (Jf J0h J3 (Jf JI (pv 0) J3)))
   (Ja (Jl (J2L (K:=K) rfl (Jk (l:=[]) (by decide +kernel)) (J0 (J1L (osc:=J7 J1j) (ON:=["_law_cell","_law_some_here","_law_many"]) (N:=["_law_k","_law_some_here","_law_cell"]) (js:=[none,some 1,some 0]) ⟨rfl,by decide +kernel,by decide +kernel,by decide +kernel,rfl,by decide +kernel⟩ rfl rfl rfl (J2q rfl tx.J1x (J0 (pv 2) J2)) (fun _ _ _ _ _=>Ju (i:=0) (show List.Nodup (["_law_k","_law_some_here","_law_cell"] : List Str) from by decide +kernel) rfl (Or.inl rfl)) (fun _ _ _ _ _=>J0q) (fun _ _ _ _ _=>(Jr J4l (pv 1) (Jf JI (Jf J0h (Jf JQ (pv 2) J3) (Jf J5a (pv 0) (Jf J0h J3 (Jf JI (Jf JQ (pv 2) J3) J3)))) J3) (fun _ _=>rfl)))) J2)))))),?_⟩
  walk_at "st"
  have h0 : 0 ≤ c % 4:=Int.emod_nonneg _ (by decide)
  have h1 : c % 4 < 4:=Int.emod_lt_of_pos _ (by decide)
  walk_at "rd"
  refine J7E (onI fun i=>cap ((c / 4 + i * (1 + c / 104 % 6)) % 26)) (J3h 0 (1 + c % 4).toNat) ?_ (fun x hx H' s' R hR=>?_) (fun D H2 hD s2 hDD=>?_)
  ·rw [List.length_map,List.length_range]; omega
  ·obtain ⟨k,hk,rfl⟩:=List.mem_map.mp hx
   have hk:=List.mem_range.mp hk
   have ha:=Jg2 ((c / 4 + (0 + (k : Int)) * (1 + c / 104 % 6)) % 26) (Int.emod_nonneg _ (by decide)) (Int.emod_lt_of_pos _ (by decide))
   walk_at "rd"
   exact hR H' (Same.refl _)
  rw [Jaw _ (fun i=>cap ((c / 4 + i * (1 + c / 104 % 6)) % 26))] at hDD
  refine ⟨[],_,D,rfl,rfl,SqL.of hDD,?_,?_⟩
  ·rw [J4B,List.length_map,List.length_nil,Nat.mul_zero,List.length_range]
   omega
  rw [J41,J46]
  exact q H2 s2
theorem Jb2 (tx : Tx K mg J9 Jd J8 Jb J5 Ji J4 J1) : FnG P w K mg base "_law_name" 1 ["_law_cell","_law_p"] JeS:=by
 refine tx.JaV.g J3a (fun _ _ _ _ _ _ us hl=>match us,hl with | [_,_],_=>rfl) (fun vs H Q E h=>?_) (fun f cdv A outer s H vs Q E hr h=>?_)
 ·obtain ⟨c,p,rfl,_⟩:=h
  rfl
 ·obtain ⟨c,p,rfl,q⟩:=h
  refine ⟨_,(J6 (Jw (i:=2) J3a.nd rfl (Or.inr rfl) (Jk (l:=[97,98,99,100,101,102,103,104,105,106,107,108,109,110,111,112,113,114,115,116,117,118,119,120,121,122]) (by decide +kernel)))
   (J6 (Jw (i:=3) J3a.nd rfl (Or.inl rfl) (J2L (K:=K) rfl (Jk (l:=[]) (by decide +kernel)) (J0 (J1L (osc:=J7 J27) (ON:=["_law_cell","_law_p","_law_some_here","_law_body","_law_at","_law_name_here"]) (N:=["_law_k","_law_some_here","_law_cell"]) (js:=[none,some 2,some 0]) ⟨rfl,by decide +kernel,by decide +kernel,by decide +kernel,rfl,by decide +kernel⟩ rfl rfl rfl (J2q rfl tx.J1x (J0 (Jf JI (Jf JQ (pv 0) J3) J3) J2)) (fun _ _ _ _ _=>Ju (i:=0) (show List.Nodup (["_law_k","_law_some_here","_law_cell"] : List Str) from by decide +kernel) rfl (Or.inl rfl)) (fun _ _ _ _ _=>J0q) (fun _ _ _ _ _=>(Jr J4l (pv 1) (Jf JI (Jf JQ (pv 2) (Jf J0h J3 (Jf J5a J3 (pv 0)))) J3) (fun _ _=>rfl)))) J2)))
   (J6 (Jw (i:=4) J3a.nd rfl (Or.inl rfl) (Jf JI (Jf JQ (pv 0) J3) (Jf J0h (Jx JT rfl tx.JS PySem.boot_len (J0 (pv 3) J2)) J3)))
   (J6 (Jw (i:=5) J3a.nd rfl (Or.inl rfl) (Jf Jn (Jf Jn (J08 JbO (pv 3) J0M (J0c (pv 4))) (Jr J4l (pv 2) (Jf JI (Jf J0h (pv 0) (pv 1)) J3) (fun _ _=>rfl))) (J08 JbO (pv 3) (J0c (pv 4)) J0M)))
   (J6 (JK (Jp JO (pv 5) (Jk (l:=[97,108,108]) (by decide +kernel)) (Js _)) (Ja (Jl (Jk (l:=[97,108,108,101]) (by decide +kernel)))) Jz)
   (Ja (Jl (pv 5)))))))),?_⟩
  walk_at "st"
  have h0 : 0 ≤ c / 3 % 8:=Int.emod_nonneg _ (by decide)
  have h1 : c / 3 % 8 < 8:=Int.emod_lt_of_pos _ (by decide)
  walk_at "rd"
  refine J7E (onI fun i=>ltr (c / (16 + 5 * i) % 26)) (J3h 0 (c / 3 % 8).toNat) ?_ (fun x hx H' s' R hR=>?_) (fun D H2 hD s2 hDD=>?_)
  ·rw [List.length_map,List.length_range]; omega
  ·obtain ⟨k,hk,rfl⟩:=List.mem_map.mp hx
   have hk:=List.mem_range.mp hk
   have ha:=JdD (c / (16 + 5 * (0 + (k : Int))) % 26) (Int.emod_nonneg _ (by decide)) (Int.emod_lt_of_pos _ (by decide))
   walk_at "rd"
   exact hR H' (Same.refl _)
  rw [Jaw _ (fun i=>ltr (c / (16 + 5 * i) % 26))] at hDD
  refine ⟨[],_,D,rfl,rfl,SqL.of hDD,?_,?_⟩
  ·rw [J4B,List.length_map,List.length_nil,Nat.mul_zero,List.length_range]
   omega
  rw [J41,J46]
  have hb:=J8w c
  have c1:=J9y (J3i c) none (some (c / 7 % ((J3i c).length + 1)))
  have c2:=J9y (J3i c) (some (c / 7 % ((J3i c).length + 1))) none
  have ha:=JdD ((c + p) % 26) (Int.emod_nonneg _ (by decide)) (Int.emod_lt_of_pos _ (by decide))
  have q':=q H2 s2
  clear q h0 h1 hD hDD s2
  show J4H _ (T (J3i c)) _ _ _
  unfold J3n at q'
  unfold J32 at q'
  generalize J3i c = b at hb c1 c2 q' ⊢
  walk_at "rd"
  refine ite2 (fun e=>?_) (fun e=>?_)
  ·have e':=J1M (of_decide_eq_true e)
   rw [if_pos e'] at q'
   walk_at "rd"
   exact q'
  ·have e' : ¬ cutN b none (some (c / 7 % ((b.length : Int) + 1))) ++ [ltr ((c + p) % 26)] ++ cutN b (some (c / 7 % ((b.length : Int) + 1))) none = [97,108,108]:=fun z=>e (decide_eq_true (by rw [z]))
   rw [if_neg e'] at q'
   walk_at "rd"
   exact q'
end
theorem JbJ (a b : List Nat) (i : Int) (h0 : 0 ≤ i) (h1 : i < 2) : ∃ w,atI [T a,T b] i = some (T w) ∧ (w = a ∨ w = b):=by
 have : i = 0 ∨ i = 1:=by omega
 rcases this with rfl | rfl
 ·exact ⟨a,by simp [atI,ixN],.inl rfl⟩
 ·exact ⟨b,by simp [atI,ixN],.inr rfl⟩
theorem at5 (a b c d e : V) : atI [a,b,c,d,e] 0 = some a ∧ atI [a,b,c,d,e] 1 = some b ∧ atI [a,b,c,d,e] 2 = some c ∧ atI [a,b,c,d,e] 3 = some d ∧ atI [a,b,c,d,e] 4 = some e:=by simp [atI,ixN]
theorem All2.takeL {α : Type} {P : α → V → Hp → Prop} {H : Hp} : ∀ {as : List α} {ys : List V} (n : Nat),All2 P H as ys → All2 P H (as.take n) (ys.take n)
 | _,_,0,_=>by rw [List.take_zero,List.take_zero]; exact trivial
 | [],[],_ + 1,_=>trivial
 | _ :: _,_ :: _,n + 1,h=>⟨h.1,All2.takeL n h.2⟩
 | [],_ :: _,_ + 1,h=>h.elim
 | _ :: _,[],_ + 1,h=>h.elim
noncomputable abbrev sg28 : List Nat:=[65,66,67,68,69,70,71,72,73,74,75,76,77,78,79,80,81,82,83,84,85,86,87,88,89,90,45,35]
noncomputable def JfS : Sp:=fun vs H Q _=>∃ (n : Int),vs = [.int n] ∧ ∀ (r : R) (H' : Hp),Same H H' → r.ok → r.sz = 1 → Q (T r.tx) H'
noncomputable def JfV : Sp:=fun vs H Q _=>∃ (n : Int),vs = [.int n] ∧ ∀ (t : Addr) (H' : Hp) (r : R) (tx : List Nat),Same H H' → H' t = some (.tup [T tx,T r.tx]) → TxR r tx → TxR r r.tx → Q (.ref t) H'
theorem J4b {r : R} (ho : r.ok) (hz : r.sz = 1) : (Jh 32 r.tx).length ≤ 6:=by
 cases r with
 | nev w =>
  show (Jh 32 ([110,101,118,101,114,32] ++ w)).length ≤ 6
  rw [show [110,101,118,101,114,32] ++ w = [110,101,118,101,114] ++ 32 :: w from rfl,J1d,J36 (w:=[110,101,118,101,114]) (by decide),J36 (Jay ho)]
  show 2 ≤ 6
  decide
 | most n m d =>
  show (Jh 32 (cnT [109,111,115,116] n m d)).length ≤ 6
  rw [J9E (by decide) (J5D ho.2.2)]
  exact Nat.le_refl 6
 | least n m d =>
  show (Jh 32 (cnT [108,101,97,115,116] n m d)).length ≤ 6
  rw [J9E (by decide) (J5D ho.2.2)]
  exact Nat.le_refl 6
 | both l r=>have h : l.sz + r.sz + 1 = 1:=hz; have:=l.sz_pos; omega
 | either l r=>have h : l.sz + r.sz + 1 = 1:=hz; have:=l.sz_pos; omega
 | neg i=>have h : i.sz + 1 = 1:=hz; have:=i.sz_pos; omega
theorem J4W {r : R} (hz : r.sz = 1) : r.lvl = 0 ∧ r.depth = 0:=by
 cases r with
 | nev w=>exact ⟨rfl,rfl⟩
 | most n m d=>exact ⟨rfl,rfl⟩
 | least n m d=>exact ⟨rfl,rfl⟩
 | both l r=>have h : l.sz + r.sz + 1 = 1:=hz; have:=l.sz_pos; omega
 | either l r=>have h : l.sz + r.sz + 1 = 1:=hz; have:=l.sz_pos; omega
 | neg i=>have h : i.sz + 1 = 1:=hz; have:=i.sz_pos; omega
theorem n10a {a b : List Nat} (h1 : 10 ∉ a) (h2 : 10 ∉ b) : 10 ∉ a ++ b:=fun z=>(List.mem_append.mp z).elim h1 h2
theorem JdC {w : Wd} (h : J1N w = true) : 10 ∉ w:=fun z=>J3F h 10 z (by decide) rfl
theorem JaE {w : Wd} (h : J0l w = true) : 10 ∉ w:=fun z=>J3L h 10 z (by decide) rfl
theorem n10c {w m : List Nat} {n d : Int} (hw : 10 ∉ w) (hm : 10 ∉ m) : 10 ∉ cnT w n m d:=by
 have one : ∀ k : Nat,10 ∉ [48 + k]:=fun k z=>by
  have:=List.mem_singleton.mp z
  omega
 exact n10a (n10a (n10a (n10a (n10a (n10a hw (by decide)) (one _)) (by decide)) hm) (by decide)) (one _)
theorem n10b {b : Bool} {t : List Nat} (h : 10 ∉ t) : 10 ∉ brT b t:=by
 unfold brT
 cases b
 ·exact h
 ·exact n10a (n10a (by decide) h) (by decide)
theorem R.no10 : ∀ {r : R},r.ok → 10 ∉ r.tx
 | .nev _,h=>n10a (by decide) (JdC h)
 | .most _ _ _,h=>n10c (by decide) (JaE h.2.2)
 | .least _ _ _,h=>n10c (by decide) (JaE h.2.2)
 | .both _ _,h=>n10a (n10a (n10b (R.no10 h.1)) (by decide)) (n10b (R.no10 h.2))
 | .either _ _,h=>n10a (n10a (n10b (R.no10 h.1)) (by decide)) (n10b (R.no10 h.2))
 | .neg i,h=>n10a (by decide) (n10b (R.no10 (r:=i) h))
theorem J5C (b : Bool) (t : List Nat) : wcN (brT b t) ≤ wcN t + 2:=by
 rw [JbX]
 split <;> omega
theorem R.wc8 : ∀ {r : R},r.ok → wcN r.tx ≤ 8 * r.sz
 | .nev w,h=>Nat.le_trans (J4b (r:=.nev w) h rfl) (by show 6 ≤ 8 * 1; decide)
 | .most n m d,h=>Nat.le_trans (J4b (r:=.most n m d) h rfl) (by show 6 ≤ 8 * 1; decide)
 | .least n m d,h=>Nat.le_trans (J4b (r:=.least n m d) h rfl) (by show 6 ≤ 8 * 1; decide)
 | .both l r,h=>by
  have h1:=R.wc8 h.1
  have h2:=R.wc8 h.2
  have b1:=J5C (decide (1 < l.lvl)) l.tx
  have b2:=J5C (decide (0 < r.lvl)) r.tx
  unfold wcN at *
  show (Jh 32 (brT (decide (1 < l.lvl)) l.tx ++ [32,97,110,100,32] ++ brT (decide (0 < r.lvl)) r.tx)).length ≤ 8 * (l.sz + r.sz + 1)
  rw [J5H,List.length_append,List.length_cons]
  omega
 | .either l r,h=>by
  have h1:=R.wc8 h.1
  have h2:=R.wc8 h.2
  have b1:=J5C (decide (2 < l.lvl)) l.tx
  have b2:=J5C (decide (1 < r.lvl)) r.tx
  unfold wcN at *
  show (Jh 32 (brT (decide (2 < l.lvl)) l.tx ++ [32,111,114,32] ++ brT (decide (1 < r.lvl)) r.tx)).length ≤ 8 * (l.sz + r.sz + 1)
  rw [J7v,List.length_append,List.length_cons]
  omega
 | .neg i,h=>by
  have h1:=R.wc8 (r:=i) h
  have b1:=J5C (decide (0 < i.lvl)) i.tx
  unfold wcN at *
  show (Jh 32 ([110,111,116,32] ++ brT (decide (0 < i.lvl)) i.tx)).length ≤ 8 * (i.sz + 1)
  rw [J5G,List.length_cons]
  omega
theorem TxR.own {r : R} (ho : r.ok) (hz : r.sz ≤ 7) : TxR r r.tx:=by
 have hw:=R.wc8 ho
 have hw2 : (Jh 32 r.tx).length ≤ 60:=by
  unfold wcN at hw
  omega
 exact ⟨ho,by omega,JeG ((R.tx_ok ho).rd.up (R.lvl2 r) (Nat.le_refl _)) 60 hw2,by have:=(R.tx_ok ho).ln; omega,hw2,R.no10 ho⟩
theorem TxR.br1 {r : R} (ho : r.ok) (hz : r.sz = 1) : TxR r ([40,32] ++ r.tx ++ [32,41]):=by
 have hw:=J4b ho hz
 have hx:=(R.tx_ok ho).br 2 (by decide)
 have hw2 : (Jh 32 ([40,32] ++ r.tx ++ [32,41])).length ≤ 60:=by
  rw [J7F,List.length_cons,List.length_append,List.length_singleton]
  omega
 exact ⟨ho,by omega,JeG hx.rd 60 hw2,by have:=hx.ln; omega,hw2,n10a (n10a (by decide) (R.no10 ho)) (by decide)⟩
theorem Jh0 {a b : R} (ha : a.ok) (hb : b.ok) (za : a.sz = 1) (zb : b.sz = 1) : TxA (.both a b) (a.tx ++ [32,97,110,100,32] ++ b.tx) :=
 Jc9 ((R.tx_ok ha).in (by decide) (by rw [(J4W za).1]; decide)) ((R.tx_ok hb).in (by decide) (by rw [(J4W zb).1]; decide))
theorem TxR.orn2 {a b : R} (ha : a.ok) (hb : b.ok) (za : a.sz = 1) (zb : b.sz = 1) : TxR (.either (.both a b) (.neg a)) ([40,32] ++ (a.tx ++ [32,97,110,100,32] ++ b.tx) ++ [32,41,32,111,114,32,40,32,110,111,116,32] ++ a.tx ++ [32,41]):=by
 have wa:=J4b ha za
 have wb:=J4b hb zb
 have x:=Jh0 ha hb za zb
 have y : TxA (.neg a) ([110,111,116,32] ++ a.tx):=Je4 ((R.tx_ok ha).in (by decide) (by rw [(J4W za).1]; decide))
 have e : [40,32] ++ (a.tx ++ [32,97,110,100,32] ++ b.tx) ++ [32,41,32,111,114,32,40,32,110,111,116,32] ++ a.tx ++ [32,41] = ([40,32] ++ (a.tx ++ [32,97,110,100,32] ++ b.tx) ++ [32,41]) ++ [32,111,114,32] ++ ([40,32] ++ ([110,111,116,32] ++ a.tx) ++ [32,41]):=by simp
 have hn : 10 ∉ [40,32] ++ (a.tx ++ [32,97,110,100,32] ++ b.tx) ++ [32,41,32,111,114,32,40,32,110,111,116,32] ++ a.tx ++ [32,41]:=n10a (n10a (n10a (n10a (by decide) (n10a (n10a (R.no10 ha) (by decide)) (R.no10 hb))) (by decide)) (R.no10 ha)) (by decide)
 rw [e] at hn ⊢
 have xx:=J8k (x.br 2 (by decide)) (y.br 1 (by decide))
 have hz : (R.either (.both a b) (.neg a)).sz = 6:=by
  show a.sz + b.sz + 1 + (a.sz + 1) + 1 = 6
  omega
 have hw : (Jh 32 (([40,32] ++ (a.tx ++ [32,97,110,100,32] ++ b.tx) ++ [32,41]) ++ [32,111,114,32] ++ ([40,32] ++ ([110,111,116,32] ++ a.tx) ++ [32,41]))).length ≤ 60:=by
  rw [J7v,J7F,J7F,J5H,J5G]
  simp only [List.length_append,List.length_cons,List.length_nil]
  omega
 exact ⟨⟨⟨ha,hb⟩,ha⟩,by omega,JeG (xx.rd.up (R.lvl2 _) (Nat.le_refl _)) 60 hw,by have:=xx.ln; omega,hw,hn⟩
theorem br0 {k : Nat} {r : R} (hz : r.sz = 1) : brT (decide (k < r.lvl)) r.tx = r.tx:=by
 rw [(J4W hz).1,decide_eq_false (by omega)]
 rfl
theorem Jcg {a b : R} (za : a.sz = 1) (zb : b.sz = 1) : (R.both a b).tx = a.tx ++ [32,97,110,100,32] ++ b.tx:=by
 show brT (decide (1 < a.lvl)) a.tx ++ [32,97,110,100,32] ++ brT (decide (0 < b.lvl)) b.tx = _
 rw [br0 za,br0 zb]
theorem JgI {a b : R} (za : a.sz = 1) (zb : b.sz = 1) : (R.neg (.either a b)).tx = [110,111,116,32,40,32] ++ a.tx ++ [32,111,114,32] ++ b.tx ++ [32,41]:=by
 show [110,111,116,32] ++ ([40,32] ++ (brT (decide (2 < a.lvl)) a.tx ++ [32,111,114,32] ++ brT (decide (1 < b.lvl)) b.tx) ++ [32,41]) = _
 rw [br0 za,br0 zb]
 simp
theorem JgG {a b : R} (za : a.sz = 1) (zb : b.sz = 1) : (R.either (.both a b) (.neg a)).tx = a.tx ++ [32,97,110,100,32] ++ b.tx ++ [32,111,114,32,110,111,116,32] ++ a.tx:=by
 show (R.both a b).tx ++ [32,111,114,32] ++ ([110,111,116,32] ++ brT (decide (0 < a.lvl)) a.tx) = _
 rw [Jcg za zb,br0 za]
 simp
theorem Jav : ∀ x ∈ sg28,J4E x = true:=by decide
theorem JdI {x : Nat} (h : J4E x = true) : J54 x = true:=by
 unfold J4E at h
 unfold J54
 rw [h]
 rfl
section
variable {P : Program} {w : World} {K : PySem.W.Frag} {mg : Str → Option Value} {base : Heap} {J9 Jd J8 Jb J5 Ji J4 J1 : Addr}
theorem J60 (tx : Tx K mg J9 Jd J8 Jb J5 Ji J4 J1) : FnG P w K mg base "_law_plain_rule" 1 ["_law_number"] JfS:=by
 refine tx.J5Z.g J00 (fun _ _ _ _ _ _ us hl=>match us,hl with | [_],_=>rfl) (fun vs H Q E h=>?_) (fun f cdv A outer s H vs Q E hr h=>?_)
 ·obtain ⟨n,rfl,_⟩:=h
  rfl
 ·obtain ⟨n,rfl,q⟩:=h
  refine ⟨_,(J6 (Jw (i:=1) J00.nd rfl (Or.inl rfl) (Jk (l:=[65,66,67,68,69,70,71,72,73,74,75,76,77,78,79,80,81,82,83,84,85,86,87,88,89,90,45,35]) (by decide +kernel)))
   (J6 (Jw (i:=2) J00.nd rfl (Or.inl rfl) (Jr J4l (pv 1) (Jf JI (pv 0) J3) (fun _ _=>rfl)))
   (J6 (Jw (i:=3) J00.nd rfl (Or.inl rfl) (Jr J4l (pv 1) (Jf JI (Jf J0h (Jf J0h (Jf JQ (pv 0) J3) J3) (Jf JI (pv 0) J3)) J3) (fun _ _=>rfl)))
   (J6 (JK (Jp JO (Jf JI (Jf JQ (pv 0) J3) J3) J3 (Js _)) (Ja (Jl (Jf Jn (Jk (l:=[110,101,118,101,114,32]) (by decide +kernel)) (J08 JbO (Jf Jn (Jf Jn (Jf Jn (pv 2) (pv 3)) (Jk (l:=[63,45,35]) (by decide +kernel))) (pv 3)) J0M (J0c (Jf J0h J3 (Jf JI (Jf JQ (pv 0) J3) J3))))))) Jz)
   (J6 (Jw (i:=4) J00.nd rfl (Or.inl rfl) (pv 2))
   (J6 (J4n (JK (PW.pt (J34 (Jp JO (Jf JI (Jf JQ (pv 0) J3) J3) J3 (Js _)) (J2P (Jp J3O (pv 2) (pv 3) (Js _))))) (Ja (Jw (i:=4) J00.nd rfl (Or.inl rfl) (Jf Jn (pv 2) (pv 3)))) Jz))
   (J6 (Jw (i:=5) J00.nd rfl (Or.inl rfl) (Jf Jn (Jf Jn (Jf Jn (Jf Jn (JG J5L rfl tx.J3f J0o (J0 (Jf JI (Jf JQ (pv 0) J3) J3) J2)) (Jk (l:=[32,111,102,32]) (by decide +kernel))) (pv 4)) (Jk (l:=[32,105,110,32]) (by decide +kernel))) (JG J5L rfl tx.J3f J0o (J0 (Jf J0h J3 (Jf JI (Jf JQ (pv 0) J3) J3)) J2))))
   (Ja (Jl (Jf Jn (Jr (Jg (K:=K) rfl) (J0d (J0 (Jk (l:=[109,111,115,116,32]) (by decide +kernel)) (J0 (Jk (l:=[108,101,97,115,116,32]) (by decide +kernel)) J2))) (Jf JI (Jf JQ (pv 0) J3) J3) (fun _ _=>rfl)) (pv 5))))))))))),?_⟩
  walk_at "st"
  obtain ⟨a,ha,ha2⟩:=J3p sg28 (n % 28) (Int.emod_nonneg _ (by decide)) (Int.emod_lt_of_pos _ (by decide))
  obtain ⟨b,hb,hb2⟩:=J3p sg28 ((n / 28 + 1 + n % 28) % 28) (Int.emod_nonneg _ (by decide)) (Int.emod_lt_of_pos _ (by decide))
  have sa:=Jav a (List.mem_of_getElem? ha2)
  have sb:=Jav b (List.mem_of_getElem? hb2)
  walk_at "rd"
  refine ite2 (fun _=>?_) (fun _=>?_)
  ·have cl:=J9y ([a] ++ [b] ++ [63,45,35] ++ [b]) none (some (1 + n / 2352 % 6))
   simp only [List.length_append,List.length_cons,List.length_nil] at cl
   have b0 : 0 ≤ n / 2352 % 6:=Int.emod_nonneg _ (by decide)
   have b1 : n / 2352 % 6 < 6:=Int.emod_lt_of_pos _ (by decide)
   walk_at "rd"
   refine q (.nev (cutN ([a] ++ [b] ++ [63,45,35] ++ [b]) none (some (1 + n / 2352 % 6)))) H (Same.refl _) ?_ rfl
   have ec:=J6i ([a] ++ [b] ++ [63,45,35] ++ [b]) (1 + n / 2352 % 6) (by omega)
   refine Jev ?_ (by omega) ?_
   ·rw [ec,List.length_take]
    simp only [List.length_append,List.length_cons,List.length_nil]
    omega
   ·intro x hx
    rw [ec] at hx
    have hx:=List.mem_of_mem_take hx
    simp only [List.mem_append,List.mem_cons,List.not_mem_nil,or_false] at hx
    rcases hx with ((rfl | rfl) | rfl | rfl | rfl) | rfl
    ·exact JdI sa
    ·exact JdI sb
    ·decide
    ·decide
    ·decide
    ·exact JdI sb
  walk_at "rd"
  refine tCut.mk (fun σ' H'=>Here (∃ mk,σ' = [some (.int n),some (T sg28),some (T [a]),some (T [b]),some (T mk),none] ∧ J0l mk = true ∧ mk.length ≤ 2 ∧ H' = H)) ?_ ?_
  ·have g1 : J0l [a] = true:=JaP (by simp) (by simp) (fun x hx=>by rw [List.mem_singleton.mp hx]; exact sa) (by simp)
   walk_at "rd"
   refine ite2 (fun _=>?_) (fun _=>?_)
   ·walk_at "rd"
    refine ite2 (fun c=>?_) (fun _=>?_)
    ·have c' : ¬ a = b:=fun z=>by rw [z] at c; exact absurd c (by rw [decide_eq_true rfl]; decide)
     walk_at "rd"
     refine Here.mk ⟨[a] ++ [b],rfl,JaP (by simp) (by simp) (fun x hx=>?_) (by simpa using c'),by simp,rfl⟩
     simp only [List.mem_append,List.mem_cons,List.not_mem_nil,or_false] at hx
     rcases hx with rfl | rfl
     ·exact sa
     ·exact sb
    ·exact Here.mk ⟨[a],rfl,g1,by simp,rfl⟩
   ·walk_at "rd"
    exact Here.mk ⟨[a],rfl,g1,by simp,rfl⟩
  rintro σ' H' hv
  obtain ⟨mk,rfl,gmk,hmk,eH⟩:=hv.out
  rw [eH]
  clear hv eH
  have f0 : 0 ≤ n / 4704 % 8:=Int.emod_nonneg _ (by decide)
  have f1 : n / 4704 % 8 < 8:=Int.emod_lt_of_pos _ (by decide)
  have g0 : 0 ≤ n / 37632 % 7:=Int.emod_nonneg _ (by decide)
  have g1 : n / 37632 % 7 < 7:=Int.emod_lt_of_pos _ (by decide)
  obtain ⟨wd,hw,hwl⟩:=JbJ [109,111,115,116,32] [108,101,97,115,116,32] (n / 784 % 2) (Int.emod_nonneg _ (by decide)) (Int.emod_lt_of_pos _ (by decide))
  have hwl' : wd.length ≤ 6:=by rcases hwl with rfl | rfl <;> decide
  walk_at "rd"
  intro p hp
  walk_at "rd"
  have s1 : Same H (upd H p (.lst [T [109,111,115,116,32],T [108,101,97,115,116,32]])):=JF hp _
  have cn : ∀ (w0 : List Nat) (i d : Int),w0 ++ [32] ++ ([48 + i.toNat] ++ [32,111,102,32] ++ mk ++ [32,105,110,32] ++ [48 + d.toNat]) = cnT w0 i mk d:=fun w0 i d=>by
   unfold cnT
   simp
  rcases hwl with rfl | rfl
  ·have q':=q (.most (n / 4704 % 8) mk (1 + n / 37632 % 7)) _ s1 ⟨⟨f0,by omega⟩,⟨by omega,by omega⟩,gmk⟩ rfl
   have e : (R.most (n / 4704 % 8) mk (1 + n / 37632 % 7)).tx = [109,111,115,116,32] ++ ([48 + (n / 4704 % 8).toNat] ++ [32,111,102,32] ++ mk ++ [32,105,110,32] ++ [48 + (1 + n / 37632 % 7).toNat]):=(cn [109,111,115,116] _ _).symm
   rw [e] at q'
   exact q'
  ·have q':=q (.least (n / 4704 % 8) mk (1 + n / 37632 % 7)) _ s1 ⟨⟨f0,by omega⟩,⟨by omega,by omega⟩,gmk⟩ rfl
   have e : (R.least (n / 4704 % 8) mk (1 + n / 37632 % 7)).tx = [108,101,97,115,116,32] ++ ([48 + (n / 4704 % 8).toNat] ++ [32,111,102,32] ++ mk ++ [32,105,110,32] ++ [48 + (1 + n / 37632 % 7).toNat]):=(cn [108,101,97,115,116] _ _).symm
   rw [e] at q'
   exact q'
theorem JaX (tx : Tx K mg J9 Jd J8 Jb J5 Ji J4 J1) : FnG P w K mg base "_law_rule" 2 ["_law_cell"] JfV:=by
 have J3V:=J60 (P:=P) (w:=w) (base:=base) tx
 have J0A:=J4i (P:=P) (w:=w) (base:=base) tx
 refine tx.Jbr.g J3N (fun _ _ _ _ _ _ us hl=>match us,hl with | [_],_=>rfl) (fun vs H Q E h=>?_) (fun f cdv A outer s H vs Q E hr h=>?_)
 ·obtain ⟨n,rfl,_⟩:=h
  rfl
 ·obtain ⟨n,rfl,q⟩:=h
  refine ⟨_,(J6 (Jbt (J1L (osc:=J7 J28) (ON:=["_law_cell","_law_one","_law_two","_law_both"]) (N:=["_law_number"]) (js:=[none]) ⟨rfl,by decide +kernel,by decide +kernel,by decide +kernel,rfl,by decide +kernel⟩ rfl rfl rfl (J02 (K:=K) rfl (Jv J0A (hr.mono (by decide)) (J0 (Jf JQ (pv 0) J3) (J0 J3 J2)))) (fun _ _ _ _ _=>Ju (i:=0) (show List.Nodup (["_law_number"] : List Str) from by decide +kernel) rfl (Or.inl rfl)) (fun _ _ _ _ _=>J0q) (fun _ _ _ _ _=>(Jv J3V (hr.mono (by decide)) (J0 (pv 0) J2)))) (Jgd rfl (JB (Ju (i:=1) J3N.nd rfl (Or.inl rfl)) (JB (Ju (i:=2) J3N.nd rfl (Or.inl rfl)) J1f))))
   (J6 (JK (Jp JO (Jf JI (pv 0) J3) J3 (Js _)) (Ja (Jl (J1a (J0 (Jf Jn (Jf Jn (Jk (l:=[40,32]) (by decide +kernel)) (pv 1)) (Jk (l:=[32,41]) (by decide +kernel))) (J0 (pv 1) J2))))) Jz)
   (J6 (JK (Jp JO (Jf JI (pv 0) J3) J3 (Js _)) (Ja (Jl (J1a (J0 (Jf Jn (Jf Jn (pv 1) (Jk (l:=[32,97,110,100,32]) (by decide +kernel))) (pv 2)) (J0 (Jf Jn (Jf Jn (pv 1) (Jk (l:=[32,97,110,100,32]) (by decide +kernel))) (pv 2)) J2))))) Jz)
   (J6 (JK (Jp JO (Jf JI (pv 0) J3) J3 (Js _)) (Ja (Jl (J1a (J0 (Jf Jn (Jf Jn (Jf Jn (Jf Jn (Jk (l:=[110,111,116,32,40,32]) (by decide +kernel)) (pv 1)) (Jk (l:=[32,111,114,32]) (by decide +kernel))) (pv 2)) (Jk (l:=[32,41]) (by decide +kernel))) (J0 (Jf Jn (Jf Jn (Jf Jn (Jf Jn (Jk (l:=[110,111,116,32,40,32]) (by decide +kernel)) (pv 1)) (Jk (l:=[32,111,114,32]) (by decide +kernel))) (pv 2)) (Jk (l:=[32,41]) (by decide +kernel))) J2))))) Jz)
   (J6 (JK (Jp JO (Jf JI (pv 0) J3) J3 (Js _)) (J6 (Jw (i:=3) J3N.nd rfl (Or.inl rfl) (Jf Jn (Jf Jn (pv 1) (Jk (l:=[32,97,110,100,32]) (by decide +kernel))) (pv 2)))
   (Ja (Jl (J1a (J0 (Jf Jn (Jf Jn (Jf Jn (Jf Jn (Jk (l:=[40,32]) (by decide +kernel)) (pv 3)) (Jk (l:=[32,41,32,111,114,32,40,32,110,111,116,32]) (by decide +kernel))) (pv 1)) (Jk (l:=[32,41]) (by decide +kernel))) (J0 (Jf Jn (Jf Jn (pv 3) (Jk (l:=[32,111,114,32,110,111,116,32]) (by decide +kernel))) (pv 1)) J2)))))) Jz)
   (Ja (Jl (J1a (J0 (pv 1) (J0 (pv 1) J2)))))))))),?_⟩
  walk_at "st"
  clear J3V J0A
  walk_at "rd"
  intro st H1 xs s1 nst hst hxs
  walk_at "rd"
  refine J0r xs (fun _=>true) (fun _ y _=>∃ r : R,y = T r.tx ∧ r.ok ∧ r.sz = 1) (fun σ=>∃ v,σ = [v]) (J0L (SqL.of hst)) (by rw [List.length_map]) (by omega) ⟨_,rfl⟩ (fun _ _ _ _ _ z=>z) (fun i a v σ H' ha hv hσ s' Rf Rt _ hR=>?_) (fun D H2 ys nD s2 hys hD=>?_)
  ·obtain ⟨w1,rfl⟩:=hσ
   rw [List.getElem?_map,ha] at hv
   cases hv
   walk_at "rd"
   exact fun r H2 s2 ho hz=>hR _ _ _ rfl ⟨_,rfl⟩ s2 ⟨r,rfl,ho,hz⟩
  have hyl:=hys.len
  rw [List.filter_eq_self.mpr fun _ _=>rfl] at hyl hys
  obtain ⟨r1,r2,rfl,o1,z1,o2,z2⟩ : ∃ r1 r2 : R,ys = [T r1.tx,T r2.tx] ∧ r1.ok ∧ r1.sz = 1 ∧ r2.ok ∧ r2.sz = 1:=by
   match ys,hyl,hys with
   | [y1,y2],_,hys =>
    obtain ⟨_,_,r1,rfl,a1,b1⟩:=hys.back (i:=0) rfl
    obtain ⟨_,_,r2,rfl,a2,b2⟩:=hys.back (i:=1) rfl
    exact ⟨r1,r2,rfl,a1,b1,a2,b2⟩
   | [],e,_=>exact absurd e (by simp only [List.length_nil]; omega)
   | [_],e,_=>exact absurd e (by simp only [List.length_cons,List.length_nil]; omega)
   | _ :: _ :: _ :: _,e,_=>exact absurd e (by simp only [List.length_cons]; omega)
  clear hys hyl hst hxs nst nD
  have s12:=s1.trans s2
  have l1 : r1.tx.length ≤ 32:=by have:=(R.tx_ok o1).ln; omega
  have l2 : r2.tx.length ≤ 32:=by have:=(R.tx_ok o2).ln; omega
  walk_at "rd"
  refine ite2 (fun _=>?_) (fun _=>?_)
  ·walk_at "rd"
   exact fun t ht=>q t _ r1 _ (s12.trans (JF ht _)) Je (TxR.br1 o1 z1) (TxR.own o1 (by omega))
  walk_at "rd"
  refine ite2 (fun _=>?_) (fun _=>?_)
  ·walk_at "rd"
   refine fun t ht=>?_
   have tt : TxR (.both r1 r2) (R.both r1 r2).tx:=TxR.own ⟨o1,o2⟩ (by show r1.sz + r2.sz + 1 ≤ 7; omega)
   rw [← Jcg z1 z2]
   exact q t _ (.both r1 r2) _ (s12.trans (JF ht _)) Je tt tt
  walk_at "rd"
  refine ite2 (fun _=>?_) (fun _=>?_)
  ·walk_at "rd"
   refine fun t ht=>?_
   have tt : TxR (.neg (.either r1 r2)) (R.neg (.either r1 r2)).tx:=TxR.own (r:=.neg (.either r1 r2)) ⟨o1,o2⟩ (by show r1.sz + r2.sz + 1 + 1 ≤ 7; omega)
   rw [← JgI z1 z2]
   exact q t _ (.neg (.either r1 r2)) _ (s12.trans (JF ht _)) Je tt tt
  walk_at "rd"
  refine ite2 (fun _=>?_) (fun _=>?_)
  ·walk_at "rd"
   refine fun t ht=>?_
   have tt : TxR (.either (.both r1 r2) (.neg r1)) (R.either (.both r1 r2) (.neg r1)).tx:=TxR.own ⟨⟨o1,o2⟩,o1⟩ (by show r1.sz + r2.sz + 1 + (r1.sz + 1) + 1 ≤ 7; omega)
   have e : r1.tx ++ [32,97,110,100,32] ++ r2.tx ++ [32,111,114,32,110,111,116,32] ++ r1.tx = (R.either (.both r1 r2) (.neg r1)).tx:=(JgG z1 z2).symm
   rw [e]
   exact q t _ (.either (.both r1 r2) (.neg r1)) _ (s12.trans (JF ht _)) Je (TxR.orn2 o1 o2 z1 z2) tt
  walk_at "rd"
  exact fun t ht=>q t _ r1 _ (s12.trans (JF ht _)) Je (TxR.own o1 (by omega)) (TxR.own o1 (by omega))
end
noncomputable def JeQ : Sp:=fun vs H Q _=>∃ (l : List Nat) (n : Int),vs = [T l,.int n] ∧ l.length ≤ 10 ∧ ∀ (cs : List Nat) (H' : Hp),Same H H' → cs.length ≤ l.length → (∀ c ∈ cs,c ∈ l) → (l.Nodup → cs.Nodup) → Q (T cs) H'
noncomputable def Jdf : Sp:=fun vs H Q _=>∃ (c d : Int) (ks : List Nat),vs = [.int c,.int d,T ks] ∧ 1 ≤ d ∧ d ≤ 14 ∧ ks.length ≤ 4 ∧ ks.Nodup ∧ ∀ (a : Addr) (H' : Hp) (nds : List Nd) (xs : List V),Same H H' → H a = none → H' a = some (.lst xs) → All2 NdAt H' nds xs → (∀ n ∈ nds,NdG d ks n) → nds.Pairwise (ndLt ks) → nds.length ≤ 56 → Q (.ref a) H'
noncomputable def Jcq (K : PySem.W.Frag) : Sp:=fun vs H Q _=>∃ (a : Addr) (ns : List Int) (p : Int) (ks : List Nat),vs = [.ref a,.int p,T ks] ∧ SqL K H a (ns.map V.int) ∧ 0 ≤ p ∧ ks.length ≤ 4 ∧ ks.Nodup ∧ ∀ (t : Addr) (H' : Hp) (n : Ps),Same H H' → H' t = some (.tup [T n.nm,T n.sk,.int n.most,.int n.car,T n.past]) → PsG ks n → n.nm = J3n (J07 ns 1) p → Q (.ref t) H'
noncomputable def WsT : Ws → V → Hp → Prop:=fun w y H=>∃ t,y = .ref t ∧ H t = some (.tup [T w.nm,.int w.day,T w.ms])
theorem WsT.keeps (n : Ws) (y : V) (Ha Hb : Hp) (k : Keeps Ha Hb) (h : WsT n y Ha) : WsT n y Hb:=let ⟨t,e,h⟩:=h; ⟨t,e,k _ _ h fun zs z=>by cases z⟩
noncomputable def PqT : Pq → V → Hp → Prop:=fun p y H=>∃ t,y = .ref t ∧ H t = some (.tup [T p.wd,T p.one,T p.two])
theorem PqT.keeps (n : Pq) (y : V) (Ha Hb : Hp) (k : Keeps Ha Hb) (h : PqT n y Ha) : PqT n y Hb:=let ⟨t,e,h⟩:=h; ⟨t,e,k _ _ h fun zs z=>by cases z⟩
noncomputable def RtT : Rt → V → Hp → Prop:=fun a y H=>∃ t t2,y = .ref t ∧ H t = some (.tup [T a.nm,.ref t2]) ∧ H t2 = some (.tup [T a.tx,T a.r.tx])
theorem RtT.keeps (a : Rt) (y : V) (Ha Hb : Hp) (k : Keeps Ha Hb) (h : RtT a y Ha) : RtT a y Hb:=let ⟨t,t2,e,h1,h2⟩:=h; ⟨t,t2,e,k _ _ h1 (fun zs z=>by cases z),k _ _ h2 (fun zs z=>by cases z)⟩
noncomputable def Jf4 : Sp:=fun vs H Q _=>∃ (nm : List Nat) (c d : Int) (ks : List Nat),vs = [T nm,.int c,.int d,T ks] ∧ 1 ≤ d ∧ d ≤ 14 ∧ ks.length ≤ 4 ∧ (ks ++ [45]).Nodup ∧ ∀ (t : Addr) (H' : Hp) (w : Ws),Same H H' → H' t = some (.tup [T w.nm,.int w.day,T w.ms]) → (∀ nms : List (List Nat),nm ∈ nms → WsG d ks nms w) → Q (.ref t) H'
theorem All2.nodup {α : Type} {P : α → V → Hp → Prop} {H : Hp} (hu : ∀ a b y,P a y H → P b y H → a = b) : ∀ {as : List α} {ys : List V},All2 P H as ys → as.Nodup → ys.Nodup
 | [],[],_,_=>List.nodup_nil
 | a :: as,y :: ys,h,hn=>by
  have hn':=List.nodup_cons.mp hn
  refine List.nodup_cons.mpr ⟨fun hy=>?_,All2.nodup hu h.2 hn'.2⟩
  obtain ⟨i,hi⟩:=List.getElem?_of_mem hy
  obtain ⟨b,hb,hp⟩:=h.2.back hi
  have e:=hu _ _ _ h.1 hp
  exact hn'.1 (e ▸ List.mem_of_getElem? hb)
 | [],_ :: _,h,_=>h.elim
 | _ :: _,[],h,_=>h.elim
theorem JbB {x k : Nat} {r : List Nat} (h : x ≠ k) : (x :: r).idxOf k = r.idxOf k + 1:=by
 rw [List.idxOf_cons,beq_eq_false_iff_ne.mpr h]
 rfl
theorem JbP {ks : List Nat} (hn : ks.Nodup) : ∀ {j k : Nat},ks[j]? = some k → ks.idxOf k = j:=by
 induction ks with
 | nil=>intro j k h; simp at h
 | cons x r ih =>
  intro j k h
  have hn':=List.nodup_cons.mp hn
  cases j with
  | zero =>
   have e : x = k:=Option.some.inj h
   rw [e,List.idxOf_cons_self]
  | succ j =>
   have h' : r[j]? = some k:=h
   have ne : x ≠ k:=fun e=>hn'.1 (e ▸ List.mem_of_getElem? h')
   rw [JbB ne,ih hn'.2 h']
theorem JbD {l : List Nat} (hn : l.Nodup) {i j c : Nat} (hi : l[i]? = some c) (hj : l[j]? = some c) : i = j:=by
 rw [← JbP hn hi,← JbP hn hj]
theorem JeN (c : Int) : (J3T c ++ [45]).Nodup:=by
 rw [List.nodup_append]
 refine ⟨J5I c,by simp,fun a ha b hb=>?_⟩
 rw [List.mem_singleton.mp hb]
 exact JaA c a ha
theorem JbR (c : Int) : ∀ k ∈ J3T c,k ∈ ABC:=by
 intro k hk
 obtain ⟨n,_,rfl⟩:=List.mem_map.mp hk
 have h0 : 0 ≤ (c / 4 + (0 + (n : Int)) * (1 + c / 104 % 6)) % 26:=Int.emod_nonneg _ (by decide)
 have h1 : (c / 4 + (0 + (n : Int)) * (1 + c / 104 % 6)) % 26 < 26:=Int.emod_lt_of_pos _ (by decide)
 generalize (c / 4 + (0 + (n : Int)) * (1 + c / 104 % 6)) % 26 = z at h0 h1
 have key : ∀ m : Nat,m < 26 → 65 + m ∈ ABC:=by decide
 exact key z.toNat (by omega)
theorem Jcc {i : Int} (h0 : 0 ≤ i) (h1 : i < 26) : ltr i ∈ abc:=by
 have key : ∀ m : Nat,m < 26 → 97 + m ∈ abc:=by decide
 exact key i.toNat (by omega)
theorem J8x (c : Int) : ∀ k ∈ J3i c,k ∈ abc:=by
 intro k hk
 obtain ⟨n,_,rfl⟩:=List.mem_map.mp hk
 exact Jcc (Int.emod_nonneg _ (by decide)) (Int.emod_lt_of_pos _ (by decide))
theorem Jd7 (c p : Int) : ∃ k : Nat,J32 c p = (J3i c).take k ++ [ltr ((c + p) % 26)] ++ (J3i c).drop k:=by
 unfold J32
 have h0 : 0 ≤ c / 7 % (((J3i c).length : Int) + 1):=Int.emod_nonneg _ (by omega)
 exact ⟨(c / 7 % (((J3i c).length : Int) + 1)).toNat,by rw [J6i _ _ h0,J45 _ _ h0]⟩
theorem Jby (c p : Int) : 1 ≤ (J3n c p).length ∧ (J3n c p).length ≤ 8 ∧ (∀ k ∈ J3n c p,k ∈ abc) ∧ J3n c p ≠ wAll:=by
 obtain ⟨k,e⟩:=Jd7 c p
 have hb:=J8w c
 unfold J3n
 split
 ·exact ⟨by decide,by decide,by decide,by decide⟩
 ·rename_i h
  refine ⟨?_,?_,?_,h⟩
  ·rw [e]
   simp only [List.length_append,List.length_cons,List.length_nil]
   omega
  ·rw [e]
   simp only [List.length_append,List.length_cons,List.length_nil,List.length_take,List.length_drop]
   omega
  ·rw [e]
   intro x hx
   simp only [List.mem_append,List.mem_singleton] at hx
   rcases hx with (hx | rfl) | hx
   ·exact J8x c x (List.mem_of_mem_take hx)
   ·exact Jcc (Int.emod_nonneg _ (by decide)) (Int.emod_lt_of_pos _ (by decide))
   ·exact J8x c x (List.mem_of_mem_drop hx)
theorem All2.memL {α : Type} {P : α → V → Hp → Prop} {H : Hp} {p : α → Prop} : ∀ {as : List α} {ys : List V},All2 P H as ys → (∀ a ∈ as,p a) → All2 (fun a y H=>p a ∧ P a y H) H as ys
 | [],[],_,_=>trivial
 | _ :: _,_ :: _,h,hp=>⟨⟨hp _ List.mem_cons_self,h.1⟩,All2.memL h.2 fun a ha=>hp a (List.mem_cons_of_mem _ ha)⟩
 | [],_ :: _,h,_=>h.elim
 | _ :: _,[],h,_=>h.elim
section
variable {P : Program} {w : World} {K : PySem.W.Frag} {mg : Str → Option Value} {base : Heap} {J9 Jd J8 Jb J5 Ji J4 J1 : Addr}
theorem J6R (tx : Tx K mg J9 Jd J8 Jb J5 Ji J4 J1) : FnG P w K mg base "_law_some" 1 ["_law_signs","_law_number"] JeQ:=by
 refine tx.Jbc.g J6p (fun _ _ _ _ _ _ us hl=>match us,hl with | [_,_],_=>rfl) (fun vs H Q E h=>?_) (fun f cdv A outer s H vs Q E hr h=>?_)
 ·obtain ⟨l,n,rfl,_⟩:=h
  rfl
 ·obtain ⟨l,n,rfl,hl,q⟩:=h
  refine ⟨_,(J6 (Jw (i:=2) J6p.nd rfl (Or.inl rfl) (J2L (K:=K) rfl (Jk (l:=[]) (by decide +kernel)) (J0 (J1L (osc:=J7 J25) (ON:=["_law_signs","_law_number","_law_found"]) (N:=["_law_k","_law_signs","_law_number"]) (js:=[none,some 0,some 1]) ⟨rfl,by decide +kernel,by decide +kernel,by decide +kernel,rfl,by decide +kernel⟩ rfl rfl rfl (J2q rfl tx.J1x (J0 (Jx JT rfl tx.JS PySem.boot_len (J0 (pv 0) J2)) J2)) (fun _ _ _ _ _=>Ju (i:=0) (show List.Nodup (["_law_k","_law_signs","_law_number"] : List Str) from by decide +kernel) rfl (Or.inl rfl)) (fun _ _ _ _ _=>Jeh (Jp JO (Jf JdT (Jf Je2 (pv 2) (pv 0)) J3) J3 (Js _))) (fun _ _ _ _ _=>(Jr J4l (pv 1) (pv 0) (fun _ _=>rfl)))) J2)))
   (J6 (JK (Jp JO (Jf JdT (Jf Je2 (pv 1) (Jx JT rfl tx.JS PySem.boot_len (J0 (pv 0) J2))) J3) J3 (Js _)) (Ja (Jl (Jgo (pv 2) (J6x J4A J3)))) Jz)
   (Ja (Jl (pv 2))))),?_⟩
  walk_at "st"
  walk_at "rd"
  refine J0r ((List.range l.length).map fun (i : Nat)=>(0 + (i : Int))) (fun i=>decide (V.int (Builtin.bitAnd (n / 2 ^ i.toNat) 1) = V.int 1)) (fun a y _=>∃ c,y = T [c] ∧ l[a.toNat]? = some c) (fun σ=>∃ v,σ = [v,some (T l),some (.int n)]) (J3h 0 l.length) ?_ ?_ ⟨_,rfl⟩ (fun _ _ _ _ _ z=>z) (fun i a v σ H' ha hv hσ s' Rf Rt hF hR=>?_) (fun D H2 ys hD s2 hys hDD=>?_)
  ·rw [List.length_map,List.length_map]
  ·rw [List.length_map,List.length_range]; omega
  ·obtain ⟨w,rfl⟩:=hσ
   rw [List.getElem?_map] at ha hv
   have hi : i < l.length:=by
    cases e : (List.range l.length)[i]? with
    | none=>rw [e] at ha; cases ha
    | some j=>have:=(List.getElem?_eq_some_iff.mp e).1; rw [List.length_range] at this; exact this
   rw [List.getElem?_range hi] at ha hv
   cases ha
   cases hv
   obtain ⟨c,hc,hc2⟩:=J3p l (0 + (i : Int)) (by omega) (by omega)
   have i0 : (0 : Int) ≤ 0 + (i : Int):=by omega
   walk_at "rd"
   refine ite2 (fun e=>?_) (fun e=>?_)
   ·walk_at "rd"
    exact hR _ _ _ e ⟨_,rfl⟩ (Same.refl _) ⟨c,rfl,hc2⟩
   ·exact hF _ _ (Bool.eq_false_iff.mpr e) ⟨_,rfl⟩ (Same.refl _)
  have hlen:=hys.len
  have hfl:=List.length_filter_le (fun i : Int=>decide (V.int (Builtin.bitAnd (n / 2 ^ i.toNat) 1) = V.int 1)) ((List.range l.length).map fun (i : Nat)=>(0 + (i : Int)))
  rw [List.length_map,List.length_range] at hfl
  obtain ⟨cs,rfl,hcs⟩:=Jas (ys:=ys) fun y hy=>by
   obtain ⟨i,hi,rfl⟩:=List.mem_iff_getElem.mp hy
   obtain ⟨a,_,c,h,_⟩:=hys.back (List.getElem?_eq_getElem hi)
   exact ⟨c,h⟩
  have hin : ∀ c ∈ cs,c ∈ l:=fun c hc=>by
   obtain ⟨i,hi⟩:=List.getElem?_of_mem (List.mem_map.mpr ⟨[c],List.mem_map.mpr ⟨c,hc,rfl⟩,rfl⟩ : T [c] ∈ (cs.map fun c=>[c]).map T)
   obtain ⟨a,_,c',h,h2⟩:=hys.back hi
   have e' : [c] = [c']:=J1M h
   rw [List.head_eq_of_cons_eq e']
   exact List.mem_of_getElem? h2
  have hnd : l.Nodup → cs.Nodup:=fun hl'=>by
   have h1 : (((List.range l.length).map fun (i : Nat)=>(0 + (i : Int))).filter (fun i : Int=>decide (V.int (Builtin.bitAnd (n / 2 ^ i.toNat) 1) = V.int 1))).Nodup:=by
    refine List.Pairwise.filter _ ?_
    rw [List.pairwise_map]
    exact List.Pairwise.imp (fun h e=>by omega) (List.pairwise_lt_range (n:=l.length))
   have hmem : ∀ a ∈ ((List.range l.length).map fun (i : Nat)=>(0 + (i : Int))).filter (fun i : Int=>decide (V.int (Builtin.bitAnd (n / 2 ^ i.toNat) 1) = V.int 1)),0 ≤ a:=fun a ha=>by
    obtain ⟨ha,_⟩:=List.mem_filter.mp ha
    obtain ⟨i,_,rfl⟩:=List.mem_map.mp ha
    omega
   have h2 : ((cs.map fun c=>[c]).map T).Nodup:=by
    have hys' : All2 (fun (a : Int) (y : V) (_ : Hp)=>0 ≤ a ∧ ∃ c,y = T [c] ∧ l[a.toNat]? = some c) H2 _ _:=All2.memL hys hmem
    refine All2.nodup (fun a b y h1 h2=>?_) hys' h1
    obtain ⟨a0,c,e1,e2⟩:=h1
    obtain ⟨b0,c',e3,e4⟩:=h2
    have e5 : [c] = [c']:=J1M (e1.symm.trans e3)
    rw [← List.head_eq_of_cons_eq e5] at e4
    have:=JbD hl' e2 e4
    omega
   rw [List.map_map] at h2
   exact (List.pairwise_map.mp h2).imp fun h e=>h (by rw [e])
  have hjl : (((cs.map fun c=>[c]).map List.length).sum + (cs.map fun c=>[c]).length * ([] : List Nat).length ≤ 16777216):=by
   rw [J4B,List.length_map,List.length_nil,Nat.mul_zero]
   omega
  have hD3 : SqL K H2 D ((cs.map fun c=>[c]).map T):=SqL.of hDD
  have l0 : (0 : Int) ≤ (l.length : Int):=by omega
  walk_at "rd"
  rw [J41,J46]
  walk_at "rd"
  have hcs' : cs.length ≤ l.length:=by omega
  have hcs2 : cs.length ≤ 1000:=by omega
  refine ite2 (fun e=>?_) (fun e=>?_)
  ·walk_at "rd"
   exact q cs.reverse H2 s2 (by rw [List.length_reverse]; exact hcs') (fun c hc=>hin c (List.mem_reverse.mp hc)) (fun h=>List.pairwise_reverse.mpr ((hnd h).imp fun h e=>h e.symm))
  ·walk_at "rd"
   exact q cs H2 s2 hcs' hin hnd
theorem Ja9 (tx : Tx K mg J9 Jd J8 Jb J5 Ji J4 J1) : FnG P w K mg base "_law_needs" 2 ["_law_cell","_law_days","_law_kinds_here"] Jdf:=by
 have J0A:=J4i (P:=P) (w:=w) (base:=base) tx
 refine tx.Jai.g J0W (fun _ _ _ _ _ _ us hl=>match us,hl with | [_,_,_],_=>rfl) (fun vs H Q E h=>?_) (fun f cdv A outer s H vs Q E hr h=>?_)
 ·obtain ⟨c,d,ks,rfl,_⟩:=h
  rfl
 ·obtain ⟨c,d,ks,rfl,d0,d1,hk,hkn,q⟩:=h
  refine ⟨_,(J6 (Jw (i:=3) J0W.nd rfl (Or.inl rfl) (J0d J2))
   (J6 (Jw (i:=4) J0W.nd rfl (Or.inl rfl) (Jv J0A (hr.mono (by decide)) (J0 (pv 0) (J0 (Jf J5a (pv 1) (Jx JT rfl tx.JS PySem.boot_len (J0 (pv 2) J2))) J2))))
   (J6 (J2J PassesOwn.never rfl (J2q rfl tx.J1x (J0 (pv 1) J2)) (Ju (i:=5) J0W.nd rfl (Or.inl rfl)) (Ja (J2J PassesOwn.never rfl (J2q rfl tx.J1x (J0 (Jx JT rfl tx.JS PySem.boot_len (J0 (pv 2) J2)) J2)) (Ju (i:=6) J0W.nd rfl (Or.inl rfl)) (J6 (Jw (i:=7) J0W.nd rfl (Or.inl rfl) (Jr (Jg (K:=K) rfl) (pv 4) (Jf J0h (Jf J5a (pv 5) (Jx JT rfl tx.JS PySem.boot_len (J0 (pv 2) J2))) (pv 6)) (fun _ _=>rfl)))
   (J6 (Jw (i:=8) J0W.nd rfl (Or.inl rfl) (Jf JI (Jf JQ (pv 7) J3) J3))
   (Ja (JK (Jp J7G (Jf JI (pv 7) J3) J3 (Js _)) (Ja (J0i (J20 PySem.F.plainAttrs_list PySem.F.slot_list_append PySem.F.type_list_append JP (pv 3) (J0 (J1a (J0 (pv 5) (J0 (Jr J4l (pv 2) (pv 6) (fun _ _=>rfl)) (J0 (Jf JI (Jf JQ (pv 7) J3) (Jf J0h (pv 8) J3)) (J0 (pv 8) J2))))) J2)))) Jz)))))))
   (Ja (Jl (pv 3)))))),?_⟩
  walk_at "st"
  clear J0A
  have kl0 : (0 : Int) ≤ (ks.length : Int):=by omega
  have md0 : 0 ≤ d * (ks.length : Int):=Int.mul_nonneg (by omega) kl0
  have md1 : d * (ks.length : Int) ≤ 56:=by
   have:=Int.mul_le_mul d1 (show (ks.length : Int) ≤ 4 by omega) kl0 (by decide)
   omega
  walk_at "rd"
  intro fl nfl
  obtain ⟨H1,e1,hfl1,s1⟩ : ∃ H1,H1 = upd H fl (.lst []) ∧ H1 fl = some (.lst []) ∧ Same H H1:=⟨_,rfl,Je,JF nfl _⟩
  rw [← e1]
  walk_at "rd"
  intro nl H2 ns s2 nnl hnl hns
  have hfl2:=s2 _ _ hfl1
  have nne : nl ≠ fl:=(Jc hfl1 nnl).symm
  walk_at "rd"
  refine J4S (n:=d.toNat) (fun i σ H3=>Here (∃ v1 v2 v3 v4 nds xs,σ = [some (.int c),some (.int d),some (T ks),some (.ref fl),some (.ref nl),v1,v2,v3,v4] ∧ H3 fl = some (.lst xs) ∧ All2 NdAt H3 nds xs ∧ xs.length ≤ ks.length * i ∧ (∀ n ∈ nds,NdG d ks n) ∧ nds.Pairwise (ndLt ks) ∧ (∀ n ∈ nds,n.day < (i : Int)) ∧ H3 nl = some (.lst (ns.map V.int)) ∧ Same H H3)) (Here.mk ⟨none,none,none,none,[],[],rfl,hfl2,trivial,Nat.zero_le _,(fun n hn=>absurd hn List.not_mem_nil),List.Pairwise.nil,(fun n hn=>absurd hn List.not_mem_nil),hnl,s1.trans s2⟩) ?_ ?_
  ·rintro i σ H3 hi hv
   obtain ⟨v1,v2,v3,v4,nds,xs,rfl,hfl3,hA3,hx3,hg3,hp3,hd3,hnl3,s3⟩:=hv.out
   walk_at "rd"
   refine J4S (n:=ks.length) (fun j σ H4=>Here (∃ v2 v3 v4 nds xs,σ = [some (.int c),some (.int d),some (T ks),some (.ref fl),some (.ref nl),some (.int (0 + (i : Int))),v2,v3,v4] ∧ H4 fl = some (.lst xs) ∧ All2 NdAt H4 nds xs ∧ xs.length ≤ ks.length * i + j ∧ (∀ n ∈ nds,NdG d ks n) ∧ nds.Pairwise (ndLt ks) ∧ (∀ n ∈ nds,n.day < (i : Int) ∨ (n.day = (i : Int) ∧ ks.idxOf n.kind < j)) ∧ H4 nl = some (.lst (ns.map V.int)) ∧ Same H H4)) (Here.mk ⟨_,_,_,nds,xs,rfl,hfl3,hA3,by omega,hg3,hp3,(fun n hn=>.inl (hd3 n hn)),hnl3,s3⟩) ?_ ?_
   ·rintro j σ H4 hj hv
    obtain ⟨v2,v3,v4,nds,xs,rfl,hfl4,hA4,hx4,hg4,hp4,hd4,hnl4,s4⟩:=hv.out
    have hik : ks.length * i ≤ 4 * 14:=Nat.mul_le_mul hk (by omega)
    have hm2 : ((i : Int) + 1) * (ks.length : Int) ≤ d * (ks.length : Int):=Int.mul_le_mul_of_nonneg_right (by omega) kl0
    rw [Int.add_mul,Int.one_mul] at hm2
    have hid : 0 ≤ (i : Int) * (ks.length : Int):=Int.mul_nonneg (by omega) kl0
    obtain ⟨z,hz,_⟩:=J7z ns ((0 + (i : Int)) * (ks.length : Int) + (0 + (j : Int))) (by rw [Int.zero_add]; omega) (by rw [Int.zero_add]; omega)
    obtain ⟨k,hk1,hk2⟩:=J3p ks (0 + (j : Int)) (by omega) (by omega)
    have hk3 : ks[j]? = some k:=by rw [show (0 + (j : Int)).toNat = j by omega] at hk2; exact hk2
    have hix:=JbP hkn hk3
    have m0 : 0 ≤ z / 3 % 9:=Int.emod_nonneg _ (by decide)
    have m1 : z / 3 % 9 < 9:=Int.emod_lt_of_pos _ (by decide)
    have hxl : xs.length ≤ 100:=by omega
    walk_at "rd"
    refine ite2 (fun e=>?_) (fun e=>?_)
    ·walk_at "rd"
     intro t ht
     obtain ⟨H5,e5,ht5,s5⟩ : ∃ H5,H5 = upd H4 t (.tup [.int (0 + (i : Int)),T [k],.int (z / 27 % (z / 3 % 9 + 1)),.int (z / 3 % 9)]) ∧ H5 t = some (.tup [.int (0 + (i : Int)),T [k],.int (z / 27 % (z / 3 % 9 + 1)),.int (z / 3 % 9)]) ∧ Same H4 H5:=⟨_,rfl,Je,JF ht _⟩
     rw [← e5]
     have hfl5:=s5 _ _ hfl4
     walk_at "rd"
     have kk : Keeps H5 (upd H5 fl (.lst (xs ++ [.ref t]))):=J0a hfl5
     refine Here.mk ⟨_,_,_,nds ++ [⟨0 + (i : Int),k,z / 27 % (z / 3 % 9 + 1),z / 3 % 9⟩],xs ++ [.ref t],rfl,Je,All2.snoc (hA4.imp fun a y=>NdAt.keeps a y _ _ (s5.keeps.trans kk)) ⟨t,rfl,kk _ _ ht5 (fun zs z=>by cases z)⟩,by rw [List.length_append,List.length_singleton]; omega,?_,?_,?_,?_,(s4.trans s5).upd nfl⟩
     ·intro n hn
      rcases List.mem_append.mp hn with hn | hn
      ·exact hg4 n hn
      ·rw [List.mem_singleton.mp hn]
       have l0 : 0 ≤ z / 27 % (z / 3 % 9 + 1):=Int.emod_nonneg _ (by omega)
       have l1 : z / 27 % (z / 3 % 9 + 1) < z / 3 % 9 + 1:=Int.emod_lt_of_pos _ (by omega)
       exact ⟨by show 0 ≤ 0 + (i : Int); omega,by show 0 + (i : Int) < d; omega,List.mem_of_getElem? hk3,l0,by show z / 27 % (z / 3 % 9 + 1) ≤ z / 3 % 9; omega,by show z / 3 % 9 ≤ 8; omega⟩
     ·refine List.pairwise_append.mpr ⟨hp4,List.pairwise_singleton _ _,fun m hm n hn=>?_⟩
      rw [List.mem_singleton.mp hn]
      rcases hd4 m hm with h | ⟨h,h'⟩
      ·exact .inl (by show m.day < 0 + (i : Int); omega)
      ·exact .inr ⟨by show m.day = 0 + (i : Int); omega,by show ks.idxOf m.kind < ks.idxOf k; omega⟩
     ·intro n hn
      rcases List.mem_append.mp hn with hn | hn
      ·rcases hd4 n hn with h | ⟨h,h'⟩
       ·exact .inl h
       ·exact .inr ⟨h,by omega⟩
      ·rw [List.mem_singleton.mp hn]
       exact .inr ⟨by show 0 + (i : Int) = (i : Int); omega,by show ks.idxOf k < j + 1; omega⟩
     ·rw [Jj nne]
      exact s5 _ _ hnl4
    ·exact Here.mk ⟨_,_,_,nds,xs,rfl,hfl4,hA4,by omega,hg4,hp4,(fun n hn=>(hd4 n hn).imp_right fun h=>⟨h.1,by omega⟩),hnl4,s4⟩
   ·rintro σ H4 hv
    obtain ⟨v2,v3,v4,nds,xs,rfl,hfl4,hA4,hx4,hg4,hp4,hd4,hnl4,s4⟩:=hv.out
    exact Here.mk ⟨_,_,_,_,nds,xs,rfl,hfl4,hA4,by rw [Nat.mul_succ]; exact hx4,hg4,hp4,(fun n hn=>by rcases hd4 n hn with h | ⟨h,_⟩ <;> omega),hnl4,s4⟩
  ·rintro σ H3 hv
   obtain ⟨v1,v2,v3,v4,nds,xs,rfl,hfl3,hA3,hx3,hg3,hp3,hd3,hnl3,s3⟩:=hv.out
   have hik : ks.length * d.toNat ≤ 4 * 14:=Nat.mul_le_mul hk (by omega)
   have hl3:=hA3.len
   walk_at "rd"
   exact q fl H3 nds xs s3 nfl hfl3 hA3 hg3 hp3 (by omega)
end
section
variable {P : Program} {w : World} {K : PySem.W.Frag} {mg : Str → Option Value} {base : Heap} {J9 Jd J8 Jb J5 Ji J4 J1 : Addr}
theorem Jb9 (tx : Tx K mg J9 Jd J8 Jb J5 Ji J4 J1) : FnG P w K mg base "_law_wish" 2 ["_law_name_here","_law_cell","_law_days","_law_kinds_here"] Jf4:=by
 have J3B:=J6R (P:=P) (w:=w) (base:=base) tx
 refine tx.Jbo.g J4t (fun _ _ _ _ _ _ us hl=>match us,hl with | [_,_,_,_],_=>rfl) (fun vs H Q E h=>?_) (fun f cdv A outer s H vs Q E hr h=>?_)
 ·obtain ⟨nm,c,d,ks,rfl,_⟩:=h
  rfl
 ·obtain ⟨nm,c,d,ks,rfl,d0,d1,hk,hkn,q⟩:=h
  refine ⟨_,(J6 (Jw (i:=4) J4t.nd rfl (Or.inl rfl) (Jv J3B (hr.mono (by decide)) (J0 (Jf Jn (pv 3) (Jk (l:=[45]) (by decide +kernel))) (J0 (Jf JQ (pv 1) (pv 2)) J2))))
   (J6 (J4n (JK (Jp JO (pv 4) (Jk (l:=[]) (by decide +kernel)) (Js _)) (Ja (Jw (i:=4) J4t.nd rfl (Or.inl rfl) (Jk (l:=[45]) (by decide +kernel)))) Jz))
   (Ja (Jl (J1a (J0 (pv 0) (J0 (Jf JI (pv 1) (pv 2)) (J0 (pv 4) J2)))))))),?_⟩
  walk_at "st"
  clear J3B
  walk_at "rd"
  intro mk H1 s1 lmk imk nmk
  have b0 : 0 ≤ c % d:=Int.emod_nonneg _ (by omega)
  have b1 : c % d < d:=Int.emod_lt_of_pos _ (by omega)
  have nmk':=nmk hkn
  walk_at "rd"
  refine tCut.mk (fun σ' H'=>Here (∃ mk,σ' = [some (T nm),some (.int c),some (.int d),some (T ks),some (T mk)] ∧ 1 ≤ mk.length ∧ (∀ x ∈ mk,x ∈ ks ++ [45]) ∧ mk.Nodup ∧ H' = H1)) ?_ ?_
  ·walk_at "rd"
   refine ite2 (fun _=>?_) (fun e=>?_)
   ·walk_at "rd"
    exact Here.mk ⟨_,rfl,by decide,fun x hx=>by rw [List.mem_singleton.mp hx]; simp,by simp,rfl⟩
   ·refine Here.mk ⟨_,rfl,?_,imk,nmk',rfl⟩
    cases mk with
    | nil=>exact absurd (decide_eq_true rfl) e
    | cons _ _=>exact Nat.succ_le_succ (Nat.zero_le _)
  rintro σ' H' hv
  obtain ⟨mk,rfl,m1,m2,m3,rfl⟩:=hv.out
  walk_at "rd"
  exact fun t ht=>q t _ ⟨nm,c % d,mk⟩ (s1.trans (JF ht _)) Je (fun nms hn=>⟨hn,b0,b1,m1,m2,m3⟩)
theorem J8I (tx : Tx K mg J9 Jd J8 Jb J5 Ji J4 J1) : FnG P w K mg base "_law_person" 2 ["_law_script","_law_p","_law_kinds_here"] (Jcq K):=by
 have JZ:=J4Z (P:=P) (w:=w) (base:=base) tx
 have J0A:=J4i (P:=P) (w:=w) (base:=base) tx
 have J3B:=J6R (P:=P) (w:=w) (base:=base) tx
 have J6S:=Jb2 (P:=P) (w:=w) (base:=base) tx
 refine tx.J8G.g J0k (fun _ _ _ _ _ _ us hl=>match us,hl with | [_,_,_],_=>rfl) (fun vs H Q E h=>?_) (fun f cdv A outer s H vs Q E hr h=>?_)
 ·obtain ⟨a,ns,p,ks,rfl,_⟩:=h
  rfl
 ·obtain ⟨a,ns,p,ks,rfl,hS,p0,hk,hkn,q⟩:=h
  refine ⟨_,(J6 (Jw (i:=3) J0k.nd rfl (Or.inl rfl) (Jv JZ (hr.mono (by decide)) (J0 (pv 0) (J0 (Jf J0h J3 (pv 1)) J2))))
   (J6 (Jw (i:=4) J0k.nd rfl (Or.inr rfl) (Jv J0A (hr.mono (by decide)) (J0 (Jf J0h (pv 3) (pv 1)) (J0 J3 J2))))
   (J6 (Jw (i:=5) J0k.nd rfl (Or.inr rfl) (Jf Jn (pv 2) (Jk (l:=[45]) (by decide +kernel))))
   (J6 (Jw (i:=6) J0k.nd rfl (Or.inl rfl) (J2L (K:=K) rfl (Jk (l:=[]) (by decide +kernel)) (J0 (J1L (osc:=J7 J0U) (ON:=["_law_script","_law_p","_law_kinds_here","_law_cell","_law_numbers","_law_marks","_law_past","_law_carried","_law_skills"]) (N:=["_law_k","_law_marks","_law_numbers"]) (js:=[none,some 5,some 4]) ⟨rfl,by decide +kernel,by decide +kernel,by decide +kernel,rfl,by decide +kernel⟩ rfl rfl rfl (J2q rfl tx.J1x (J0 (Jf JI (Jr (Jg (K:=K) rfl) (pv 4) J3 (fun _ _=>rfl)) J3) J2)) (fun _ _ _ _ _=>Ju (i:=0) (show List.Nodup (["_law_k","_law_marks","_law_numbers"] : List Str) from by decide +kernel) rfl (Or.inl rfl)) (fun _ _ _ _ _=>J0q) (fun _ _ _ _ _=>(Jr J4l (pv 1) (Jf JI (Jf JQ (Jr (Jg (K:=K) rfl) (pv 2) J3 (fun _ _=>rfl)) (Jf J0h J3 (Jf J5a J3 (pv 0)))) (Jx JT rfl tx.JS PySem.boot_len (J0 (pv 1) J2))) (fun _ _=>rfl)))) J2)))
   (J6 (Jw (i:=7) J0k.nd rfl (Or.inl rfl) (Jf JI (Jf JQ (pv 3) J3) (Jf Jgf J3 J3)))
   (J6 (J4n (JK (Jp JO (Jf JI (pv 3) J3) J3 (Js _)) (Ja (Jw (i:=7) J0k.nd rfl (Or.inl rfl) (Jf JI (Jr (Jg (K:=K) rfl) (pv 4) J3 (fun _ _=>rfl)) J3))) Jz))
   (J6 (Jw (i:=8) J0k.nd rfl (Or.inl rfl) (Jv J3B (hr.mono (by decide)) (J0 (pv 2) (J0 (Jr (Jg (K:=K) rfl) (pv 4) J3 (fun _ _=>rfl)) J2))))
   (Ja (Jl (J1a (J0 (Jv J6S (hr.mono (by decide)) (J0 (Jv JZ (hr.mono (by decide)) (J0 (pv 0) (J0 J3 J2))) (J0 (pv 1) J2))) (J0 (pv 8) (J0 (Jf JI (Jf JQ (Jr (Jg (K:=K) rfl) (pv 4) J3 (fun _ _=>rfl)) J3) J3) (J0 (pv 7) (J0 (pv 6) J2))))))))))))))),?_⟩
  walk_at "st"
  clear JZ J0A J3B J6S
  walk_at "rd"
  intro st H1 xs s1 nst hst hxs
  obtain ⟨x0,e0,_⟩:=J7z xs 0 (by decide) (by omega)
  obtain ⟨x1,e1,_⟩:=J7z xs 1 (by decide) (by omega)
  obtain ⟨x2,e2,_⟩:=J7z xs 2 (by decide) (by omega)
  have m0 : 0 ≤ x1 % 7:=Int.emod_nonneg _ (by decide)
  have m1 : x1 % 7 < 7:=Int.emod_lt_of_pos _ (by decide)
  walk_at "rd"
  refine JeB (fun _ y=>∃ c,y = T [c] ∧ c ∈ ks ++ [45]) (J3h 0 (x1 % 7).toNat) ?_ (fun x hx H' s' R hR=>?_) (fun D H2 ys nD s2 hlen hP hD=>?_)
  ·rw [List.length_map,List.length_range]; omega
  ·obtain ⟨k,hk',rfl⟩:=List.mem_map.mp hx
   have hk':=List.mem_range.mp hk'
   have hst':=s' _ _ hst
   obtain ⟨c,hc,hc2⟩:=J3p (ks ++ [45]) (x1 / (7 + 5 * (0 + (k : Int))) % ((ks ++ [45]).length : Int)) (Int.emod_nonneg _ (by rw [List.length_append,List.length_singleton]; omega)) (Int.emod_lt_of_pos _ (by rw [List.length_append,List.length_singleton]; omega))
   have hlp : (0 : Int) < ((ks ++ [45]).length : Int):=by rw [List.length_append,List.length_singleton]; omega
   walk_at "rd"
   exact hR _ H' ⟨c,rfl,List.mem_of_getElem? hc2⟩ (Same.refl _)
  rw [List.length_map,List.length_range] at hlen
  have hall : ∀ y ∈ ys,∃ c,y = T [c] ∧ c ∈ ks ++ [45]:=fun y hy=>by
   obtain ⟨i,hi,rfl⟩:=List.mem_iff_getElem.mp hy
   exact hP i _ _ (List.getElem?_eq_getElem (by rw [List.length_map,List.length_range]; omega)) (List.getElem?_eq_getElem hi)
  obtain ⟨l,rfl,hcs⟩:=Jas (ys:=ys) fun y hy=>let ⟨c,e,_⟩:=hall y hy; ⟨c,e⟩
  have hlm : ∀ x ∈ l,x ∈ ks ++ [45]:=fun x hx=>by
   obtain ⟨z,e,hz⟩:=hall (T [x]) (by rw [List.map_map]; exact List.mem_map.mpr ⟨x,hx,rfl⟩)
   have e' : [x] = [z]:=J1M e
   rw [List.head_eq_of_cons_eq e']
   exact hz
  have hjl : (((l.map fun c=>[c]).map List.length).sum + (l.map fun c=>[c]).length * ([] : List Nat).length ≤ 16777216):=by
   rw [J4B,List.length_map,List.length_nil,Nat.mul_zero]
   omega
  have hD3 : SqL K H2 D ((l.map fun c=>[c]).map T):=SqL.of hD
  have p40 : CPow 10 40:=⟨by decide,by decide,by decide⟩
  have z40 : (0 : Int) < 10 ^ (40 : Int).toNat:=by decide
  have hst2:=s2 _ _ hst
  have hll : l.length ≤ 6:=by omega
  have u0 : 0 ≤ J07 ns (4 + p) / 3 % 10 ^ (40 : Int).toNat:=Int.emod_nonneg _ (by decide)
  have u1 : J07 ns (4 + p) / 3 % 10 ^ (40 : Int).toNat < 10 ^ (40 : Int).toNat:=Int.emod_lt_of_pos _ z40
  have v0 : 0 ≤ x2 % 12:=Int.emod_nonneg _ (by decide)
  have v1 : x2 % 12 < 12:=Int.emod_lt_of_pos _ (by decide)
  have y0 : 0 ≤ x2 / 12 % 15:=Int.emod_nonneg _ (by decide)
  have y1 : x2 / 12 % 15 < 15:=Int.emod_lt_of_pos _ (by decide)
  walk_at "rd"
  rw [J41,J46]
  clear hP hD hD3 hjl hcs hlen hall
  walk_at "rd"
  refine tCut.mk (fun σ' H'=>Here (∃ car,σ' = [some (.ref a),some (.int p),some (T ks),some (.int (J07 ns (4 + p))),some (.ref st),some (T (ks ++ [45])),some (T l),some (.int car),none] ∧ 0 ≤ car ∧ car < 10 ^ 40 ∧ H' = H2)) ?_ ?_
  ·walk_at "rd"
   refine ite2 (fun _=>?_) (fun _=>?_)
   ·walk_at "rd"
    exact Here.mk ⟨_,rfl,v0,Int.lt_trans v1 (by decide),rfl⟩
   ·exact Here.mk ⟨_,rfl,u0,u1,rfl⟩
  rintro σ' H' hv
  obtain ⟨car,rfl,car0,car1,rfl⟩:=hv.out
  walk_at "rd"
  intro sk H3 s3 lsk isk nsk
  have t3:=(s1.trans s2).trans s3
  have hS3:=t3.seq hS
  walk_at "rd"
  intro H4 s4
  have hst4:=s4 _ _ (s3 _ _ hst2)
  walk_at "rd"
  intro t ht
  have nf:=Jby (J07 ns 1) p
  exact q t _ ⟨J3n (J07 ns 1) p,sk,x2 / 12 % 15,car,l⟩ ((t3.trans s4).trans (JF ht _)) Je ⟨nf.1,nf.2.1,nf.2.2.1,nf.2.2.2,isk,nsk hkn,y0,by show x2 / 12 % 15 ≤ 14; omega,car0,car1,hll,hlm⟩ rfl
end
structure G4 (d : Int) (ks : List Nat) (nms : List (List Nat)) (ls : List (List Nat × Int)) (ws : List Ws) (rts : List Rt) (prs : List Pq) : Prop where
 lg : ∀ l ∈ ls,LvG d nms l
 wg : ∀ w ∈ ws,WsG d ks nms w
 rg : ∀ a ∈ rts,RtG nms a
 rx : ∀ a ∈ rts,TxR a.r a.r.tx
 qg : ∀ p ∈ prs,PqG nms p
theorem J4J {α : Type} {p : α → Prop} {l : List α} {a : α} (h : ∀ x ∈ l,p x) (ha : p a) : ∀ x ∈ l ++ [a],p x:=fun x hx=>by
 rcases List.mem_append.mp hx with hx | hx
 ·exact h x hx
 ·rw [List.mem_singleton.mp hx]; exact ha
theorem G4.l {d : Int} {ks : List Nat} {nms : List (List Nat)} {ls : List (List Nat × Int)} {ws : List Ws} {rts : List Rt} {prs : List Pq} (g : G4 d ks nms ls ws rts prs) {l : List Nat × Int} (h : LvG d nms l) : G4 d ks nms (ls ++ [l]) ws rts prs:=⟨J4J g.lg h,g.wg,g.rg,g.rx,g.qg⟩
theorem G4.w {d : Int} {ks : List Nat} {nms : List (List Nat)} {ls : List (List Nat × Int)} {ws : List Ws} {rts : List Rt} {prs : List Pq} (g : G4 d ks nms ls ws rts prs) {w : Ws} (h : WsG d ks nms w) : G4 d ks nms ls (ws ++ [w]) rts prs:=⟨g.lg,J4J g.wg h,g.rg,g.rx,g.qg⟩
theorem G4.r {d : Int} {ks : List Nat} {nms : List (List Nat)} {ls : List (List Nat × Int)} {ws : List Ws} {rts : List Rt} {prs : List Pq} (g : G4 d ks nms ls ws rts prs) {a : Rt} (h : RtG nms a) (h2 : TxR a.r a.r.tx) : G4 d ks nms ls ws (rts ++ [a]) prs:=⟨g.lg,g.wg,J4J g.rg h,J4J g.rx h2,g.qg⟩
theorem G4.q {d : Int} {ks : List Nat} {nms : List (List Nat)} {ls : List (List Nat × Int)} {ws : List Ws} {rts : List Rt} {prs : List Pq} (g : G4 d ks nms ls ws rts prs) {p : Pq} (h : PqG nms p) : G4 d ks nms ls ws rts (prs ++ [p]):=⟨g.lg,g.wg,g.rg,g.rx,J4J g.qg h⟩
structure PInv (H0 H : Hp) (d : Int) (ks : List Nat) (nms : List (List Nat)) (a1 a2 a3 a4 : Addr) (b1 b2 : Nat) : Prop where
 ex : ∃ (ls : List (List Nat × Int)) (zs : List V) (ws : List Ws) (us : List V) (rts : List Rt) (rs : List V) (prs : List Pq) (qs : List V),H a1 = some (.lst zs) ∧ All2 LvT H ls zs ∧ H a2 = some (.lst us) ∧ All2 WsT H ws us ∧ H a3 = some (.lst rs) ∧ All2 RtT H rts rs ∧ H a4 = some (.lst qs) ∧ All2 PqT H prs qs ∧ G4 d ks nms ls ws rts prs ∧ zs.length ≤ b1 ∧ us.length ≤ b2 ∧ rs.length ≤ 8 ∧ qs.length ≤ 8
 sm : Same H0 H
theorem PInv.same {H0 H H' : Hp} {d : Int} {ks : List Nat} {nms : List (List Nat)} {a1 a2 a3 a4 : Addr} {b1 b2 : Nat} (x : PInv H0 H d ks nms a1 a2 a3 a4 b1 b2) (s : Same H H') : PInv H0 H' d ks nms a1 a2 a3 a4 b1 b2:=by
 obtain ⟨⟨ls,zs,ws,us,rts,rs,prs,qs,h1,h2,h3,h3',h4,h4',h5,h5',h6⟩,sm⟩:=x
 exact ⟨⟨ls,zs,ws,us,rts,rs,prs,qs,s _ _ h1,h2.imp fun a y=>LvT.keeps a y _ _ s.keeps,s _ _ h3,h3'.imp fun a y=>WsT.keeps a y _ _ s.keeps,s _ _ h4,h4'.imp fun a y=>RtT.keeps a y _ _ s.keeps,s _ _ h5,h5'.imp fun a y=>PqT.keeps a y _ _ s.keeps,h6⟩,sm.trans s⟩
theorem PInv.up {H0 H : Hp} {d : Int} {ks : List Nat} {nms : List (List Nat)} {a1 a2 a3 a4 : Addr} {b1 b2 c1 c2 : Nat} (x : PInv H0 H d ks nms a1 a2 a3 a4 b1 b2) (h1 : b1 ≤ c1) (h2 : b2 ≤ c2) : PInv H0 H d ks nms a1 a2 a3 a4 c1 c2:=by
 obtain ⟨⟨ls,zs,ws,us,rts,rs,prs,qs,g1,g2,g3,g3',g4,g4',g5,g5',gg,g6,g7,g8⟩,sm⟩:=x
 exact ⟨⟨ls,zs,ws,us,rts,rs,prs,qs,g1,g2,g3,g3',g4,g4',g5,g5',gg,by omega,by omega,g8⟩,sm⟩
noncomputable def PtAt (H : Hp) (t : Addr) (h : Hs) : Prop:=∃ (a1 a2 a3 a4 a5 a6 : Addr) (xs ys zs us rs qs : List V),H t = some (.tup [.int h.d,T h.ks,.ref a1,.ref a2,.ref a3,.ref a4,.ref a5,.ref a6]) ∧
 H a1 = some (.lst xs) ∧ All2 NdAt H h.nds xs ∧ H a2 = some (.lst ys) ∧ All2 PsT H h.ps ys ∧ H a3 = some (.lst zs) ∧ All2 LvT H h.ls zs ∧ H a4 = some (.lst us) ∧ All2 WsT H h.ws us ∧ H a5 = some (.lst rs) ∧ All2 RtT H h.rts rs ∧ H a6 = some (.lst qs) ∧ All2 PqT H h.prs qs
theorem PtAt.same {H H' : Hp} {t : Addr} {h : Hs} (x : PtAt H t h) (s : Same H H') : PtAt H' t h:=by
 obtain ⟨a1,a2,a3,a4,a5,a6,xs,ys,zs,us,rs,qs,h0,h1,g1,h2,g2,h3,g3,h4,g4,h5,g5,h6,g6⟩:=x
 exact ⟨a1,a2,a3,a4,a5,a6,xs,ys,zs,us,rs,qs,s _ _ h0,s _ _ h1,g1.imp fun a y=>NdAt.keeps a y _ _ s.keeps,s _ _ h2,g2.imp fun a y=>PsT.keeps a y _ _ s.keeps,s _ _ h3,g3.imp fun a y=>LvT.keeps a y _ _ s.keeps,s _ _ h4,g4.imp fun a y=>WsT.keeps a y _ _ s.keeps,s _ _ h5,g5.imp fun a y=>RtT.keeps a y _ _ s.keeps,s _ _ h6,g6.imp fun a y=>PqT.keeps a y _ _ s.keeps⟩
noncomputable def Jdl (K : PySem.W.Frag) : Sp:=fun vs H Q _=>∃ (a : Addr) (ns : List Int),vs = [.ref a] ∧ SqL K H a (ns.map V.int) ∧ ns.length ≤ 63 ∧
 ∀ (t : Addr) (H' : Hp) (h : Hs),Same H H' → PtAt H' t h → HsG h → (∀ a ∈ h.rts,TxR a.r a.r.tx) → Q (.ref t) H'
theorem JcE (ns : List Int) (hn : ns.length ≤ 63) : (cutN ns (some 12) (some 64)).length ≤ 51:=by
 unfold cutN
 have e1 : HT.sIx ns.length 0 (some 12) = min 12 ns.length:=by
  show (if (12 : Int) < 0 then ((12 : Int) + (ns.length : Int)).toNat else min (12 : Int).toNat ns.length) = _
  rw [if_neg (by decide)]
  rfl
 rw [e1,List.length_take,List.length_drop]
 omega
theorem Jg6 {a t m : Int} (h0 : 0 < t) (h1 : t < m) : ¬ a % m = (a + t) % m:=fun e=>by
 have h2 : (a + t - a) % m = 0:=Int.emod_eq_emod_iff_emod_sub_eq_zero.mp e.symm
 rw [show a + t - a = t by omega,Int.emod_eq_of_lt (by omega) h1] at h2
 omega
section
variable {P : Program} {w : World} {K : PySem.W.Frag} {mg : Str → Option Value} {base : Heap} {J9 Jd J8 Jb J5 Ji J4 J1 : Addr}
theorem Ja1 (tx : Tx K mg J9 Jd J8 Jb J5 Ji J4 J1) : FnG P w K mg base "_law_parts" 3 ["_law_script"] (Jdl K):=by
 have JZ:=J4Z (P:=P) (w:=w) (base:=base) tx
 have J6q:=Jab (P:=P) (w:=w) (base:=base) tx
 have J6m:=Ja9 (P:=P) (w:=w) (base:=base) tx
 have J5A:=J8I (P:=P) (w:=w) (base:=base) tx
 have J7r:=Jb9 (P:=P) (w:=w) (base:=base) tx
 have J73:=JaX (P:=P) (w:=w) (base:=base) tx
 refine tx.Ja7.g JM (fun _ _ _ _ _ _ us hl=>match us,hl with | [_],_=>rfl) (fun vs H Q E h=>?_) (fun f cdv A outer s H vs Q E hr h=>?_)
 ·obtain ⟨a,ns,rfl,_⟩:=h
  rfl
 ·obtain ⟨sc,ns,rfl,hS,hns,q⟩:=h
  refine ⟨_,(J6 (Jw (i:=1) JM.nd rfl (Or.inl rfl) (Jf J0h J3 (Jf JI (Jv JZ (hr.mono (by decide)) (J0 (pv 0) (J0 J3 J2))) J3)))
   (J6 (Jw (i:=2) JM.nd rfl (Or.inr rfl) (Jv J6q (hr.mono (by decide)) (J0 (Jv JZ (hr.mono (by decide)) (J0 (pv 0) (J0 J3 J2))) J2)))
   (J6 (Jw (i:=3) JM.nd rfl (Or.inl rfl) (J08 (J0S (K:=K) rfl) (Jv J6m (hr.mono (by decide)) (J0 (Jv JZ (hr.mono (by decide)) (J0 (pv 0) (J0 J3 J2))) (J0 (pv 1) (J0 (pv 2) J2)))) J0M (J0c (Jf JI (Jf JQ (Jv JZ (hr.mono (by decide)) (J0 (pv 0) (J0 J3 J2))) J3) J3))))
   (J6 (Jw (i:=4) JM.nd rfl (Or.inl rfl) (Jf JI (Jv JZ (hr.mono (by decide)) (J0 (pv 0) (J0 J3 J2))) J3))
   (J6 (J9G (k:=5) (osc:=J7 J1k) (ON:=["_law_script","_law_days","_law_kinds_here","_law_needs_here","_law_many","_law_persons","_law_leave","_law_wishes","_law_rules","_law_pairs","_law_cell","_law_name_here","_law_other"]) (N:=["_law_p","_law_script","_law_kinds_here"]) (js:=[none,some 0,some 2]) JM.nd rfl (Or.inl rfl) ⟨rfl,by decide +kernel,by decide +kernel,by decide +kernel,rfl,by decide +kernel⟩ rfl rfl rfl (J2q rfl tx.J1x (J0 (pv 4) J2)) (fun _ _ _ _ _=>Ju (i:=0) (show List.Nodup (["_law_p","_law_script","_law_kinds_here"] : List Str) from by decide +kernel) rfl (Or.inl rfl)) (fun _ _ _ _ _=>J0q) (fun _ _ _ _ _=>(Jv J5A (hr.mono (by decide)) (J0 (pv 1) (J0 (pv 0) (J0 (pv 2) J2))))))
   (J6 (Jw (i:=6) JM.nd rfl (Or.inl rfl) (J0d J2))
   (J6 (Jw (i:=7) JM.nd rfl (Or.inl rfl) (J0d J2))
   (J6 (Jw (i:=8) JM.nd rfl (Or.inl rfl) (J0d J2))
   (J6 (Jw (i:=9) JM.nd rfl (Or.inl rfl) (J0d J2))
   (J6 (J2J PassesOwn.never rfl (J02 (K:=K) rfl (J08 (J0S (K:=K) rfl) (pv 0) (J0c J3) (J0c J3))) (Ju (i:=10) JM.nd rfl (Or.inl rfl)) (J6 (Jw (i:=11) JM.nd rfl (Or.inl rfl) (Jk (l:=[97,108,108]) (by decide +kernel)))
   (J6 (J4n (JK (Jp J7G (pv 4) J3 (Js _)) (Ja (Jw (i:=11) JM.nd rfl (Or.inl rfl) (Jr (J0E (K:=K) rfl) (Jr (Jg (K:=K) rfl) (pv 5) (Jf JI (Jf JQ (pv 10) J3) (pv 4)) (fun _ _=>rfl)) J3 (fun _ _=>rfl)))) Jz))
   (J6 (Jw (i:=12) JM.nd rfl (Or.inl rfl) (pv 11))
   (J6 (J4n (JK (Jp J7G (pv 4) J3 (Js _)) (Ja (Jw (i:=12) JM.nd rfl (Or.inl rfl) (Jr (J0E (K:=K) rfl) (Jr (Jg (K:=K) rfl) (pv 5) (Jf JI (Jf J0h (Jf J0h (Jf JQ (pv 10) J3) J3) (Jf JI (Jf JQ (pv 10) J3) (Jf Jg8 (pv 4) J3))) (pv 4)) (fun _ _=>rfl)) J3 (fun _ _=>rfl)))) Jz))
   (J6 (J4n (JK (PW.pt (J34 (Jp JO (Jf JI (pv 10) J3) J3 (Js _)) (J2P (Jp J7G (pv 4) J3 (Js _))))) (Ja (J0i (J20 PySem.F.plainAttrs_list PySem.F.slot_list_append PySem.F.type_list_append JP (pv 6) (J0 (J1a (J0 (pv 11) (J0 (Jf JI (Jf JQ (pv 10) J3) (pv 1)) J2))) J2)))) Jz))
   (J6 (J4n (JK (PW.pt (J34 (Jp JO (Jf JI (pv 10) J3) J3 (Js _)) (J2P (Jp J7G (pv 4) J3 (Js _))))) (Ja (J0i (J20 PySem.F.plainAttrs_list PySem.F.slot_list_append PySem.F.type_list_append JP (pv 7) (J0 (Jv J7r (hr.mono (by decide)) (J0 (pv 11) (J0 (Jf JQ (pv 10) J3) (J0 (pv 1) (J0 (pv 2) J2))))) J2)))) Jz))
   (J6 (J4n (JK (PW.pt (J34 (Jp JO (Jf JI (pv 10) J3) J3 (Js _)) (J2P (Jp J7K (Jx (JE (K:=K) rfl) rfl tx.JS PySem.boot_len (J0 (pv 8) J2)) J3 (Js _))))) (Ja (J0i (J20 PySem.F.plainAttrs_list PySem.F.slot_list_append PySem.F.type_list_append JP (pv 8) (J0 (J1a (J0 (Jr (Jg (K:=K) rfl) (J0d (J0 (pv 11) (J0 (Jk (l:=[97,108,108]) (by decide +kernel)) J2))) (Jf JI (Jf JQ (pv 10) J3) J3) (fun _ _=>rfl)) (J0 (Jv J73 (hr.mono (by decide)) (J0 (Jf JQ (pv 10) J3) J2)) J2))) J2)))) Jz))
   (Ja (J4n (JK (PW.pt (J34 (Jp JO (Jf JI (pv 10) J3) J3 (Js _)) (J34 (Jp J7G (pv 4) J3 (Js _)) (J2P (Jp J7K (Jx (JE (K:=K) rfl) rfl tx.JS PySem.boot_len (J0 (pv 9) J2)) J3 (Js _)))))) (Ja (J0i (J20 PySem.F.plainAttrs_list PySem.F.slot_list_append PySem.F.type_list_append JP (pv 9) (J0 (J1a (J0 (Jr (Jg (K:=K) rfl) (J0d (J0 (Jk (l:=[97,112,97,114,116]) (by decide +kernel)) (J0 (Jk (l:=[119,105,116,104]) (by decide +kernel)) J2))) (Jf JI (Jf JQ (pv 10) J3) J3) (fun _ _=>rfl)) (J0 (pv 11) (J0 (pv 12) J2)))) J2)))) Jz)))))))))))
   (Ja (Jl (J1a (J0 (pv 1) (J0 (pv 2) (J0 (pv 3) (J0 (pv 5) (J0 (pv 6) (J0 (pv 7) (J0 (pv 8) (J0 (pv 9) J2))))))))))))))))))))),?_⟩
  walk_at "st"
  clear JZ J6q J6m J5A J7r J73
  have d0 : 0 ≤ J07 ns 0 % 14:=Int.emod_nonneg _ (by decide)
  have d1 : J07 ns 0 % 14 < 14:=Int.emod_lt_of_pos _ (by decide)
  have m0 : 0 ≤ J07 ns 3 % 9:=Int.emod_nonneg _ (by decide)
  have m1 : J07 ns 3 % 9 < 9:=Int.emod_lt_of_pos _ (by decide)
  have n0 : 0 ≤ J07 ns 0 / 14 % 20:=Int.emod_nonneg _ (by decide)
  have kl:=JbS (J07 ns 1)
  have kc:=JbR (J07 ns 1)
  have kn:=J5I (J07 ns 1)
  have kd:=JeN (J07 ns 1)
  walk_at "rd"
  intro H1 s1
  have hS1:=s1.seq hS
  generalize J3T (J07 ns 1) = ks at kl kc kn kd ⊢
  generalize J07 ns 0 % 14 = d at d0 d1 ⊢
  walk_at "rd"
  intro nl0 H2 nds nxs s2 nnl hnl hN hNg hNp hNl
  have hS2:=(s1.trans s2).seq hS
  walk_at "rd"
  intro nl nnl2
  obtain ⟨H3,e3,hnl3,s3⟩:=newl (xs:=cutV nxs none (some (J07 ns 0 / 14 % 20))) nnl2
  rw [← e3]
  have hN3 : All2 NdAt H3 (nds.take (J07 ns 0 / 14 % 20).toNat) (cutV nxs none (some (J07 ns 0 / 14 % 20))):=by
   have e : cutV nxs none (some (J07 ns 0 / 14 % 20)) = nxs.take (J07 ns 0 / 14 % 20).toNat:=J6i nxs _ n0
   rw [e]
   exact All2.takeL _ (hN.imp fun a y=>NdAt.keeps a y _ _ s3.keeps)
  have hNg3 : ∀ n ∈ nds.take (J07 ns 0 / 14 % 20).toNat,NdG (1 + d) ks n:=fun n hn=>hNg n (List.mem_of_mem_take hn)
  have hNp3 : (nds.take (J07 ns 0 / 14 % 20).toNat).Pairwise (ndLt ks):=hNp.sublist (List.take_sublist _ _)
  have hNl3 : (nds.take (J07 ns 0 / 14 % 20).toNat).length ≤ 56:=by rw [List.length_take]; omega
  clear hNg hNp hNl
  generalize nds.take (J07 ns 0 / 14 % 20).toNat = nds at hN3 hNg3 hNp3 hNl3
  generalize cutV nxs none (some (J07 ns 0 / 14 % 20)) = nxs at hN3 hnl3 e3
  have t3:=(s1.trans s2).trans s3
  have hS3:=t3.seq hS
  clear hN hnl nnl s1 s2 s3 e3 nnl2 hS1 hS2 n0
  walk_at "rd"
  generalize J07 ns 3 % 9 = m at m0 m1 ⊢
  refine J0r (vs:=(List.range m.toNat).map fun (i : Nat)=>V.int (0 + (i : Int))) ((List.range m.toNat).map fun (i : Nat)=>(0 + (i : Int))) (fun _=>true) (fun a y H=>∃ n : Ps,PsT n y H ∧ PsG ks n ∧ n.nm = J3n (J07 ns 1) a) (fun σ=>∃ v,σ = [v,some (.ref sc),some (T ks)]) (J3h 0 m.toNat) (by rw [List.length_map,List.length_map]) (by rw [List.length_map,List.length_range]; omega) ⟨_,rfl⟩ (fun a y Ha Hb k h=>let ⟨n,g,l⟩:=h; ⟨n,g.keeps _ _ _ _ k,l⟩) (fun i a v σ H' ha hv hσ s' Rf Rt _ hR=>?_) (fun pl H4 ys npl s4 hys hpl=>?_)
  ·obtain ⟨w1,rfl⟩:=hσ
   have ha':=List.mem_of_getElem? ha
   obtain ⟨j,hj,rfl⟩:=List.mem_map.mp ha'
   have hv' : v = .int (0 + (j : Int)):=by
    rw [List.getElem?_map] at ha hv
    cases e : (List.range m.toNat)[i]? with
    | none=>rw [e] at ha; cases ha
    | some x =>
     rw [e] at ha hv
     have z1 : (0 + (x : Int)) = 0 + (j : Int):=Option.some.inj ha
     have z2 : V.int (0 + (x : Int)) = v:=Option.some.inj hv
     rw [← z2,z1]
   subst hv'
   have hS':=s'.seq hS3
   have j0 : (0 : Int) ≤ 0 + (j : Int):=by omega
   walk_at "rd"
   exact fun t H5 n s5 ht hp hn=>hR _ _ _ rfl ⟨_,rfl⟩ s5 ⟨n,⟨t,rfl,ht⟩,hp,hn⟩
  rw [List.filter_eq_self.mpr fun _ _=>rfl] at hys
  obtain ⟨ps,hP,hpl8,hpp⟩ : ∃ ps : List Ps,All2 PsT H4 ps ys ∧ ps.length = m.toNat ∧ ∀ (i : Nat) (n : Ps),ps[i]? = some n → PsG ks n ∧ n.nm = J3n (J07 ns 1) (i : Int):=by
   have key : ∀ (as : List Int) (ys : List V),All2 (fun a y H=>∃ n : Ps,PsT n y H ∧ PsG ks n ∧ n.nm = J3n (J07 ns 1) a) H4 as ys → ∃ ps : List Ps,All2 PsT H4 ps ys ∧ ps.length = as.length ∧ ∀ (i : Nat) (a : Int) (n : Ps),as[i]? = some a → ps[i]? = some n → PsG ks n ∧ n.nm = J3n (J07 ns 1) a:=by
    intro as
    induction as with
    | nil=>intro ys h; cases ys with | nil=>exact ⟨[],trivial,rfl,fun i a n hn=>by simp at hn⟩ | cons _ _=>exact h.elim
    | cons a r ih =>
     intro ys h
     cases ys with
     | nil=>exact h.elim
     | cons y r' =>
      obtain ⟨⟨n,g,l,nn⟩,h2⟩:=h
      obtain ⟨ps,z1,z2,z3⟩:=ih r' h2
      refine ⟨n :: ps,⟨g,z1⟩,by simp [z2],fun i b x hb hx=>?_⟩
      cases i with
      | zero =>
       cases hb
       cases hx
       exact ⟨l,nn⟩
      | succ i=>exact z3 i b x hb hx
   obtain ⟨ps,z1,z2,z3⟩:=key _ _ hys
   rw [List.length_map,List.length_range] at z2
   refine ⟨ps,z1,z2,fun i n hn=>?_⟩
   have hi:=(List.getElem?_eq_some_iff.mp hn).1
   have ha : ((List.range m.toNat).map fun (i : Nat)=>(0 + (i : Int)))[i]? = some (0 + (i : Int)):=by rw [List.getElem?_map,List.getElem?_range (by omega)]; rfl
   have:=z3 i _ n ha hn
   rwa [Int.zero_add] at this
  have hPg : ∀ n ∈ ps,PsG ks n:=fun n hn=>by
   obtain ⟨i,hi⟩:=List.getElem?_of_mem hn
   exact (hpp i n hi).1
  have hPi : ∀ (i j : Nat) (a b : Ps),ps[i]? = some a → ps[j]? = some b → a.nm = b.nm → i = j:=fun i j a b hi hj e=>by
   rw [(hpp i a hi).2,(hpp j b hj).2] at e
   have il:=(List.getElem?_eq_some_iff.mp hi).1
   have jl:=(List.getElem?_eq_some_iff.mp hj).1
   have:=JcX ⟨by omega,by omega⟩ ⟨by omega,by omega⟩ e
   omega
  have hPn : (ps.map (·.nm)).Nodup:=by
   rw [List.nodup_iff_pairwise_ne,List.pairwise_iff_getElem]
   intro i j hi hj hij e
   rw [List.length_map] at hi hj
   rw [List.getElem_map,List.getElem_map] at e
   have:=hPi i j _ _ (List.getElem?_eq_getElem hi) (List.getElem?_eq_getElem hj) e
   omega
  have hIn : ∀ {i : Nat} {n : Ps},ps[i]? = some n → n.nm ∈ ps.map (·.nm):=fun h=>List.mem_map.mpr ⟨_,List.mem_of_getElem? h,rfl⟩
  have t4:=t3.trans s4
  have hnl4:=s4 _ _ hnl3
  have hN4:=hN3.imp fun a y=>NdAt.keeps a y _ _ s4.keeps
  clear hys hnl3 hN3 hS3 s4 t3 npl
  walk_at "rd"
  intro ll n1
  obtain ⟨Ha,ea,a1,ta⟩:=newl (xs:=[]) n1
  rw [← ea]
  walk_at "rd"
  intro wl n2
  obtain ⟨Hb,eb,b1,tb⟩:=newl (xs:=[]) n2
  rw [← eb]
  walk_at "rd"
  intro rl n3
  obtain ⟨Hc,ec,c1,tc⟩:=newl (xs:=[]) n3
  rw [← ec]
  walk_at "rd"
  intro ql n4
  obtain ⟨Hd,ed,dd1,td⟩:=newl (xs:=[]) n4
  rw [← ed]
  have y12 : ll ≠ wl:=Jc a1 n2
  have y13 : ll ≠ rl:=Jc (tb _ _ a1) n3
  have y14 : ll ≠ ql:=Jc ((tb.trans tc) _ _ a1) n4
  have y23 : wl ≠ rl:=Jc b1 n3
  have y24 : wl ≠ ql:=Jc (tc _ _ b1) n4
  have y34 : rl ≠ ql:=Jc c1 n4
  have f1 : H4 ll = none:=n1
  have f2 : H4 wl = none:=ta.free n2
  have f3 : H4 rl = none:=(ta.trans tb).free n3
  have f4 : H4 ql = none:=((ta.trans tb).trans tc).free n4
  have I0 : PInv H4 Hd (1 + d) ks (ps.map (·.nm)) ll wl rl ql 0 0:=⟨⟨[],[],[],[],[],[],[],[],((tb.trans tc).trans td) _ _ a1,trivial,(tc.trans td) _ _ b1,trivial,td _ _ c1,trivial,dd1,trivial,⟨fun _ hp=>absurd hp List.not_mem_nil,fun _ hp=>absurd hp List.not_mem_nil,fun _ hp=>absurd hp List.not_mem_nil,fun _ hp=>absurd hp List.not_mem_nil,fun _ hp=>absurd hp List.not_mem_nil⟩,Nat.le_refl _,Nat.le_refl _,Nat.zero_le _,Nat.zero_le _⟩,((ta.trans tb).trans tc).trans td⟩
  have hSd:=(t4.trans I0.sm).seq hS
  clear ea eb ec ed a1 b1 c1 dd1 ta tb tc td n1 n2 n3 n4
  walk_at "rd"
  intro cl ncl
  rw [JdU]
  obtain ⟨He,ee,hcl,se⟩:=newl (xs:=(cutN ns (some 12) (some 64)).map V.int) ncl
  rw [← ee]
  have lcs:=JcE ns hns
  generalize cutN ns (some 12) (some 64) = cs at lcs hcl ee ⊢
  have I1:=I0.same se
  have nc : ∀ {a : Addr} {o : HO},Hd a = some o → cl ≠ a:=fun e=>(Jc e ncl).symm
  obtain ⟨nc1,nc2,nc3,nc4⟩ : cl ≠ ll ∧ cl ≠ wl ∧ cl ≠ rl ∧ cl ≠ ql:=by
   obtain ⟨ls,zs,ws,us,rts,rs,prs,qs,g1,g2,g3,g3',g4,g4',g5,_⟩:=I0.ex
   exact ⟨nc g1,nc g3,nc g4,nc g5⟩
  clear I0 nc se ee ncl hSd
  have hlp:=hP.len
  walk_at "rd"
  refine J2I (K:=K) (xs:=cs.map V.int) (fun i σ H5=>Here (∃ v1 v2 v3,σ = [some (.ref sc),some (.int (1 + d)),some (T ks),some (.ref nl),some (.int m),some (.ref pl),some (.ref ll),some (.ref wl),some (.ref rl),some (.ref ql),v1,v2,v3] ∧ PInv H4 H5 (1 + d) ks (ps.map (·.nm)) ll wl rl ql i i ∧ H5 cl = some (.lst (cs.map V.int)))) (Here.mk ⟨none,none,none,rfl,I1,hcl⟩) (fun i σ H5 _ hv=>by obtain ⟨_,_,_,_,_,e⟩:=hv.out; exact SqL.of e) ?_ ?_
  ·rintro i x σ H5 hx hv
   obtain ⟨v1,v2,v3,rfl,I5,hcl5⟩:=hv.out
   have hi : i < cs.length:=by have:=(List.getElem?_eq_some_iff.mp hx).1; rwa [List.length_map] at this
   obtain ⟨z,rfl⟩ : ∃ z,x = .int z:=by
    obtain ⟨n,_,e⟩:=List.mem_map.mp (List.mem_of_getElem? hx)
    exact ⟨n,e.symm⟩
   have hpl5:=I5.sm _ _ hpl
   have at_ : ∀ k : Int,0 ≤ k → k < m → ∃ (t : Addr) (n : Ps),atI ys k = some (.ref t) ∧ H5 t = some (.tup [T n.nm,T n.sk,.int n.most,.int n.car,T n.past]) ∧ ps[k.toNat]? = some n:=fun k k0 k1=>by
    have hn : ps[k.toNat]? = some ps[k.toNat]:=List.getElem?_eq_getElem (by omega)
    obtain ⟨y,hy,t,rfl,ht⟩:=hP.get hn
    refine ⟨t,_,?_,I5.sm _ _ ht,hn⟩
    have:=J3P hy
    rwa [Int.toNat_of_nonneg k0] at this
   walk_at "rd"
   refine tCut.mk (fun σ' H'=>Here (∃ nm,σ' = [some (.ref sc),some (.int (1 + d)),some (T ks),some (.ref nl),some (.int m),some (.ref pl),some (.ref ll),some (.ref wl),some (.ref rl),some (.ref ql),some (.int z),some (T nm),v3] ∧ (0 < m → ∃ (n : Ps),ps[(z / 5 % m).toNat]? = some n ∧ n.nm = nm) ∧ (¬ 0 < m → nm = wAll) ∧ H' = H5)) ?_ ?_
   ·walk_at "rd"
    refine ite2 (fun c=>?_) (fun c=>?_)
    ·have c' : 0 < m:=of_decide_eq_true c
     obtain ⟨t,n,e1,e2,en⟩:=at_ (z / 5 % m) (Int.emod_nonneg _ (by omega)) (Int.emod_lt_of_pos _ c')
     obtain ⟨e3,_⟩:=at5 (T n.nm) (T n.sk) (.int n.most) (.int n.car) (T n.past)
     walk_at "rd"
     exact Here.mk ⟨_,rfl,fun _=>⟨n,en,rfl⟩,fun y=>absurd c' y,rfl⟩
    ·exact Here.mk ⟨_,rfl,fun y=>absurd (decide_eq_true y) c,fun _=>rfl,rfl⟩
   rintro σ' H' hv
   obtain ⟨nm,rfl,hnm,hnm0,rfl⟩:=hv.out
   walk_at "rd"
   refine tCut.mk (fun σ' H''=>Here (∃ ot,σ' = [some (.ref sc),some (.int (1 + d)),some (T ks),some (.ref nl),some (.int m),some (.ref pl),some (.ref ll),some (.ref wl),some (.ref rl),some (.ref ql),some (.int z),some (T nm),some (T ot)] ∧ (1 < m → ∃ (n : Ps),ps[((z / 5 + 1 + z / 40 % (m - 1)) % m).toNat]? = some n ∧ n.nm = ot) ∧ H'' = H')) ?_ ?_
   ·walk_at "rd"
    refine ite2 (fun c=>?_) (fun c=>?_)
    ·have c' : 1 < m:=of_decide_eq_true c
     obtain ⟨t,n,e1,e2,en⟩:=at_ ((z / 5 + 1 + z / 40 % (m - 1)) % m) (Int.emod_nonneg _ (by omega)) (Int.emod_lt_of_pos _ (by omega))
     obtain ⟨e3,_⟩:=at5 (T n.nm) (T n.sk) (.int n.most) (.int n.car) (T n.past)
     walk_at "rd"
     exact Here.mk ⟨_,rfl,fun _=>⟨n,en,rfl⟩,rfl⟩
    ·exact Here.mk ⟨_,rfl,fun y=>absurd (decide_eq_true y) c,rfl⟩
   rintro σ' H'' hv
   obtain ⟨ot,rfl,hot,rfl⟩:=hv.out
   clear at_ hpl5
   have hnmI : 0 < m → nm ∈ ps.map (·.nm):=fun hm=>by
    obtain ⟨n,hi,e⟩:=hnm hm
    rw [← e]
    exact hIn hi
   refine tCut.mk (fun σ' H'=>Here (σ' = [some (.ref sc),some (.int (1 + d)),some (T ks),some (.ref nl),some (.int m),some (.ref pl),some (.ref ll),some (.ref wl),some (.ref rl),some (.ref ql),some (.int z),some (T nm),some (T ot)] ∧ PInv H4 H' (1 + d) ks (ps.map (·.nm)) ll wl rl ql (i + 1) i ∧ H' cl = some (.lst (cs.map V.int)))) ?_ ?_
   ·walk_at "rd"
    refine ite2 (fun c=>?_) (fun c=>?_)
    ·walk_at "rd"
     refine ite2 (fun c2=>?_) (fun c2=>?_)
     ·obtain ⟨ls,zs,ws,us,rts,rs,prs,qs,g1,g2,g3,g3',g4,g4',g5,g5',gg,g6,g7,g10,g11⟩:=I5.ex
      walk_at "rd"
      intro t ht
      obtain ⟨H6,e6,ht6,s6⟩:=newt (xs:=[T nm,V.int (z / 40 % (1 + d))]) ht
      rw [← e6]
      have k1:=s6 _ _ g1
      walk_at "rd"
      have kk : Keeps H6 (upd H6 ll (.lst (zs ++ [.ref t]))):=J0a k1
      refine Here.mk ⟨rfl,⟨⟨ls ++ [(nm,z / 40 % (1 + d))],zs ++ [.ref t],ws,us,rts,rs,prs,qs,Je,All2.snoc (g2.imp fun a y=>LvT.keeps a y _ _ (s6.keeps.trans kk)) ⟨t,rfl,kk _ _ ht6 (fun zs z=>by cases z)⟩,?_,g3'.imp fun a y=>WsT.keeps a y _ _ (s6.keeps.trans kk),?_,g4'.imp fun a y=>RtT.keeps a y _ _ (s6.keeps.trans kk),?_,g5'.imp fun a y=>PqT.keeps a y _ _ (s6.keeps.trans kk),gg.l ⟨hnmI (of_decide_eq_true c2),Int.emod_nonneg _ (by omega),Int.emod_lt_of_pos _ (by omega)⟩,by rw [List.length_append,List.length_singleton]; omega,g7,g10,g11⟩,(I5.sm.trans s6).upd f1⟩,?_⟩
      ·rw [Jj y12.symm]; exact s6 _ _ g3
      ·rw [Jj y13.symm]; exact s6 _ _ g4
      ·rw [Jj y14.symm]; exact s6 _ _ g5
      ·rw [Jj nc1]; exact s6 _ _ hcl5
     ·exact Here.mk ⟨rfl,I5.up (by omega) (Nat.le_refl _),hcl5⟩
    ·walk_at "rd"
     exact Here.mk ⟨rfl,I5.up (by omega) (Nat.le_refl _),hcl5⟩
   clear I5 hcl5
   rintro σ' H5 hv
   obtain ⟨rfl,I5,hcl5⟩:=hv.out
   refine tCut.mk (fun σ' H'=>Here (σ' = [some (.ref sc),some (.int (1 + d)),some (T ks),some (.ref nl),some (.int m),some (.ref pl),some (.ref ll),some (.ref wl),some (.ref rl),some (.ref ql),some (.int z),some (T nm),some (T ot)] ∧ PInv H4 H' (1 + d) ks (ps.map (·.nm)) ll wl rl ql (i + 1) (i + 1) ∧ H' cl = some (.lst (cs.map V.int)))) ?_ ?_
   ·walk_at "rd"
    refine ite2 (fun c=>?_) (fun c=>?_)
    ·walk_at "rd"
     refine ite2 (fun c2=>?_) (fun c2=>?_)
     ·obtain ⟨ls,zs,ws,us,rts,rs,prs,qs,g1,g2,g3,g3',g4,g4',g5,g5',gg,g6,g7,g10,g11⟩:=I5.ex
      walk_at "rd"
      intro t H6 wv s6 ht6 hw6
      have k3:=s6 _ _ g3
      walk_at "rd"
      have kk : Keeps H6 (upd H6 wl (.lst (us ++ [.ref t]))):=J0a k3
      refine Here.mk ⟨rfl,⟨⟨ls,zs,ws ++ [wv],us ++ [.ref t],rts,rs,prs,qs,?_,g2.imp fun a y=>LvT.keeps a y _ _ (s6.keeps.trans kk),Je,All2.snoc (g3'.imp fun a y=>WsT.keeps a y _ _ (s6.keeps.trans kk)) ⟨t,rfl,kk _ _ ht6 (fun zs z=>by cases z)⟩,?_,g4'.imp fun a y=>RtT.keeps a y _ _ (s6.keeps.trans kk),?_,g5'.imp fun a y=>PqT.keeps a y _ _ (s6.keeps.trans kk),gg.w (hw6 _ (hnmI (of_decide_eq_true c2))),g6,by rw [List.length_append,List.length_singleton]; omega,g10,g11⟩,(I5.sm.trans s6).upd f2⟩,?_⟩
      ·rw [Jj y12]; exact s6 _ _ g1
      ·rw [Jj y23.symm]; exact s6 _ _ g4
      ·rw [Jj y24.symm]; exact s6 _ _ g5
      ·rw [Jj nc2]; exact s6 _ _ hcl5
     ·exact Here.mk ⟨rfl,I5.up (Nat.le_refl _) (by omega),hcl5⟩
    ·walk_at "rd"
     exact Here.mk ⟨rfl,I5.up (Nat.le_refl _) (by omega),hcl5⟩
   clear I5 hcl5
   rintro σ' H5 hv
   obtain ⟨rfl,I5,hcl5⟩:=hv.out
   refine tCut.mk (fun σ' H'=>Here (σ' = [some (.ref sc),some (.int (1 + d)),some (T ks),some (.ref nl),some (.int m),some (.ref pl),some (.ref ll),some (.ref wl),some (.ref rl),some (.ref ql),some (.int z),some (T nm),some (T ot)] ∧ PInv H4 H' (1 + d) ks (ps.map (·.nm)) ll wl rl ql (i + 1) (i + 1) ∧ H' cl = some (.lst (cs.map V.int)))) ?_ ?_
   ·have I6:=I5
    obtain ⟨ls,zs,ws,us,rts,rs,prs,qs,g1,g2,g3,g3',g4,g4',g5,g5',gg,g6,g7,g10,g11⟩:=I6.ex
    walk_at "rd"
    refine ite2 (fun c=>?_) (fun c=>?_)
    ·walk_at "rd"
     refine ite2 (fun c2=>?_) (fun c2=>?_)
     ·obtain ⟨wd,hw,hwo⟩:=JbJ nm [97,108,108] (z / 5 % 2) (Int.emod_nonneg _ (by decide)) (Int.emod_lt_of_pos _ (by decide))
      walk_at "rd"
      intro p hp
      walk_at "rd"
      intro t H6 rr tx s6 ht6 hx6 hx7
      walk_at "rd"
      intro t2 ht2
      have s7 : Same H5 (upd H6 t2 (.tup [T wd,V.ref t])):=((JF hp _).trans s6).trans (JF ht2 _)
      have k4:=s7 _ _ g4
      walk_at "rd"
      have kk : Keeps (upd H6 t2 (.tup [T wd,V.ref t])) (upd (upd H6 t2 (.tup [T wd,V.ref t])) rl (.lst (rs ++ [.ref t2]))):=J0a k4
      have c2' : (rs.length : Int) < 8:=of_decide_eq_true c2
      have ht2' : upd H6 t2 (.tup [T wd,V.ref t]) t = some (.tup [T tx,T rr.tx]):=JF ht2 _ _ _ ht6
      refine Here.mk ⟨rfl,⟨⟨ls,zs,ws,us,rts ++ [⟨wd,rr,tx⟩],rs ++ [.ref t2],prs,qs,?_,g2.imp fun a y=>LvT.keeps a y _ _ (s7.keeps.trans kk),?_,g3'.imp fun a y=>WsT.keeps a y _ _ (s7.keeps.trans kk),Je,All2.snoc (g4'.imp fun a y=>RtT.keeps a y _ _ (s7.keeps.trans kk)) ⟨t2,t,rfl,kk _ _ Je (fun zs z=>by cases z),kk _ _ ht2' (fun zs z=>by cases z)⟩,?_,g5'.imp fun a y=>PqT.keeps a y _ _ (s7.keeps.trans kk),gg.r ⟨?_,hx6⟩ hx7,g6,g7,by rw [List.length_append,List.length_singleton]; omega,g11⟩,(I5.sm.trans s7).upd f3⟩,?_⟩
      ·rw [Jj y13]; exact s7 _ _ g1
      ·rw [Jj y23]; exact s7 _ _ g3
      ·rw [Jj y34.symm]; exact s7 _ _ g5
      ·rcases hwo with e | e
       ·by_cases hm : 0 < m
        ·exact .inr (by show wd ∈ _; rw [e]; exact hnmI hm)
        ·exact .inl (by show wd = _; rw [e]; exact hnm0 hm)
       ·exact .inl e
      ·rw [Jj nc3]; exact s7 _ _ hcl5
     ·exact Here.mk ⟨rfl,I5,hcl5⟩
    ·walk_at "rd"
     exact Here.mk ⟨rfl,I5,hcl5⟩
   clear I5 hcl5
   rintro σ' H5 hv
   obtain ⟨rfl,I5,hcl5⟩:=hv.out
   refine tCut.mk (fun σ' H'=>Here (σ' = [some (.ref sc),some (.int (1 + d)),some (T ks),some (.ref nl),some (.int m),some (.ref pl),some (.ref ll),some (.ref wl),some (.ref rl),some (.ref ql),some (.int z),some (T nm),some (T ot)] ∧ PInv H4 H' (1 + d) ks (ps.map (·.nm)) ll wl rl ql (i + 1) (i + 1) ∧ H' cl = some (.lst (cs.map V.int)))) ?_ (fun σ' H' hv=>by obtain ⟨e,i1,e2⟩:=hv.out; exact Here.mk ⟨_,_,_,e,i1,e2⟩)
   have I6:=I5
   obtain ⟨ls,zs,ws,us,rts,rs,prs,qs,g1,g2,g3,g3',g4,g4',g5,g5',gg,g6,g7,g10,g11⟩:=I6.ex
   have no : Here ([some (.ref sc),some (.int (1 + d)),some (T ks),some (.ref nl),some (.int m),some (.ref pl),some (.ref ll),some (.ref wl),some (.ref rl),some (.ref ql),some (.int z),some (T nm),some (T ot)] = [some (.ref sc),some (.int (1 + d)),some (T ks),some (.ref nl),some (.int m),some (.ref pl),some (.ref ll),some (.ref wl),some (.ref rl),some (.ref ql),some (.int z),some (T nm),some (T ot)] ∧ PInv H4 H5 (1 + d) ks (ps.map (·.nm)) ll wl rl ql (i + 1) (i + 1) ∧ H5 cl = some (.lst (cs.map V.int))):=Here.mk ⟨rfl,I5,hcl5⟩
   walk_at "rd"
   refine ite2 (fun c=>?_) (fun c=>?_)
   ·walk_at "rd"
    refine ite2 (fun c2=>?_) (fun c2=>?_)
    ·walk_at "rd"
     refine ite2 (fun c3=>?_) (fun c3=>?_)
     ·obtain ⟨wd,hw,hwo⟩:=JbJ [97,112,97,114,116] [119,105,116,104] (z / 320 % 2) (Int.emod_nonneg _ (by decide)) (Int.emod_lt_of_pos _ (by decide))
      walk_at "rd"
      intro p hp
      walk_at "rd"
      intro t2 ht2
      have s7 : Same H5 (upd (upd H5 p (.lst [T [97,112,97,114,116],T [119,105,116,104]])) t2 (.tup [T wd,T nm,T ot])):=(JF hp _).trans (JF ht2 _)
      have k5:=s7 _ _ g5
      walk_at "rd"
      have kk : Keeps (upd (upd H5 p (.lst [T [97,112,97,114,116],T [119,105,116,104]])) t2 (.tup [T wd,T nm,T ot])) (upd (upd (upd H5 p (.lst [T [97,112,97,114,116],T [119,105,116,104]])) t2 (.tup [T wd,T nm,T ot])) ql (.lst (qs ++ [.ref t2]))):=J0a k5
      have c2' : 1 < m:=of_decide_eq_true c2
      have c3' : (qs.length : Int) < 8:=of_decide_eq_true c3
      obtain ⟨n1,hi1,en1⟩:=hnm (by omega)
      obtain ⟨n2,hi2,en2⟩:=hot c2'
      have hb0 : 0 ≤ z / 40 % (m - 1):=Int.emod_nonneg _ (by omega)
      have hb1 : z / 40 % (m - 1) < m - 1:=Int.emod_lt_of_pos _ (by omega)
      have hi0 : 0 ≤ z / 5 % m:=Int.emod_nonneg _ (by omega)
      have hj0 : 0 ≤ (z / 5 + 1 + z / 40 % (m - 1)) % m:=Int.emod_nonneg _ (by omega)
      have pin : PqG (ps.map (·.nm)) ⟨wd,nm,ot⟩:=⟨hwo,by show nm ∈ _; rw [← en1]; exact hIn hi1,by show ot ∈ _; rw [← en2]; exact hIn hi2,fun (e : nm = ot)=>by
       have hij:=hPi _ _ _ _ hi1 hi2 (by rw [en1,en2]; exact e)
       have hne:=Jg6 (a:=z / 5) (t:=1 + z / 40 % (m - 1)) (m:=m) (by omega) (by omega)
       rw [← Int.add_assoc] at hne
       omega⟩
      refine Here.mk ⟨rfl,⟨⟨ls,zs,ws,us,rts,rs,prs ++ [⟨wd,nm,ot⟩],qs ++ [.ref t2],?_,g2.imp fun a y=>LvT.keeps a y _ _ (s7.keeps.trans kk),?_,g3'.imp fun a y=>WsT.keeps a y _ _ (s7.keeps.trans kk),?_,g4'.imp fun a y=>RtT.keeps a y _ _ (s7.keeps.trans kk),Je,All2.snoc (g5'.imp fun a y=>PqT.keeps a y _ _ (s7.keeps.trans kk)) ⟨t2,rfl,kk _ _ Je (fun zs z=>by cases z)⟩,gg.q pin,g6,g7,g10,by rw [List.length_append,List.length_singleton]; omega⟩,(I5.sm.trans s7).upd f4⟩,?_⟩
      ·rw [Jj y14]; exact s7 _ _ g1
      ·rw [Jj y24]; exact s7 _ _ g3
      ·rw [Jj y34]; exact s7 _ _ g4
      ·rw [Jj nc4]; exact s7 _ _ hcl5
     ·exact no
    ·walk_at "rd"
     exact no
   ·walk_at "rd"
    exact no
  rintro σ H5 hv
  obtain ⟨v1,v2,v3,rfl,I5,hcl5⟩:=hv.out
  obtain ⟨ls,zs,ws,us,rts,rs,prs,qs,g1,g2,g3,g3',g4,g4',g5,g5',gg,g6,g7,g10,g11⟩:=I5.ex
  walk_at "rd"
  intro t ht
  have s6 : Same H5 (upd H5 t (.tup [.int (1 + d),T ks,.ref nl,.ref pl,.ref ll,.ref wl,.ref rl,.ref ql])):=JF ht _
  have s46:=I5.sm.trans s6
  have lz:=g2.len
  have lu:=g3'.len
  have lr:=g4'.len
  have lq:=g5'.len
  have hl : cs.length = (cs.map V.int).length:=by rw [List.length_map]
  refine q t _ ⟨1 + d,ks,nds,ps,ls,ws,rts,prs⟩ (t4.trans s46) ⟨nl,pl,ll,wl,rl,ql,nxs,ys,zs,us,rs,qs,Je,s46 _ _ hnl4,hN4.imp fun a y=>NdAt.keeps a y _ _ s46.keeps,s46 _ _ hpl,hP.imp fun a y=>PsT.keeps a y _ _ s46.keeps,s6 _ _ g1,g2.imp fun a y=>LvT.keeps a y _ _ s6.keeps,s6 _ _ g3,g3'.imp fun a y=>WsT.keeps a y _ _ s6.keeps,s6 _ _ g4,g4'.imp fun a y=>RtT.keeps a y _ _ s6.keeps,s6 _ _ g5,g5'.imp fun a y=>PqT.keeps a y _ _ s6.keeps⟩ ⟨⟨by show 1 ≤ 1 + d; omega,by show 1 + d ≤ 14; omega,kl.1,kl.2,kc,kn,by show nds.length ≤ 100; omega,by show ps.length ≤ 8; omega,by show ls.length ≤ 60; omega,by show ws.length ≤ 60; omega,by show rts.length ≤ 8; omega,by show prs.length ≤ 8; omega,hPg⟩,hNg3,hNp3,hPn,gg.lg,gg.wg,gg.rg,gg.qg⟩ gg.rx
end
structure Ad where
 a1 : Addr
 a2 : Addr
 a3 : Addr
 a4 : Addr
 a5 : Addr
 a6 : Addr
noncomputable def RuO (c : Cs) : Rt → V → Hp → Prop:=fun a y H=>∃ t p,y = .ref t ∧ H t = some (.tup [T a.nm,.ref p]) ∧ JH c H a.r p
theorem RuO.keeps {c : Cs} (a : Rt) (y : V) (Ha Hb : Hp) (k : L2.Keeps Ha Hb) (h : RuO c a y Ha) : RuO c a y Hb:=let ⟨t,p,e,h1,h2⟩:=h; ⟨t,p,e,k _ _ h1 (fun zs z=>by cases z),JH.keeps k h2⟩
noncomputable def LsA {α : Type} (P : α → V → Hp → Prop) (H : Hp) (a : Addr) (xs : List α) : Prop:=∃ ys,H a = some (.lst ys) ∧ All2 P H xs ys
theorem LsA.same {α : Type} {P : α → V → Hp → Prop} (hk : ∀ a y Ha Hb,L2.Keeps Ha Hb → P a y Ha → P a y Hb) {H H' : Hp} {a : Addr} {xs : List α} (x : LsA P H a xs) (s : Same H H') : LsA P H' a xs:=let ⟨ys,h1,h2⟩:=x; ⟨ys,s _ _ h1,h2.imp fun a y=>hk a y _ _ s.keeps⟩
theorem LsA.put {α : Type} {P : α → V → Hp → Prop} (hk : ∀ a y Ha Hb,L2.Keeps Ha Hb → P a y Ha → P a y Hb) {H : Hp} {a b : Addr} {xs : List α} {zs ws : List V} (n : a ≠ b) (x : LsA P H a xs) (e : H b = some (.lst zs)) : LsA P (upd H b (.lst ws)) a xs:=let ⟨ys,h1,h2⟩:=x; ⟨ys,by rw [Jj n]; exact h1,h2.imp fun a y=>hk a y _ _ (J0a e)⟩
theorem LsA.add {α : Type} {P : α → V → Hp → Prop} (hk : ∀ a y Ha Hb,L2.Keeps Ha Hb → P a y Ha → P a y Hb) {H : Hp} {a : Addr} {xs : List α} {ys : List V} {x : α} {v : V} (h : LsA P H a xs) (e : H a = some (.lst ys)) (p : P x v H) : LsA P (upd H a (.lst (ys ++ [v]))) a (xs ++ [x]):=by
 obtain ⟨zs,h1,h2⟩:=h
 have e' : zs = ys:=by
  have:=h1.symm.trans e
  injection this with this
  injection this
 subst e'
 exact ⟨zs ++ [v],Je,All2.snoc (h2.imp fun a y=>hk a y _ _ (J0a e)) (hk _ _ _ _ (J0a e) p)⟩
structure HSt (C1 C2 : Addr) (c : Cs) (H : Hp) (h : Addr) (a : Ad) (x : Hs) : Prop where
 ho : J4r C2 H h x.d x.ks a.a1 a.a2 a.a3 a.a4 a.a5 a.a6
 ds : Dis6 a.a1 a.a2 a.a3 a.a4 a.a5 a.a6
 e1 : LsA NdAt H a.a1 x.nds
 e2 : LsA (PsO C1) H a.a2 x.ps
 e3 : LsA LvT H a.a3 x.ls
 e4 : LsA WsT H a.a4 x.ws
 e5 : LsA (RuO c) H a.a5 x.rts
 e6 : LsA PqT H a.a6 x.prs
theorem HSt.same {C1 C2 : Addr} {c : Cs} {H H' : Hp} {h : Addr} {a : Ad} {x : Hs} (q : HSt C1 C2 c H h a x) (s : Same H H') : HSt C1 C2 c H' h a x :=
 ⟨q.ho.keeps s.keeps,q.ds,q.e1.same NdAt.keeps s,q.e2.same PsO.keeps s,q.e3.same LvT.keeps s,q.e4.same WsT.keeps s,q.e5.same RuO.keeps s,q.e6.same PqT.keeps s⟩
noncomputable def ButA (a : Ad) (H H' : Hp) : Prop:=∀ b o,b ≠ a.a1 → b ≠ a.a2 → b ≠ a.a3 → b ≠ a.a4 → b ≠ a.a5 → b ≠ a.a6 → H b = some o → H' b = some o
section
variable {C1 C2 : Addr} {c : Cs} {H : Hp} {h : Addr} {a : Ad} {x : Hs} {ys : List V} {v : V}
theorem HSt.p1 (q : HSt C1 C2 c H h a x) {n : Nd} (e : H a.a1 = some (.lst ys)) (p : NdAt n v H) : HSt C1 C2 c (upd H a.a1 (.lst (ys ++ [v]))) h a (x.put (.nd n)) :=
 ⟨q.ho.keeps (J0a e),q.ds,q.e1.add NdAt.keeps e p,q.e2.put PsO.keeps q.ds.h12.symm e,q.e3.put LvT.keeps q.ds.h13.symm e,q.e4.put WsT.keeps q.ds.h14.symm e,q.e5.put RuO.keeps q.ds.h15.symm e,q.e6.put PqT.keeps q.ds.h16.symm e⟩
theorem HSt.p2 (q : HSt C1 C2 c H h a x) {n : Ps} (e : H a.a2 = some (.lst ys)) (p : PsO C1 n v H) : HSt C1 C2 c (upd H a.a2 (.lst (ys ++ [v]))) h a (x.put (.ps n)) :=
 ⟨q.ho.keeps (J0a e),q.ds,q.e1.put NdAt.keeps q.ds.h12 e,q.e2.add PsO.keeps e p,q.e3.put LvT.keeps q.ds.h23.symm e,q.e4.put WsT.keeps q.ds.h24.symm e,q.e5.put RuO.keeps q.ds.h25.symm e,q.e6.put PqT.keeps q.ds.h26.symm e⟩
theorem HSt.p3 (q : HSt C1 C2 c H h a x) {n : List Nat × Int} (e : H a.a3 = some (.lst ys)) (p : LvT n v H) : HSt C1 C2 c (upd H a.a3 (.lst (ys ++ [v]))) h a (x.put (.lv n)) :=
 ⟨q.ho.keeps (J0a e),q.ds,q.e1.put NdAt.keeps q.ds.h13 e,q.e2.put PsO.keeps q.ds.h23 e,q.e3.add LvT.keeps e p,q.e4.put WsT.keeps q.ds.h34.symm e,q.e5.put RuO.keeps q.ds.h35.symm e,q.e6.put PqT.keeps q.ds.h36.symm e⟩
theorem HSt.p4 (q : HSt C1 C2 c H h a x) {n : Ws} (e : H a.a4 = some (.lst ys)) (p : WsT n v H) : HSt C1 C2 c (upd H a.a4 (.lst (ys ++ [v]))) h a (x.put (.ws n)) :=
 ⟨q.ho.keeps (J0a e),q.ds,q.e1.put NdAt.keeps q.ds.h14 e,q.e2.put PsO.keeps q.ds.h24 e,q.e3.put LvT.keeps q.ds.h34 e,q.e4.add WsT.keeps e p,q.e5.put RuO.keeps q.ds.h45.symm e,q.e6.put PqT.keeps q.ds.h46.symm e⟩
theorem HSt.p5 (q : HSt C1 C2 c H h a x) {n : Rt} (e : H a.a5 = some (.lst ys)) (p : RuO c n v H) : HSt C1 C2 c (upd H a.a5 (.lst (ys ++ [v]))) h a (x.put (.rt n)) :=
 ⟨q.ho.keeps (J0a e),q.ds,q.e1.put NdAt.keeps q.ds.h15 e,q.e2.put PsO.keeps q.ds.h25 e,q.e3.put LvT.keeps q.ds.h35 e,q.e4.put WsT.keeps q.ds.h45 e,q.e5.add RuO.keeps e p,q.e6.put PqT.keeps q.ds.h56.symm e⟩
theorem HSt.p6 (q : HSt C1 C2 c H h a x) {n : Pq} (e : H a.a6 = some (.lst ys)) (p : PqT n v H) : HSt C1 C2 c (upd H a.a6 (.lst (ys ++ [v]))) h a (x.put (.pq n)) :=
 ⟨q.ho.keeps (J0a e),q.ds,q.e1.put NdAt.keeps q.ds.h16 e,q.e2.put PsO.keeps q.ds.h26 e,q.e3.put LvT.keeps q.ds.h36 e,q.e4.put WsT.keeps q.ds.h46 e,q.e5.put RuO.keeps q.ds.h56 e,q.e6.add PqT.keeps e p⟩
end
theorem Jfn {ks : List Nat} {k : Nat} (h : k ∈ ks) : ks[ks.idxOf k]? = some k:=by
 induction ks with
 | nil=>exact absurd h List.not_mem_nil
 | cons x r ih =>
  by_cases e : x = k
  ·subst e
   rw [List.idxOf_cons_self]
   rfl
  ·rw [JbB e]
   rcases List.mem_cons.mp h with h | h
   ·exact absurd h.symm e
   ·exact ih h
theorem JcL {ks : List Nat} {k : Nat} : ∀ j < ks.idxOf k,¬ ks[j]? = some k:=by
 induction ks with
 | nil=>intro j hj; simp at hj
 | cons x r ih =>
  intro j hj
  by_cases e : x = k
  ·subst e
   rw [List.idxOf_cons_self] at hj
   omega
  ·rw [JbB e] at hj
   cases j with
   | zero=>exact fun z=>e (Option.some.inj z)
   | succ j=>exact ih j (by omega)
noncomputable abbrev fgT : List Nat:=[48,49,50,51,52,53,54,55,56,57]
theorem J9z {w l : List Nat} (h : ∀ c ∈ w,c ∈ l) : J52 w l = true:=by
 unfold J52
 rw [List.all_map]
 exact List.all_eq_true.mpr fun c hc=>decide_eq_true (h c hc)
theorem Jgg (n : Nat) : J52 (numN n) fgT = true:=J9z fun c hc=>by
 have h:=J7S n c hc
 have key : ∀ m : Nat,m < 10 → 48 + m ∈ fgT:=by decide
 have:=key (c - 48) (by omega)
 rwa [show 48 + (c - 48) = c by omega] at this
noncomputable def JgQ : Sp:=fun vs H Q _=>∃ n : Nat,vs = [T (numN n)] ∧ n < 10 ^ 40 ∧ ∀ H',Same H H' → Q (.int (n : Int)) H'
noncomputable def Jg1 : Sp:=fun vs H Q _=>∃ w l,vs = [T w,T l] ∧ 1 ≤ w.length ∧ w.length ≤ 1000 ∧ (∀ c ∈ w,c ∈ l) ∧ w.Nodup ∧ ∀ H',Same H H' → Q (.bl true) H'
noncomputable def Jdn (C2 : Addr) : Sp:=fun vs H Q _=>∃ (hh : Addr) (n : Nat) (d : Int) (ks : List Nat) (a : Ad),vs = [.ref hh,T (numN n)] ∧ J4r C2 H hh d ks a.a1 a.a2 a.a3 a.a4 a.a5 a.a6 ∧ n < 10 ^ 40 ∧ (n : Int) < d ∧ ∀ H',Same H H' → Q (.bl true) H'
noncomputable def Jcm (C2 : Addr) : Sp:=fun vs H Q _=>∃ (hh : Addr) (k : Nat) (d : Int) (ks : List Nat) (a : Ad),vs = [.ref hh,T [k]] ∧ J4r C2 H hh d ks a.a1 a.a2 a.a3 a.a4 a.a5 a.a6 ∧ k ∈ ks ∧ Q (.bl true) H
noncomputable def Jds (C1 C2 : Addr) : Sp:=fun vs H Q _=>∃ (hh : Addr) (nm : List Nat) (d : Int) (ks : List Nat) (a : Ad) (ps : List Ps),vs = [.ref hh,T nm] ∧ J4r C2 H hh d ks a.a1 a.a2 a.a3 a.a4 a.a5 a.a6 ∧ LsA (PsO C1) H a.a2 ps ∧ ps.length ≤ 8 ∧ ∀ H',Same H H' → Q (.bl (decide (nm ∈ ps.map (·.nm)))) H'
noncomputable def Jdj (C1 C2 : Addr) : Sp:=fun vs H Q _=>∃ (hh : Addr) (nm : List Nat) (d : Int) (ks : List Nat) (a : Ad) (ps : List Ps),vs = [.ref hh,T nm] ∧ J4r C2 H hh d ks a.a1 a.a2 a.a3 a.a4 a.a5 a.a6 ∧ LsA (PsO C1) H a.a2 ps ∧ ps.length ≤ 8 ∧ 1 ≤ nm.length ∧ nm.length ≤ 8 ∧ (∀ c ∈ nm,c ∈ abc) ∧ nm ≠ wAll ∧ nm ∉ ps.map (·.nm) ∧ ∀ H',Same H H' → Q (.bl true) H'
noncomputable def Jdg : Sp:=fun vs H Q _=>∃ w,vs = [T (dotF w)] ∧ w ≠ [46] ∧ Q (T w) H
noncomputable def JeU (C2 : Addr) : Sp:=fun vs H Q _=>∃ (hh : Addr) (w : List Nat) (d : Int) (ks : List Nat) (a : Ad),vs = [.ref hh,T (dotF w)] ∧ J4r C2 H hh d ks a.a1 a.a2 a.a3 a.a4 a.a5 a.a6 ∧ w.length ≤ 1000 ∧ (∀ c ∈ w,c ∈ ks) ∧ w.Nodup ∧ ∀ H',Same H H' → Q (.bl true) H'
noncomputable def JeW (C2 : Addr) : Sp:=fun vs H Q _=>∃ (hh : Addr) (w : List Nat) (d : Int) (ks : List Nat) (a : Ad),vs = [.ref hh,T (dotF w)] ∧ J4r C2 H hh d ks a.a1 a.a2 a.a3 a.a4 a.a5 a.a6 ∧ ks.length ≤ 4 ∧ w.length ≤ 6 ∧ (∀ c ∈ w,c ∈ ks ++ [45]) ∧ ∀ H',Same H H' → Q (.bl true) H'
noncomputable def JfT (C2 : Addr) : Sp:=fun vs H Q _=>∃ (hh t : Addr) (n : Nd) (d : Int) (ks : List Nat) (a : Ad),vs = [.ref hh,.ref t] ∧ J4r C2 H hh d ks a.a1 a.a2 a.a3 a.a4 a.a5 a.a6 ∧ H t = some (.tup [.int n.day,T [n.kind],.int n.least,.int n.most]) ∧ n.kind ∈ ks ∧ ∀ t2 H',Same H H' → H' t2 = some (.tup [.int n.day,.int (ks.idxOf n.kind : Nat)]) → Q (.ref t2) H'
noncomputable def JeX : Sp:=fun vs H Q _=>∃ (wl : Addr) (n : Nat),vs = [.ref wl] ∧ H wl = some (.lst [T J7T,T (numN n)]) ∧ 1 ≤ n ∧ n ≤ 14 ∧ ∀ H',Same H H' → Q (.bl true) H'
noncomputable def JeT : Sp:=fun vs H Q _=>∃ (wl : Addr) (ks : List Nat),vs = [.ref wl] ∧ H wl = some (.lst [T J5c,T ks]) ∧ 1 ≤ ks.length ∧ ks.length ≤ 4 ∧ (∀ c ∈ ks,c ∈ ABC) ∧ ks.Nodup ∧ ∀ H',Same H H' → Q (.bl true) H'
noncomputable def J57 (C1 C2 : Addr) (c : Cs) (k : Rw → Prop) : Sp:=fun vs H Q _=>∃ (hh wl : Addr) (a : Ad) (x : Hs) (r : Rw),vs = [.ref hh,.ref wl] ∧ HSt C1 C2 c H hh a x ∧ H wl = some (.lst (r.wds.map T)) ∧ HsB x ∧ JaU x r ∧ k r ∧ ∀ H',HSt C1 C2 c H' hh a (x.put r) → ButA a H H' → Q (.bl true) H'
theorem Jfi {zs : List V} {v : V} : atI (zs ++ [v]) (-1) = some v:=by
 unfold atI ixN
 rw [if_neg (by decide),if_pos (by rw [List.length_append,List.length_singleton]; omega),show ((-1 : Int) + ((zs ++ [v]).length : Nat)).toNat = zs.length by rw [List.length_append,List.length_singleton]; omega]
 simp
theorem at2' (a b : V) : atI [a,b] 0 = some a ∧ atI [a,b] 1 = some b:=by simp [atI,ixN]
theorem at3' (a b c : V) : atI [a,b,c] 0 = some a ∧ atI [a,b,c] 1 = some b ∧ atI [a,b,c] 2 = some c:=by simp [atI,ixN]
theorem at4' (a b c d : V) : atI [a,b,c,d] 0 = some a ∧ atI [a,b,c,d] 1 = some b ∧ atI [a,b,c,d] 2 = some c ∧ atI [a,b,c,d] 3 = some d:=by simp [atI,ixN]
theorem at6' (a b c d e f : V) : atI [a,b,c,d,e,f] 0 = some a ∧ atI [a,b,c,d,e,f] 1 = some b ∧ atI [a,b,c,d,e,f] 2 = some c ∧ atI [a,b,c,d,e,f] 3 = some d ∧ atI [a,b,c,d,e,f] 4 = some e ∧ atI [a,b,c,d,e,f] 5 = some f:=by simp [atI,ixN]
theorem J7H {i : Int} (h : i < 100) : i.toNat < 10 ^ 40:=Nat.lt_of_lt_of_le (m:=100) (by omega) (by decide)
section
variable {P : Program} {w : World} {K : PySem.W.Frag} {mg : Str → Option Value} {base : Heap} {J9 Jd J8 Jb J5 Ji J4 J1 : Addr}
local macro_rules | `(tactic| walk_at "lk")=>`(tactic| first | exact J5O _ _ _ _ _ | exact J4T _ _ _ _ _ _ _ _ | exact J42 _ _ _ _ _ _ _ _ | exact J48 _ _ _ _ _ _ _ _ | exact J31 _ _ _ _ _ _ _ _ | exact J40 _ _ _ _ _ _ _ _ | exact J3w _ _ _ _ _ _ _ _ | exact J4a _ _ _ _ _ _ _ _ | exact J4c _ _ _ _ _ _ _ _)
theorem J0K (tx : Tx K mg J9 Jd J8 Jb J5 Ji J4 J1) : FnG P w K mg base "read_number" 2 ["word"] JgQ:=by
 have J09:=J3u (P:=P) (w:=w) (base:=base) tx
 refine tx.J8d.g J6Z (fun _ _ _ _ _ _ us hl=>match us,hl with | [_],_=>rfl) (fun vs H Q E h=>?_) (fun f cdv A outer s H vs Q E hr h=>?_)
 ·obtain ⟨n,rfl,_⟩:=h
  rfl
 ·obtain ⟨n,rfl,hn,q⟩:=h
  refine ⟨_,(J6 (JK (PW.pt (J1O (J0t (J7I J2N J2N J3 (Jx JT rfl tx.JS PySem.boot_len (J0 (pv 0) J2)) (J0T rfl tx.J1l))) (J1q (J0t (J0u (Jv J09 (hr.mono (by decide)) (J0 (pv 0) (J0 (J3I (l:=[48,49,50,51,52,53,54,55,56,57]) rfl tx.J3X) J2)))))))) (Ja (Jl (J6x J4A J3))) Jz)
   (J6 (JK (PW.pt (J34 (Jp JO (Jr J4l (pv 0) J3 (fun _ _=>rfl)) (Jk (l:=[48]) (by decide +kernel)) (Js _)) (J2P (Jp J3O (pv 0) (Jk (l:=[48]) (by decide +kernel)) (Js _))))) (Ja (Jl (J6x J4A J3))) Jz)
   (Ja (Jl (JG J9x rfl tx.J5g J44 (J0 (pv 0) J2)))))),?_⟩
  walk_at "st"
  clear J09
  have l1 : (numN n).length ≤ 40:=J4G (k:=39) hn
  have l0 : 1 ≤ (numN n).length:=by
   have:=J9A n
   cases e : numN n with
   | nil=>exact absurd e this
   | cons _ _=>simp
  have hin:=Jgg n
  have hall:=J7S n
  have hne:=J9A n
  have hval:=Jat n
  have hhead:=Jd9 n
  obtain ⟨c,hc,hc2⟩:=J3p (numN n) 0 (by decide) (by omega)
  walk_at "rd"
  refine iteY (by omega) ?_
  walk_at "rd"
  rw [decide_eq_true (show ((numN n).length : Int) ≤ 40 by omega)]
  walk_at "rd"
  intro H1 s1
  rw [hin]
  walk_at "rd"
  have fin : Q (.int (NumText.digitsVal (numN n) : Nat)) H1:=by rw [hval]; exact q H1 s1
  by_cases e : c = 48
  ·have h48 : (numN n).head? = some 48:=by rw [List.head?_eq_getElem?]; rw [e] at hc2; exact hc2
   have n0:=hhead h48
   have e48 : numN n = [48]:=by rw [n0]; exact J3J (by decide)
   rw [decide_eq_true (show T [c] = T [48] by rw [e])]
   walk_at "rd"
   rw [decide_eq_true (show T (numN n) = T [48] by rw [e48])]
   walk_at "rd"
   exact fin
  ·rw [decide_eq_false (show ¬ T [c] = T [48] from fun z=>e (List.head_eq_of_cons_eq (J1M z)))]
   walk_at "rd"
   exact fin
theorem J4f (tx : Tx K mg J9 Jd J8 Jb J5 Ji J4 J1) : FnG P w K mg base "are_unlike" 2 ["word","signs"] Jg1:=by
 have J09:=J3u (P:=P) (w:=w) (base:=base) tx
 refine tx.J9a.g J7V (fun _ _ _ _ _ _ us hl=>match us,hl with | [_,_],_=>rfl) (fun vs H Q E h=>?_) (fun f cdv A outer s H vs Q E hr h=>?_)
 ·obtain ⟨v,l,rfl,_⟩:=h
  rfl
 ·obtain ⟨v,l,rfl,h1,h2,h3,h4,q⟩:=h
  refine ⟨_,(Ja (Jl (J1R (J0v Jeu (Jx JT rfl tx.JS PySem.boot_len (J0 (pv 0) J2)) J3 (Js _)) (J1R (Jv J09 (hr.mono (by decide)) (J0 (pv 0) (J0 (pv 1) J2))) (J33 (J0v JO (Jx J7N rfl tx.JS PySem.boot_len (J0 (JG (J8F rfl) rfl tx.J8j J8E (J0 (pv 0) J2)) J2)) (Jx JT rfl tx.JS PySem.boot_len (J0 (pv 0) J2)) (Js _))))))),?_⟩
  walk_at "st"
  clear J09
  have hin:=J9z h3
  have hmn:=J7Q v
  walk_at "rd"
  refine iteY (by omega) ?_
  walk_at "rd"
  intro H1 s1
  rw [hin]
  walk_at "rd"
  intro p hp
  walk_at "rd"
  rw [hmn,decide_eq_true h4]
  exact q _ (s1.trans (JF hp _))
theorem J7m (tx : Tx K mg J9 Jd J8 Jb J5 Ji J4 J1) : FnG P w K mg base "is_day" 3 ["house","word"] (Jdn J1):=by
 have JA:=J0K (P:=P) (w:=w) (base:=base) tx
 refine tx.Jdc.g Jcp (fun _ _ _ _ _ _ us hl=>match us,hl with | [_,_],_=>rfl) (fun vs H Q E h=>?_) (fun f cdv A outer s H vs Q E hr h=>?_)
 ·obtain ⟨hh,n,d,ks,a,rfl,_⟩:=h
  rfl
 ·obtain ⟨hh,n,d,ks,a,rfl,⟨dx,hh1⟩,hn,hd,q⟩:=h
  refine ⟨_,(Ja (Jl (J4C J2N J7K J3 (Jv JA (hr.mono (by decide)) (J0 (pv 1) J2)) (JD (K:=K) rfl (pv 0) rfl)))),?_⟩
  walk_at "st"
  clear JA
  have cl:=tx.JW.cl
  have nf_days:=tx.J0V
  walk_at "rd"
  intro H1 s1
  have hh2:=s1 _ _ hh1
  have z0 : (0 : Int) ≤ (n : Int):=by omega
  walk_at "rd"
  show Q (V.bl (decide ((n : Int) < d))) H1
  rw [decide_eq_true hd]
  exact q H1 s1
theorem Jcv (tx : Tx K mg J9 Jd J8 Jb J5 Ji J4 J1) : FnG P w K mg base "is_kind" 1 ["house","word"] (Jcm J1):=by
 refine tx.Jcs.g Jb1 (fun _ _ _ _ _ _ us hl=>match us,hl with | [_,_],_=>rfl) (fun vs H Q E h=>?_) (fun f cdv A outer s H vs Q E hr h=>?_)
 ·obtain ⟨hh,k,d,ks,a,rfl,_⟩:=h
  rfl
 ·obtain ⟨hh,k,d,ks,a,rfl,⟨dx,hh1⟩,hk,q⟩:=h
  refine ⟨_,(Ja (Jl (J1R (J0v JO (Jx JT rfl tx.JS PySem.boot_len (J0 (pv 1) J2)) J3 (Js _)) (J33 (J0v JbC (pv 1) (JD (K:=K) rfl (pv 0) rfl) rfl))))),?_⟩
  walk_at "st"
  have cl:=tx.JW.cl
  have nf_kinds:=tx.JU
  walk_at "rd"
  show Q (V.bl (decide (k ∈ ks))) H
  rw [decide_eq_true hk]
  exact q
theorem J37 (tx : Tx K mg J9 Jd J8 Jb J5 Ji J4 J1) : FnG P w K mg base "is_person" 1 ["house","name"] (Jds J4 J1):=by
 refine tx.J9N.g J9q (fun _ _ _ _ _ _ us hl=>match us,hl with | [_,_],_=>rfl) (fun vs H Q E h=>?_) (fun f cdv A outer s H vs Q E hr h=>?_)
 ·obtain ⟨hh,nm,d,ks,a,ps,rfl,_⟩:=h
  rfl
 ·obtain ⟨hh,nm,d,ks,a,ps,rfl,⟨dx,hh1⟩,⟨ys,hy,hA⟩,hp,q⟩:=h
  refine ⟨_,(Ja (Jl (Jx (JbW (K:=K) rfl rfl) rfl tx.J9S Jgi (J0 (J1L (osc:=J7 J1o) (ON:=["house","name"]) (N:=["person","name"]) (js:=[none,some 1]) ⟨rfl,by decide +kernel,by decide +kernel,by decide +kernel,rfl,by decide +kernel⟩ rfl rfl rfl (J02 (K:=K) rfl (JD (K:=K) rfl (pv 0) rfl)) (fun _ _ _ _ _=>Ju (i:=0) (show List.Nodup (["person","name"] : List Str) from by decide +kernel) rfl (Or.inl rfl)) (fun _ _ _ _ _=>J0q) (fun _ _ _ _ _=>(J0v JO (JD (K:=K) rfl (pv 0) rfl) (pv 1) (Js _)))) J2)))),?_⟩
  walk_at "st"
  have cl:=tx.JW.cl
  have nf_persons:=tx.J05
  have pcl:=tx.J1Z.cl
  have npn:=tx.J0J
  walk_at "rd"
  refine J0r ps (fun _=>true) (fun n y _=>y = .bl (decide (T n.nm = T nm))) (fun σ=>∃ v,σ = [v,some (T nm)]) (J0L (SqL.of hy)) hA.len (by omega) ⟨_,rfl⟩ (fun _ _ _ _ _ z=>z) (fun j n v σ H' ha hv hσ s' Rf Rt _ hR=>?_) (fun D H4 zs hD s4 hzs hDD=>?_)
  ·obtain ⟨u,rfl⟩:=hσ
   obtain ⟨y,hy2,pp,rfl,dx2,hp2⟩:=hA.get ha
   have hva : v = .ref pp:=Option.some.inj (hv.symm.trans hy2)
   subst hva
   have hp3:=s' _ _ hp2
   walk_at "rd"
   exact hR _ _ _ rfl ⟨_,rfl⟩ (Same.refl _) rfl
  rw [List.filter_eq_self.mpr fun _ _=>rfl] at hzs
  have ez:=hzs.eqmap (f:=fun n=>.bl (decide (T n.nm = T nm))) (fun a y e=>e)
  have hSz : SqL K H4 D ((ps.map fun n=>decide (T n.nm = T nm)).map V.bl):=by rw [List.map_map]; refine SqL.of ?_; rw [hDD,ez]; rfl
  have ea : ((ps.map fun n=>decide (T n.nm = T nm)).any id) = decide (nm ∈ ps.map (·.nm)):=by
   rw [List.any_map,Bool.eq_iff_iff,List.any_eq_true,decide_eq_true_iff,List.mem_map]
   constructor
   ·rintro ⟨n,hn,e⟩
    exact ⟨n,hn,J1M (of_decide_eq_true e)⟩
   ·rintro ⟨n,hn,e⟩
    exact ⟨n,hn,decide_eq_true (by rw [e])⟩
  walk_at "rd"
  rw [ea]
  exact q H4 s4
theorem J86 (tx : Tx K mg J9 Jd J8 Jb J5 Ji J4 J1) : FnG P w K mg base "is_new_name" 2 ["house","name"] (Jdj J4 J1):=by
 have J09:=J3u (P:=P) (w:=w) (base:=base) tx
 have JR:=J37 (P:=P) (w:=w) (base:=base) tx
 refine tx.J7X.g J7c (fun _ _ _ _ _ _ us hl=>match us,hl with | [_,_],_=>rfl) (fun vs H Q E h=>?_) (fun f cdv A outer s H vs Q E hr h=>?_)
 ·obtain ⟨hh,nm,d,ks,a,ps,rfl,_⟩:=h
  rfl
 ·obtain ⟨hh,nm,d,ks,a,ps,rfl,hh1,hA,hp,n0,n1,hn,hna,hno,q⟩:=h
  refine ⟨_,(J6 (JK (PW.pt (J1O (J0t (J7I J2N J2N J3 (Jx JT rfl tx.JS PySem.boot_len (J0 (pv 1) J2)) (J0T rfl tx.J01))) (J1q (J0t (J0u (Jv J09 (hr.mono (by decide)) (J0 (pv 1) (J0 (J3I (l:=[97,98,99,100,101,102,103,104,105,106,107,108,109,110,111,112,113,114,115,116,117,118,119,120,121,122]) rfl tx.J5m) J2)))))))) (Ja (Jl J1c)) Jz)
   (Ja (Jl (J1R (J0v J3O (pv 1) (Jk (l:=[97,108,108]) (by decide +kernel)) (Js _)) (J33 (Jgb (Jv JR (hr.mono (by decide)) (J0 (pv 0) (J0 (pv 1) J2))))))))),?_⟩
  walk_at "st"
  clear J09 JR
  have hin:=J9z hn
  walk_at "rd"
  refine iteY (by omega) ?_
  walk_at "rd"
  rw [decide_eq_true (show (nm.length : Int) ≤ 8 by omega)]
  walk_at "rd"
  intro H1 s1
  rw [hin]
  have hh2:=hh1.keeps s1.keeps
  have hA2:=hA.same PsO.keeps s1
  walk_at "rd"
  rw [decide_eq_false (fun z=>hna (J1M z))]
  walk_at "rd"
  intro H2 s2
  walk_at "rd"
  rw [decide_eq_false hno]
  exact q H2 (s1.trans s2)
theorem Jbp (tx : Tx K mg J9 Jd J8 Jb J5 Ji J4 J1) : FnG P w K mg base "undotted" 1 ["word"] Jdg:=by
 refine tx.Jb3.g Jaf (fun _ _ _ _ _ _ us hl=>match us,hl with | [_],_=>rfl) (fun vs H Q E h=>?_) (fun f cdv A outer s H vs Q E hr h=>?_)
 ·obtain ⟨v,rfl,_⟩:=h
  rfl
 ·obtain ⟨v,rfl,hv,q⟩:=h
  refine ⟨_,(Ja (Jl (J7L (Jp JO (pv 0) (Jk (l:=[46]) (by decide +kernel)) (Js _)) (Jk (l:=[]) (by decide +kernel)) (pv 0)))),?_⟩
  walk_at "st"
  by_cases e : v = []
  ·subst e
   have ed : dotF [] = [46]:=rfl
   have dm : decide (T [46] = T [46]) = true:=decide_eq_true rfl
   rw [ed]
   walk_at "rd"
   rw [dm]
   walk_at "rd"
   exact q
  ·have ed : dotF v = v:=if_neg e
   have dm : decide (T v = T [46]) = false:=decide_eq_false (fun z=>hv (J1M z))
   rw [ed]
   walk_at "rd"
   rw [dm]
   walk_at "rd"
   exact q
theorem J8Q (tx : Tx K mg J9 Jd J8 Jb J5 Ji J4 J1) : FnG P w K mg base "are_skills" 3 ["house","word"] (JeU J1):=by
 have J0C:=J4f (P:=P) (w:=w) (base:=base) tx
 refine tx.J93.g J87 (fun _ _ _ _ _ _ us hl=>match us,hl with | [_,_],_=>rfl) (fun vs H Q E h=>?_) (fun f cdv A outer s H vs Q E hr h=>?_)
 ·obtain ⟨hh,v,d,ks,a,rfl,_⟩:=h
  rfl
 ·obtain ⟨hh,v,d,ks,a,rfl,⟨dx,hh1⟩,h1,h2,h3,q⟩:=h
  refine ⟨_,(Ja (Jl (Jex (J0v JO (pv 1) (Jk (l:=[46]) (by decide +kernel)) (Js _)) (J33 (Jv J0C (hr.mono (by decide)) (J0 (pv 1) (J0 (JD (K:=K) rfl (pv 0) rfl) J2))))))),?_⟩
  walk_at "st"
  clear J0C
  have cl:=tx.JW.cl
  have nf_kinds:=tx.JU
  walk_at "rd"
  refine ite2 (fun c=>?_) (fun c=>?_)
  ·exact q H (Same.refl _)
  have e : ¬ v = []:=fun z=>c (decide_eq_true (by rw [z]; rfl))
  have ed : dotF v = v:=if_neg e
  rw [ed] at *
  have l1 : 1 ≤ v.length:=List.length_pos_iff.mpr e
  walk_at "rd"
  exact q
theorem Jcy (tx : Tx K mg J9 Jd J8 Jb J5 Ji J4 J1) : FnG P w K mg base "is_past" 2 ["house","word"] (JeW J1):=by
 have J09:=J3u (P:=P) (w:=w) (base:=base) tx
 refine tx.Jcu.g Jbb (fun _ _ _ _ _ _ us hl=>match us,hl with | [_,_],_=>rfl) (fun vs H Q E h=>?_) (fun f cdv A outer s H vs Q E hr h=>?_)
 ·obtain ⟨hh,v,d,ks,a,rfl,_⟩:=h
  rfl
 ·obtain ⟨hh,v,d,ks,a,rfl,⟨dx,hh1⟩,hk,h1,h2,q⟩:=h
  refine ⟨_,(Ja (Jl (Jex (J0v JO (pv 1) (Jk (l:=[46]) (by decide +kernel)) (Js _)) (J33 (J1R (J4C J2N J2N J3 (Jx JT rfl tx.JS PySem.boot_len (J0 (pv 1) J2)) (J0T rfl tx.J2y)) (J33 (Jv J09 (hr.mono (by decide)) (J0 (pv 1) (J0 (Jf Jn (JD (K:=K) rfl (pv 0) rfl) (Jk (l:=[45]) (by decide +kernel))) J2))))))))),?_⟩
  walk_at "st"
  clear J09
  have cl:=tx.JW.cl
  have nf_kinds:=tx.JU
  walk_at "rd"
  refine ite2 (fun c=>?_) (fun c=>?_)
  ·exact q H (Same.refl _)
  have e : ¬ v = []:=fun z=>c (decide_eq_true (by rw [z]; rfl))
  have ed : dotF v = v:=if_neg e
  rw [ed] at *
  have l1 : 1 ≤ v.length:=List.length_pos_iff.mpr e
  have hin:=J9z h2
  walk_at "rd"
  refine iteY (by omega) ?_
  walk_at "rd"
  rw [decide_eq_true (show (v.length : Int) ≤ 6 by omega)]
  walk_at "rd"
  intro H1 s1
  rw [hin]
  exact q H1 s1
theorem J6A (tx : Tx K mg J9 Jd J8 Jb J5 Ji J4 J1) : FnG P w K mg base "place_of_need" 1 ["house","need"] (JfT J1):=by
 refine tx.J6B.g J61 (fun _ _ _ _ _ _ us hl=>match us,hl with | [_,_],_=>rfl) (fun vs H Q E h=>?_) (fun f cdv A outer s H vs Q E hr h=>?_)
 ·obtain ⟨hh,t,n,d,ks,a,rfl,_⟩:=h
  rfl
 ·obtain ⟨hh,t,n,d,ks,a,rfl,⟨dx,hh1⟩,ht,hk,q⟩:=h
  refine ⟨_,(Ja (Jl (J1a (J0 (Jr (J0E (K:=K) rfl) (pv 1) J3 (fun _ _=>rfl)) (J0 (JbI (K:=K) rfl (JD (K:=K) rfl (pv 0) rfl) (J0 (Jr (J0E (K:=K) rfl) (pv 1) J3 (fun _ _=>rfl)) J2)) J2))))),?_⟩
  walk_at "st"
  have i1:=Jfn hk
  have i2:=JcL (ks:=ks) (k:=n.kind)
  have cl:=tx.JW.cl
  have nf_kinds:=tx.JU
  obtain ⟨j0,j1,j2,j3⟩:=at4' (.int n.day) (T [n.kind]) (.int n.least) (.int n.most)
  walk_at "rd"
  exact fun p hp=>q p _ (JF hp _) Je
theorem J7Z (tx : Tx K mg J9 Jd J8 Jb J5 Ji J4 J1) : FnG P w K mg base "is_days_row" 3 ["words"] JeX:=by
 have JA:=J0K (P:=P) (w:=w) (base:=base) tx
 refine tx.J84.g J72 (fun _ _ _ _ _ _ us hl=>match us,hl with | [_],_=>rfl) (fun vs H Q E h=>?_) (fun f cdv A outer s H vs Q E hr h=>?_)
 ·obtain ⟨wl,n,rfl,_⟩:=h
  rfl
 ·obtain ⟨wl,n,rfl,hw,n0,n1,q⟩:=h
  refine ⟨_,(Ja (Jl (J1R (J0v JO (Jx (JE (K:=K) rfl) rfl tx.JS PySem.boot_len (J0 (pv 0) J2)) J3 (Js _)) (J1R (J0v JO (Jr (Jg (K:=K) rfl) (pv 0) J3 (fun _ _=>rfl)) (Jk (l:=[100,97,121,115]) (by decide +kernel)) (Js _)) (J33 (J4C J2N J2N J3 (Jv JA (hr.mono (by decide)) (J0 (Jr (Jg (K:=K) rfl) (pv 0) J3 (fun _ _=>rfl)) J2)) (J0T rfl tx.J3c))))))),?_⟩
  walk_at "st"
  clear JA
  have hn : n < 10 ^ 40:=Nat.lt_of_le_of_lt n1 (by decide)
  obtain ⟨i0,i1⟩:=at2' (T J7T) (T (numN n))
  walk_at "rd"
  intro H1 s1
  have z1 : (1 : Int) ≤ (n : Int):=by omega
  walk_at "rd"
  refine iteY z1 ?_
  walk_at "rd"
  show Q (V.bl (decide ((n : Int) ≤ 14))) H1
  rw [decide_eq_true (show (n : Int) ≤ 14 by omega)]
  exact q H1 s1
theorem J7q (tx : Tx K mg J9 Jd J8 Jb J5 Ji J4 J1) : FnG P w K mg base "is_kinds_row" 3 ["words"] JeT:=by
 have J0C:=J4f (P:=P) (w:=w) (base:=base) tx
 refine tx.J7e.g J6C (fun _ _ _ _ _ _ us hl=>match us,hl with | [_],_=>rfl) (fun vs H Q E h=>?_) (fun f cdv A outer s H vs Q E hr h=>?_)
 ·obtain ⟨wl,ks,rfl,_⟩:=h
  rfl
 ·obtain ⟨wl,ks,rfl,hw,k0,k1,kc,kn,q⟩:=h
  refine ⟨_,(Ja (Jl (J1R (J0v JO (Jx (JE (K:=K) rfl) rfl tx.JS PySem.boot_len (J0 (pv 0) J2)) J3 (Js _)) (J1R (J0v JO (Jr (Jg (K:=K) rfl) (pv 0) J3 (fun _ _=>rfl)) (Jk (l:=[107,105,110,100,115]) (by decide +kernel)) (Js _)) (J1R (Jv J0C (hr.mono (by decide)) (J0 (Jr (Jg (K:=K) rfl) (pv 0) J3 (fun _ _=>rfl)) (J0 (J3I (l:=[65,66,67,68,69,70,71,72,73,74,75,76,77,78,79,80,81,82,83,84,85,86,87,88,89,90]) rfl tx.J3E) J2))) (J33 (J0v J2N (Jx JT rfl tx.JS PySem.boot_len (J0 (Jr (Jg (K:=K) rfl) (pv 0) J3 (fun _ _=>rfl)) J2)) (J0T rfl tx.J2C) (Js _)))))))),?_⟩
  walk_at "st"
  clear J0C
  obtain ⟨i0,i1⟩:=at2' (T J5c) (T ks)
  walk_at "rd"
  intro H1 s1
  have w2:=s1 _ _ hw
  walk_at "rd"
  show Q (V.bl (decide ((ks.length : Int) ≤ 4))) H1
  rw [decide_eq_true (show (ks.length : Int) ≤ 4 by omega)]
  exact q H1 s1
end
theorem J2r {w l : List Nat} (hn : w.Nodup) (h : ∀ c ∈ w,c ∈ l) : w.length ≤ l.length:=by
 induction w generalizing l with
 | nil=>exact Nat.zero_le _
 | cons x r ih =>
  have hn':=List.nodup_cons.mp hn
  have hx:=h x List.mem_cons_self
  have:=ih (l:=l.erase x) hn'.2 fun c hc=>by
   have ne : c ≠ x:=fun e=>hn'.1 (e ▸ hc)
   exact (List.mem_erase_of_ne ne).mpr (h c (List.mem_cons_of_mem _ hc))
  have hpos:=List.length_pos_of_mem hx
  rw [List.length_erase_of_mem hx] at this
  rw [List.length_cons]
  omega
section
variable {P : Program} {w : World} {K : PySem.W.Frag} {mg : Str → Option Value} {base : Heap} {J9 Jd J8 Jb J5 Ji J4 J1 : Addr}
local macro_rules | `(tactic| walk_at "lk")=>`(tactic| first | exact J5O _ _ _ _ _ | exact J4T _ _ _ _ _ _ _ _ | exact J42 _ _ _ _ _ _ _ _ | exact J48 _ _ _ _ _ _ _ _ | exact J31 _ _ _ _ _ _ _ _ | exact J40 _ _ _ _ _ _ _ _ | exact J3w _ _ _ _ _ _ _ _ | exact J4a _ _ _ _ _ _ _ _ | exact J4c _ _ _ _ _ _ _ _)
theorem JaY (tx : Tx K mg J9 Jd J8 Jb J5 Ji J4 J1) : FnG P w K mg base "put_need" 4 ["house","words"] (J57 J4 J1 (cs6 J9 Jd J8 Jb J5 Ji J4 J1) (fun r=>∃ n,r = .nd n)):=by
 have J39:=J7m (P:=P) (w:=w) (base:=base) tx
 have J8h:=Jcv (P:=P) (w:=w) (base:=base) tx
 have JA:=J0K (P:=P) (w:=w) (base:=base) tx
 have J3j:=J6A (P:=P) (w:=w) (base:=base) tx
 refine tx.Jb0.g J3M (fun _ _ _ _ _ _ us hl=>match us,hl with | [_,_],_=>rfl) (fun vs H Q E h=>?_) (fun f cdv A outer s H vs Q E hr h=>?_)
 ·obtain ⟨hh,wl,a,x,r,rfl,_⟩:=h
  rfl
 ·obtain ⟨hh,wl,a,x,r,rfl,hs,hw,hb,hg,⟨n,rfl⟩,q⟩:=h
  refine ⟨_,(J6 (JK (PW.pt (J1O (Jp J3O (Jx (JE (K:=K) rfl) rfl tx.JS PySem.boot_len (J0 (pv 1) J2)) J3 (Js _)) (J1O (J0t (J0u (Jv J39 (hr.mono (by decide)) (J0 (pv 0) (J0 (Jr (Jg (K:=K) rfl) (pv 1) J3 (fun _ _=>rfl)) J2))))) (J1q (J0t (J0u (Jv J8h (hr.mono (by decide)) (J0 (pv 0) (J0 (Jr (Jg (K:=K) rfl) (pv 1) J3 (fun _ _=>rfl)) J2))))))))) (Ja (Jl J1c)) Jz)
   (J6 (Jw (i:=2) J3M.nd rfl (Or.inl rfl) (Jv JA (hr.mono (by decide)) (J0 (Jr (Jg (K:=K) rfl) (pv 1) J3 (fun _ _=>rfl)) J2)))
   (J6 (Jw (i:=3) J3M.nd rfl (Or.inl rfl) (Jv JA (hr.mono (by decide)) (J0 (Jr (Jg (K:=K) rfl) (pv 1) J3 (fun _ _=>rfl)) J2)))
   (J6 (JK (J0t (JcB J2N J2N J2N J3 (pv 2) (pv 3) (J0T rfl tx.J3b))) (Ja (Jl J1c)) Jz)
   (J6 (Jw (i:=4) J3M.nd rfl (Or.inl rfl) (J1a (J0 (Jv JA (hr.mono (by decide)) (J0 (Jr (Jg (K:=K) rfl) (pv 1) J3 (fun _ _=>rfl)) J2)) (J0 (Jr (Jg (K:=K) rfl) (pv 1) J3 (fun _ _=>rfl)) (J0 (pv 2) (J0 (pv 3) J2))))))
   (J6 (JK (PW.pt (J34 (Jef (JD (K:=K) rfl (pv 0) rfl) (fun _=>rfl)) (J2P (Jp (Jgq hr.units0) (Jv J3j (hr.mono (by decide)) (J0 (pv 0) (J0 (pv 4) J2))) (Jv J3j (hr.mono (by decide)) (J0 (pv 0) (J0 (Jr (Jg (K:=K) rfl) (JD (K:=K) rfl (pv 0) rfl) (J6x J4A J3) (fun _ _=>rfl)) J2))) (Js _))))) (Ja (Jl J1c)) Jz)
   (J6 (J0i (J20 PySem.F.plainAttrs_list PySem.F.slot_list_append PySem.F.type_list_append JP (JD (K:=K) rfl (pv 0) rfl) (J0 (pv 4) J2)))
   (Ja (Jl J1c))))))))),?_⟩
  walk_at "st"
  clear J39 J8h JA J3j
  obtain ⟨gn,gk,gl,gc⟩:=hg
  have ho:=hs.ho
  have d0:=gn.d0
  have d1:=gn.d1
  have bd:=hb.d1
  have l0:=gn.l0
  have l1:=gn.l1
  have hm:=gn.h
  have n1:=J7H (i:=n.day) (by omega)
  have n2:=J7H (i:=n.least) (by omega)
  have n3:=J7H (i:=n.most) (by omega)
  have z1 : ((n.day.toNat : Nat) : Int) < x.d:=by omega
  have w1 : H wl = some (.lst [T J7w,T (numN n.day.toNat),T [n.kind],T (numN n.least.toNat),T (numN n.most.toNat)]):=hw
  obtain ⟨i0,i1,i2,i3,i4⟩:=at5 (T J7w) (T (numN n.day.toNat)) (T [n.kind]) (T (numN n.least.toNat)) (T (numN n.most.toNat))
  have kk:=gn.k
  have cl:=tx.JW.cl
  have nf_needs:=tx.J0H
  obtain ⟨ys,hy,hA⟩:=hs.e1
  obtain ⟨dx,hh1⟩:=hs.ho
  have y0 : (0 : Int) ≤ ((n.least.toNat : Nat) : Int):=by omega
  have y1 : ((n.least.toNat : Nat) : Int) ≤ ((n.most.toNat : Nat) : Int):=by omega
  have y2 : ((n.most.toNat : Nat) : Int) ≤ 8:=by omega
  walk_at "rd"
  intro H1 s1
  have w2:=s1 _ _ w1
  have ho1:=ho.keeps s1.keeps
  walk_at "rd"
  intro H2 s2
  have w3:=s2 _ _ w2
  walk_at "rd"
  intro H3 s3
  have w4:=s3 _ _ w3
  walk_at "rd"
  refine iteY y1 ?_
  walk_at "rd"
  rw [decide_eq_true y2]
  walk_at "rd"
  intro H4 s4
  have w5:=s4 _ _ w4
  walk_at "rd"
  intro t ht
  obtain ⟨H5,e5,ht5,s5⟩:=newt (xs:=[.int ((n.day.toNat : Nat) : Int),T [n.kind],.int ((n.least.toNat : Nat) : Int),.int ((n.most.toNat : Nat) : Int)]) ht
  rw [← e5]
  have t5:=(((s1.trans s2).trans s3).trans s4).trans s5
  have hs5:=hs.same t5
  have hy5:=t5 _ _ hy
  have hh5:=t5 _ _ hh1
  have ho5:=ho.keeps t5.keeps
  have hA5:=hA.imp fun a y=>NdAt.keeps a y _ _ t5.keeps
  have ht5' : H5 t = some (.tup [.int n.day,T [n.kind],.int n.least,.int n.most]):=by
   rw [ht5,show ((n.day.toNat : Nat) : Int) = n.day by omega,show ((n.least.toNat : Nat) : Int) = n.least by omega,show ((n.most.toNat : Nat) : Int) = n.most by omega]
  have hl:=hA5.len
  have hyl : ys.length ≤ 1000:=by omega
  clear e5 ht5 w1 w2 w3 w4 w5 s1 s2 s3 s4 s5 ho1
  have fin : ∀ H6,Same H5 H6 → Q (.bl true) (upd H6 a.a1 (.lst (ys ++ [.ref t]))):=fun H6 s6=>by
   refine q _ ((hs5.same s6).p1 (s6 _ _ hy5) ⟨t,rfl,s6 _ _ ht5'⟩) fun b o b1 _ _ _ _ _ e=>?_
   rw [Jj b1]
   exact s6 _ _ (t5 _ _ e)
  by_cases hn : ys = []
  ·subst hn
   have tr : TruV K (.ref a.a1) H5 false:=.inl ⟨[],SqL.of hy5,rfl⟩
   walk_at "rd"
   exact fin H5 (Same.refl _)
  ·obtain ⟨zs,v,rfl⟩ : ∃ zs v,ys = zs ++ [v]:=⟨ys.dropLast,ys.getLast hn,(List.dropLast_concat_getLast hn).symm⟩
   have tr : TruV K (.ref a.a1) H5 true:=.inl ⟨zs ++ [v],SqL.of hy5,by simp⟩
   have atl:=Jfi (zs:=zs) (v:=v)
   obtain ⟨m,hm1,hm2⟩ : ∃ m,x.nds.getLast? = some m ∧ NdAt m v H5:=by
    obtain ⟨m,hm,hp⟩:=hA5.back (i:=zs.length) (y:=v) (by simp)
    refine ⟨m,?_,hp⟩
    rw [List.getLast?_eq_getElem?]
    rw [List.length_append,List.length_singleton] at hl
    rw [show x.nds.length - 1 = zs.length by omega]
    exact hm
   have hlt:=gl m hm1
   obtain ⟨tm,rfl,htm⟩:=hm2
   have mk:=gk m (List.mem_of_getLast? hm1)
   walk_at "rd"
   intro t2 H6 s6 h6
   have hh6:=s6 _ _ hh5
   have hy6:=s6 _ _ hy5
   have ho6:=ho5.keeps s6.keeps
   have htm6:=s6 _ _ htm
   walk_at "rd"
   intro t3 H7 s7 h7
   have h6':=s7 _ _ h6
   have hh7:=s7 _ _ hh6
   have hy7:=s7 _ _ hy6
   have hle : leP n.day (x.ks.idxOf n.kind : Nat) m.day (x.ks.idxOf m.kind : Nat) = false:=by
    unfold leP
    rcases hlt with z | ⟨z,z'⟩
    ·rw [if_neg (by omega),decide_eq_false (by omega)]
    ·rw [if_pos z.symm,decide_eq_false (by omega)]
   walk_at "rd"
   rw [hle]
   walk_at "rd"
   exact fin H7 (s6.trans s7)
theorem J9m (tx : Tx K mg J9 Jd J8 Jb J5 Ji J4 J1) : FnG P w K mg base "put_person" 4 ["house","words"] (J57 J4 J1 (cs6 J9 Jd J8 Jb J5 Ji J4 J1) (fun r=>∃ n,r = .ps n)):=by
 have J4Y:=J86 (P:=P) (w:=w) (base:=base) tx
 have J5u:=J8Q (P:=P) (w:=w) (base:=base) tx
 have J8g:=Jcy (P:=P) (w:=w) (base:=base) tx
 have JA:=J0K (P:=P) (w:=w) (base:=base) tx
 have J55:=Jbp (P:=P) (w:=w) (base:=base) tx
 have J4u:=tx.J1Z.g (J4X (P:=P) (w:=w) (base:=base) tx)
 refine tx.J8N.g J3R (fun _ _ _ _ _ _ us hl=>match us,hl with | [_,_],_=>rfl) (fun vs H Q E h=>?_) (fun f cdv A outer s H vs Q E hr h=>?_)
 ·obtain ⟨hh,wl,a,x,r,rfl,_⟩:=h
  rfl
 ·obtain ⟨hh,wl,a,x,r,rfl,hs,hw,hb,hg,⟨n,rfl⟩,q⟩:=h
  refine ⟨_,(J6 (JK (PW.pt (J1O (Jp J3O (Jx (JE (K:=K) rfl) rfl tx.JS PySem.boot_len (J0 (pv 1) J2)) J3 (Js _)) (J1O (Jp JO (Jx (JE (K:=K) rfl) rfl tx.JS PySem.boot_len (J0 (JD (K:=K) rfl (pv 0) rfl) J2)) (J0T rfl tx.J1h) (Js _)) (J1q (J0t (J0u (Jv J4Y (hr.mono (by decide)) (J0 (pv 0) (J0 (Jr (Jg (K:=K) rfl) (pv 1) J3 (fun _ _=>rfl)) J2))))))))) (Ja (Jl J1c)) Jz)
   (J6 (JK (PW.pt (J1O (J0t (J0u (Jv J5u (hr.mono (by decide)) (J0 (pv 0) (J0 (Jr (Jg (K:=K) rfl) (pv 1) J3 (fun _ _=>rfl)) J2))))) (J1q (J0t (J0u (Jv J8g (hr.mono (by decide)) (J0 (pv 0) (J0 (Jr (Jg (K:=K) rfl) (pv 1) J3 (fun _ _=>rfl)) J2)))))))) (Ja (Jl J1c)) Jz)
   (J6 (Jw (i:=2) J3R.nd rfl (Or.inl rfl) (Jv JA (hr.mono (by decide)) (J0 (Jr (Jg (K:=K) rfl) (pv 1) J3 (fun _ _=>rfl)) J2)))
   (J6 (Jw (i:=3) J3R.nd rfl (Or.inl rfl) (Jv JA (hr.mono (by decide)) (J0 (Jr (Jg (K:=K) rfl) (pv 1) J3 (fun _ _=>rfl)) J2)))
   (J6 (JK (PW.pt (J1O (J0t (J7I J2N J2N J3 (pv 2) (J0T rfl tx.J1T))) (J1q (Jp J7K (pv 3) J3 (Js _))))) (Ja (Jl J1c)) Jz)
   (J6 (J0i (J20 PySem.F.plainAttrs_list PySem.F.slot_list_append PySem.F.type_list_append JP (JD (K:=K) rfl (pv 0) rfl) (J0 (J3U (r:=rPer J4) J4u (hr.mono (by decide)) JdE (J0 (Jr (Jg (K:=K) rfl) (pv 1) J3 (fun _ _=>rfl)) (J0 (Jv J55 (hr.mono (by decide)) (J0 (Jr (Jg (K:=K) rfl) (pv 1) J3 (fun _ _=>rfl)) J2)) (J0 (pv 2) (J0 (pv 3) (J0 (Jv J55 (hr.mono (by decide)) (J0 (Jr (Jg (K:=K) rfl) (pv 1) J3 (fun _ _=>rfl)) J2)) J2)))))) J2)))
   (Ja (Jl J1c)))))))),?_⟩
  walk_at "st"
  clear J4Y J5u J8g JA J55 J4u
  obtain ⟨gn,gc,gu⟩:=hg
  have ho:=hs.ho
  have he2:=hs.e2
  obtain ⟨ys,hy,hA⟩:=hs.e2
  have hl:=hA.len
  have cl:=tx.JW.cl
  have nf_persons:=tx.J05
  obtain ⟨dx,hh1⟩:=hs.ho
  have m0:=gn.m0
  have m1:=gn.m1
  have c0:=gn.c0
  have n1:=J7H (i:=n.most) (by omega)
  have n2 : n.car.toNat < 10 ^ 40:=by have:=gn.c1; omega
  have w1 : H wl = some (.lst [T J4m,T n.nm,T (dotF n.sk),T (numN n.most.toNat),T (numN n.car.toNat),T (dotF n.past)]):=hw
  obtain ⟨i0,i1,i2,i3,i4,i5⟩:=at6' (T J4m) (T n.nm) (T (dotF n.sk)) (T (numN n.most.toNat)) (T (numN n.car.toNat)) (T (dotF n.past))
  have k1:=gn.n0
  have k2:=gn.n1
  have k3:=gn.ns
  have k4:=gn.na
  have k5:=gn.sk
  have k6:=gn.sn
  have k7:=gn.p1
  have k8:=gn.pk
  have bk:=hb.k1
  have pl:=hb.pl
  have sl : n.sk.length ≤ 1000:=by have:=J2r k6 k5; omega
  have u1 : n.sk ≠ [46]:=fun z=>by
   have:=hb.kc 46 (k5 46 (by rw [z]; simp))
   exact absurd this (by decide)
  have u2 : n.past ≠ [46]:=fun z=>by
   have h46:=k8 46 (by rw [z]; simp)
   rcases List.mem_append.mp h46 with h | h
   ·exact absurd (hb.kc 46 h) (by decide)
   ·exact absurd (List.mem_singleton.mp h) (by decide)
  have y0 : (0 : Int) ≤ ((n.most.toNat : Nat) : Int):=by omega
  have y1 : ((n.most.toNat : Nat) : Int) ≤ 14:=by omega
  have y2 : ¬ ((n.car.toNat : Nat) : Int) < 0:=by omega
  have yl : ¬ (ys.length : Int) = 8:=by omega
  have dl : decide (V.int (ys.length : Int) = V.int 8) = false:=decide_eq_false fun z=>by injection z with z; exact yl z
  have fin : ∀ (H6 : Hp) (p : Addr),Same H H6 → J7M J4 H6 p n.nm n.sk ((n.most.toNat : Nat) : Int) ((n.car.toNat : Nat) : Int) n.past → Q (.bl true) (upd H6 a.a2 (.lst (ys ++ [.ref p]))):=fun H6 p s6 hp=>by
   rw [show ((n.most.toNat : Nat) : Int) = n.most by omega,show ((n.car.toNat : Nat) : Int) = n.car by omega] at hp
   refine q _ ((hs.same s6).p2 (s6 _ _ hy) ⟨p,rfl,hp⟩) fun b o _ b2 _ _ _ _ e=>?_
   rw [Jj b2]
   exact s6 _ _ e
  walk_at "rd"
  rw [dl]
  walk_at "rd"
  intro H1 s1
  have w2:=s1 _ _ w1
  have ho1:=ho.keeps s1.keeps
  walk_at "rd"
  intro H2 s2
  have w3:=s2 _ _ w2
  have ho2:=ho1.keeps s2.keeps
  walk_at "rd"
  intro H3 s3
  have w4:=s3 _ _ w3
  walk_at "rd"
  intro H4 s4
  have w5:=s4 _ _ w4
  walk_at "rd"
  intro H5 s5
  have w6:=s5 _ _ w5
  walk_at "rd"
  rw [decide_eq_true y1]
  have t5:=(((s1.trans s2).trans s3).trans s4).trans s5
  have hh5:=t5 _ _ hh1
  have hy5:=t5 _ _ hy
  walk_at "rd"
  intro p H6 s6 np hp
  have hy6:=s6 _ _ hy5
  have hyl : ys.length ≤ 1000:=by omega
  walk_at "rd"
  exact fin H6 p (t5.trans s6) hp
end
theorem J8s {c : Nat} : ∀ {ws : List (List Nat)},ws ≠ [] → (ws.map List.length).sum + ws.length = (JV [c] ws).length + 1
 | [],h=>absurd rfl h
 | [w],_=>by simp [JV]
 | w :: v :: r,_=>by
  have ih:=J8s (c:=c) (ws:=v :: r) (by simp)
  show _ = (w ++ [c] ++ JV [c] (v :: r)).length + 1
  rw [List.map_cons,List.sum_cons,List.length_cons,List.length_append,List.length_append,List.length_singleton]
  omega
section
variable {P : Program} {w : World} {K : PySem.W.Frag} {mg : Str → Option Value} {base : Heap} {J9 Jd J8 Jb J5 Ji J4 J1 : Addr}
local macro_rules | `(tactic| walk_at "lk")=>`(tactic| first | exact J5O _ _ _ _ _ | exact J4T _ _ _ _ _ _ _ _ | exact J42 _ _ _ _ _ _ _ _ | exact J48 _ _ _ _ _ _ _ _ | exact J31 _ _ _ _ _ _ _ _ | exact J40 _ _ _ _ _ _ _ _ | exact J3w _ _ _ _ _ _ _ _ | exact J4a _ _ _ _ _ _ _ _ | exact J4c _ _ _ _ _ _ _ _)
theorem J9W (tx : Tx K mg J9 Jd J8 Jb J5 Ji J4 J1) : FnG P w K mg base "put_leave" 4 ["house","words"] (J57 J4 J1 (cs6 J9 Jd J8 Jb J5 Ji J4 J1) (fun r=>∃ n,r = .lv n)):=by
 have JR:=J37 (P:=P) (w:=w) (base:=base) tx
 have J39:=J7m (P:=P) (w:=w) (base:=base) tx
 have JA:=J0K (P:=P) (w:=w) (base:=base) tx
 refine tx.Ja3.g J9f (fun _ _ _ _ _ _ us hl=>match us,hl with | [_,_],_=>rfl) (fun vs H Q E h=>?_) (fun f cdv A outer s H vs Q E hr h=>?_)
 ·obtain ⟨hh,wl,a,x,r,rfl,_⟩:=h
  rfl
 ·obtain ⟨hh,wl,a,x,r,rfl,hs,hw,hb,hg,⟨n,rfl⟩,q⟩:=h
  refine ⟨_,(J6 (JK (PW.pt (J1O (Jp J3O (Jx (JE (K:=K) rfl) rfl tx.JS PySem.boot_len (J0 (pv 1) J2)) J3 (Js _)) (J1q (Jp JO (Jx (JE (K:=K) rfl) rfl tx.JS PySem.boot_len (J0 (JD (K:=K) rfl (pv 0) rfl) J2)) (J0T rfl tx.J2E) (Js _))))) (Ja (Jl J1c)) Jz)
   (J6 (JK (PW.pt (J1O (J0t (J0u (Jv JR (hr.mono (by decide)) (J0 (pv 0) (J0 (Jr (Jg (K:=K) rfl) (pv 1) J3 (fun _ _=>rfl)) J2))))) (J1q (J0t (J0u (Jv J39 (hr.mono (by decide)) (J0 (pv 0) (J0 (Jr (Jg (K:=K) rfl) (pv 1) J3 (fun _ _=>rfl)) J2)))))))) (Ja (Jl J1c)) Jz)
   (J6 (J0i (J20 PySem.F.plainAttrs_list PySem.F.slot_list_append PySem.F.type_list_append JP (JD (K:=K) rfl (pv 0) rfl) (J0 (J1a (J0 (Jr (Jg (K:=K) rfl) (pv 1) J3 (fun _ _=>rfl)) (J0 (Jv JA (hr.mono (by decide)) (J0 (Jr (Jg (K:=K) rfl) (pv 1) J3 (fun _ _=>rfl)) J2)) J2))) J2)))
   (Ja (Jl J1c))))),?_⟩
  walk_at "st"
  clear JR J39 JA
  obtain ⟨gn,gc⟩:=hg
  have ho:=hs.ho
  have he2:=hs.e2
  obtain ⟨ys,hy,hA⟩:=hs.e3
  have hl:=hA.len
  obtain ⟨dx,hh1⟩:=hs.ho
  have cl:=tx.JW.cl
  have nf_f:=tx.J0G
  have pl:=hb.pl
  have bd:=hb.d1
  have hyl : ys.length ≤ 1000:=by omega
  have dl : decide (V.int (ys.length : Int) = V.int 60) = false:=decide_eq_false fun z=>by injection z with z; omega
  have n1:=J7H (i:=n.2) (by have:=gn.d1; omega)
  have d0:=gn.d0
  have z1 : ((n.2.toNat : Nat) : Int) < x.d:=by have:=gn.d1; omega
  have w1 : H wl = some (.lst [T J59,T n.1,T (numN n.2.toNat)]):=hw
  obtain ⟨i0,i1,i2⟩:=at3' (T J59) (T n.1) (T (numN n.2.toNat))
  have mem : n.1 ∈ x.ps.map (·.nm):=gn.nm
  have fin : ∀ (H6 : Hp) (t : Addr),Same H H6 → H6 t = some (.tup [T n.1,.int ((n.2.toNat : Nat) : Int)]) → Q (.bl true) (upd H6 a.a3 (.lst (ys ++ [.ref t]))):=fun H6 t s6 ht=>by
   rw [show ((n.2.toNat : Nat) : Int) = n.2 by omega] at ht
   refine q _ ((hs.same s6).p3 (s6 _ _ hy) ⟨t,rfl,ht⟩) fun c o _ _ b _ _ _ e=>?_
   rw [Jj b]
   exact s6 _ _ e
  walk_at "rd"
  rw [dl]
  walk_at "rd"
  intro H1 s1
  rw [decide_eq_true mem]
  have w2:=s1 _ _ w1
  have ho1:=ho.keeps s1.keeps
  walk_at "rd"
  intro H2 s2
  have t2:=s1.trans s2
  have w3:=s2 _ _ w2
  have hh2:=t2 _ _ hh1
  have hy2:=t2 _ _ hy
  walk_at "rd"
  intro H3 s3
  walk_at "rd"
  intro t ht
  obtain ⟨H4,e4,ht4,s4⟩:=newt (xs:=[T n.1,.int ((n.2.toNat : Nat) : Int)]) ht
  rw [← e4]
  have hy4:=(s3.trans s4) _ _ hy2
  walk_at "rd"
  exact fin H4 t ((t2.trans s3).trans s4) ht4
theorem Jbi (tx : Tx K mg J9 Jd J8 Jb J5 Ji J4 J1) : FnG P w K mg base "put_wish" 4 ["house","words"] (J57 J4 J1 (cs6 J9 Jd J8 Jb J5 Ji J4 J1) (fun r=>∃ n,r = .ws n)):=by
 have JR:=J37 (P:=P) (w:=w) (base:=base) tx
 have J39:=J7m (P:=P) (w:=w) (base:=base) tx
 have J0C:=J4f (P:=P) (w:=w) (base:=base) tx
 have JA:=J0K (P:=P) (w:=w) (base:=base) tx
 refine tx.Jb5.g J9V (fun _ _ _ _ _ _ us hl=>match us,hl with | [_,_],_=>rfl) (fun vs H Q E h=>?_) (fun f cdv A outer s H vs Q E hr h=>?_)
 ·obtain ⟨hh,wl,a,x,r,rfl,_⟩:=h
  rfl
 ·obtain ⟨hh,wl,a,x,r,rfl,hs,hw,hb,hg,⟨n,rfl⟩,q⟩:=h
  refine ⟨_,(J6 (JK (PW.pt (J1O (Jp J3O (Jx (JE (K:=K) rfl) rfl tx.JS PySem.boot_len (J0 (pv 1) J2)) J3 (Js _)) (J1q (Jp JO (Jx (JE (K:=K) rfl) rfl tx.JS PySem.boot_len (J0 (JD (K:=K) rfl (pv 0) rfl) J2)) (J0T rfl tx.J1U) (Js _))))) (Ja (Jl J1c)) Jz)
   (J6 (JK (PW.pt (J1O (J0t (J0u (Jv JR (hr.mono (by decide)) (J0 (pv 0) (J0 (Jr (Jg (K:=K) rfl) (pv 1) J3 (fun _ _=>rfl)) J2))))) (J1q (J0t (J0u (Jv J39 (hr.mono (by decide)) (J0 (pv 0) (J0 (Jr (Jg (K:=K) rfl) (pv 1) J3 (fun _ _=>rfl)) J2)))))))) (Ja (Jl J1c)) Jz)
   (J6 (JK (J0t (J0u (Jv J0C (hr.mono (by decide)) (J0 (Jr (Jg (K:=K) rfl) (pv 1) J3 (fun _ _=>rfl)) (J0 (Jf Jn (JD (K:=K) rfl (pv 0) rfl) (Jk (l:=[45]) (by decide +kernel))) J2))))) (Ja (Jl J1c)) Jz)
   (J6 (J0i (J20 PySem.F.plainAttrs_list PySem.F.slot_list_append PySem.F.type_list_append JP (JD (K:=K) rfl (pv 0) rfl) (J0 (J1a (J0 (Jr (Jg (K:=K) rfl) (pv 1) J3 (fun _ _=>rfl)) (J0 (Jv JA (hr.mono (by decide)) (J0 (Jr (Jg (K:=K) rfl) (pv 1) J3 (fun _ _=>rfl)) J2)) (J0 (Jr (Jg (K:=K) rfl) (pv 1) J3 (fun _ _=>rfl)) J2)))) J2)))
   (Ja (Jl J1c)))))),?_⟩
  walk_at "st"
  clear JR J39 J0C JA
  obtain ⟨gn,gc⟩:=hg
  have ho:=hs.ho
  have he2:=hs.e2
  obtain ⟨ys,hy,hA⟩:=hs.e4
  have hl:=hA.len
  obtain ⟨dx,hh1⟩:=hs.ho
  have cl:=tx.JW.cl
  have nf_f:=tx.J0p
  have pl:=hb.pl
  have bd:=hb.d1
  have hyl : ys.length ≤ 1000:=by omega
  have dl : decide (V.int (ys.length : Int) = V.int 60) = false:=decide_eq_false fun z=>by injection z with z; omega
  have nf_kinds:=tx.JU
  have n1:=J7H (i:=n.day) (by have:=gn.d1; omega)
  have d0:=gn.d0
  have z1 : ((n.day.toNat : Nat) : Int) < x.d:=by have:=gn.d1; omega
  have w1 : H wl = some (.lst [T J7B,T n.nm,T (numN n.day.toNat),T n.ms]):=hw
  obtain ⟨i0,i1,i2,i3⟩:=at4' (T J7B) (T n.nm) (T (numN n.day.toNat)) (T n.ms)
  have mem : n.nm ∈ x.ps.map (·.nm):=gn.nm
  have m0:=gn.m0
  have m1:=gn.ms
  have m2:=gn.mn
  have bk:=hb.k1
  have m3 : n.ms.length ≤ 1000:=by
   have:=J2r m2 m1
   rw [List.length_append,List.length_singleton] at this
   omega
  have fin : ∀ (H6 : Hp) (t : Addr),Same H H6 → H6 t = some (.tup [T n.nm,.int ((n.day.toNat : Nat) : Int),T n.ms]) → Q (.bl true) (upd H6 a.a4 (.lst (ys ++ [.ref t]))):=fun H6 t s6 ht=>by
   rw [show ((n.day.toNat : Nat) : Int) = n.day by omega] at ht
   refine q _ ((hs.same s6).p4 (s6 _ _ hy) ⟨t,rfl,ht⟩) fun c o _ _ _ b _ _ e=>?_
   rw [Jj b]
   exact s6 _ _ e
  walk_at "rd"
  rw [dl]
  walk_at "rd"
  intro H1 s1
  rw [decide_eq_true mem]
  have w2:=s1 _ _ w1
  have ho1:=ho.keeps s1.keeps
  walk_at "rd"
  intro H2 s2
  have t2:=s1.trans s2
  have w3:=s2 _ _ w2
  have hh2:=t2 _ _ hh1
  walk_at "rd"
  intro H3 s3
  have t3:=t2.trans s3
  have w4:=s3 _ _ w3
  have hh3:=t3 _ _ hh1
  have hy3:=t3 _ _ hy
  walk_at "rd"
  intro H4 s4
  have w5:=s4 _ _ w4
  walk_at "rd"
  intro t ht
  obtain ⟨H5,e5,ht5,s5⟩:=newt (xs:=[T n.nm,.int ((n.day.toNat : Nat) : Int),T n.ms]) ht
  rw [← e5]
  have hy5:=(s4.trans s5) _ _ hy3
  walk_at "rd"
  exact fin H5 t ((t3.trans s4).trans s5) ht5
theorem JaZ (tx : Tx K mg J9 Jd J8 Jb J5 Ji J4 J1) : FnG P w K mg base "put_rule" 68 ["house","words"] (J57 J4 J1 (cs6 J9 Jd J8 Jb J5 Ji J4 J1) (fun r=>∃ n,r = .rt n)):=by
 have JR:=J37 (P:=P) (w:=w) (base:=base) tx
 have J6l:=Jak (P:=P) (w:=w) (base:=base) tx
 refine tx.Jbf.g J6j (fun _ _ _ _ _ _ us hl=>match us,hl with | [_,_],_=>rfl) (fun vs H Q E h=>?_) (fun f cdv A outer s H vs Q E hr h=>?_)
 ·obtain ⟨hh,wl,a,x,r,rfl,_⟩:=h
  rfl
 ·obtain ⟨hh,wl,a,x,r,rfl,hs,hw,hb,hg,⟨n,rfl⟩,q⟩:=h
  refine ⟨_,(J6 (JK (PW.pt (J1O (Jp J7K (Jx (JE (K:=K) rfl) rfl tx.JS PySem.boot_len (J0 (pv 1) J2)) J3 (Js _)) (J1q (Jp JO (Jx (JE (K:=K) rfl) rfl tx.JS PySem.boot_len (J0 (JD (K:=K) rfl (pv 0) rfl) J2)) (J0T rfl tx.J2F) (Js _))))) (Ja (Jl J1c)) Jz)
   (J6 (JK (PW.pt (J34 (Jp J3O (Jr (Jg (K:=K) rfl) (pv 1) J3 (fun _ _=>rfl)) (Jk (l:=[97,108,108]) (by decide +kernel)) (Js _)) (J2P (J0t (J0u (Jv JR (hr.mono (by decide)) (J0 (pv 0) (J0 (Jr (Jg (K:=K) rfl) (pv 1) J3 (fun _ _=>rfl)) J2)))))))) (Ja (Jl J1c)) Jz)
   (J6 (Jfd rfl (Ja (Jw (i:=2) J6j.nd rfl (Or.inl rfl) (Jv J6l (hr.mono (by decide)) (J0 (J2L (K:=K) rfl (Jk (l:=[32]) (by decide +kernel)) (J0 (J08 (J0S (K:=K) rfl) (pv 1) (J0c J3) J0M) J2)) J2)))))
   (J6 (J0i (J20 PySem.F.plainAttrs_list PySem.F.slot_list_append PySem.F.type_list_append JP (JD (K:=K) rfl (pv 0) rfl) (J0 (J1a (J0 (Jr (Jg (K:=K) rfl) (pv 1) J3 (fun _ _=>rfl)) (J0 (pv 2) J2))) J2)))
   (Ja (Jl J1c)))))),?_⟩
  walk_at "st"
  clear JR J6l
  obtain ⟨gn,gc⟩:=hg
  have ho:=hs.ho
  have he2:=hs.e2
  obtain ⟨ys,hy,hA⟩:=hs.e5
  have hl:=hA.len
  obtain ⟨dx,hh1⟩:=hs.ho
  have cl:=tx.JW.cl
  have nf_f:=tx.J0j
  have pl:=hb.pl
  have bd:=hb.d1
  have hyl : ys.length ≤ 1000:=by omega
  have dl : decide (V.int (ys.length : Int) = V.int 8) = false:=decide_eq_false fun z=>by injection z with z; omega
  have w1 : H wl = some (.lst (T J2M :: T n.nm :: (Jh 32 n.tx).map T)):=hw
  obtain ⟨sx,sr,esp⟩:=J0z 32 n.tx
  have i1 : atI (T J2M :: T n.nm :: (Jh 32 n.tx).map T) 1 = some (T n.nm):=J3P (show (T J2M :: T n.nm :: (Jh 32 n.tx).map T)[1]? = some (T n.nm) from rfl)
  have g1:=gn.tx.rd
  have g2 : n.tx.length ≤ 10000:=by have:=gn.tx.ln; omega
  have g3:=gn.tx.wc
  have jsp:=J5Q 32 n.tx
  have ll : (T J2M :: T n.nm :: (Jh 32 n.tx).map T).length = (Jh 32 n.tx).length + 2:=by simp
  have l1 : 1 ≤ (Jh 32 n.tx).length:=by rw [esp]; simp
  have ecut : cutV (T J2M :: T n.nm :: (Jh 32 n.tx).map T) (some 2) none = (Jh 32 n.tx).map T:=J45 _ 2 (by decide)
  have d3 : decide (((T J2M :: T n.nm :: (Jh 32 n.tx).map T).length : Int) < 3) = false:=decide_eq_false (by omega)
  have jl:=J8s (c:=32) (ws:=Jh 32 n.tx) (by rw [esp]; simp)
  have hjl : ((Jh 32 n.tx).map List.length).sum + (Jh 32 n.tx).length * ([32] : List Nat).length ≤ 16777216:=by
   rw [jsp] at jl
   rw [List.length_singleton,Nat.mul_one]
   omega
  have g1' : rdW 60 (Jh 32 (JV [32] (Jh 32 n.tx))) = some n.r:=by rw [jsp]; exact g1
  have g2' : (JV [32] (Jh 32 n.tx)).length ≤ 10000:=by rw [jsp]; exact g2
  have g3' : (Jh 32 (JV [32] (Jh 32 n.tx))).length ≤ 60:=by rw [jsp]; exact g3
  have fin : ∀ (H6 : Hp) (t p : Addr),Same H H6 → H6 t = some (.tup [T n.nm,.ref p]) → JH (cs6 J9 Jd J8 Jb J5 Ji J4 J1) H6 n.r p → Q (.bl true) (upd H6 a.a5 (.lst (ys ++ [.ref t]))):=fun H6 t p s6 ht hp=>by
   refine q _ ((hs.same s6).p5 (s6 _ _ hy) ⟨t,p,rfl,ht,hp⟩) fun c o _ _ _ _ b _ e=>?_
   rw [Jj b]
   exact s6 _ _ e
  walk_at "rd"
  rw [d3]
  walk_at "rd"
  rw [dl]
  walk_at "rd"
  by_cases ea : n.nm = wAll
  ·rw [decide_eq_true (show T n.nm = T [97,108,108] by rw [ea])]
   have s0 : Same H H:=Same.refl _
   have wx:=s0 _ _ w1
   walk_at "rd"
   intro L nL
   rw [ecut]
   obtain ⟨H2,e2,hL,sL⟩:=newl (xs:=(Jh 32 n.tx).map T) nL
   rw [← e2]
   have sqL : SqL K H2 L ((Jh 32 n.tx).map T):=SqL.of hL
   walk_at "rd"
   intro p H3 s3 hr3
   have t3:=(s0.trans sL).trans s3
   have w3:=t3 _ _ w1
   have hh3:=t3 _ _ hh1
   have hy3:=t3 _ _ hy
   walk_at "rd"
   intro t ht
   obtain ⟨H4,e4,ht4,s4⟩:=newt (xs:=[T n.nm,.ref p]) ht
   rw [← e4]
   have hy4:=s4 _ _ hy3
   walk_at "rd"
   exact fin H4 t p (t3.trans s4) ht4 (JH.keeps s4.keeps hr3)
  ·rw [decide_eq_false (show ¬ T n.nm = T [97,108,108] from fun z=>ea (J1M z))]
   have mem : n.nm ∈ x.ps.map (·.nm):=gn.nm.resolve_left ea
   walk_at "rd"
   intro H1 s1
   rw [decide_eq_true mem]
   have wx:=s1 _ _ w1
   walk_at "rd"
   intro L nL
   rw [ecut]
   obtain ⟨H2,e2,hL,sL⟩:=newl (xs:=(Jh 32 n.tx).map T) nL
   rw [← e2]
   have sqL : SqL K H2 L ((Jh 32 n.tx).map T):=SqL.of hL
   walk_at "rd"
   intro p H3 s3 hr3
   have t3:=(s1.trans sL).trans s3
   have w3:=t3 _ _ w1
   have hh3:=t3 _ _ hh1
   have hy3:=t3 _ _ hy
   walk_at "rd"
   intro t ht
   obtain ⟨H4,e4,ht4,s4⟩:=newt (xs:=[T n.nm,.ref p]) ht
   rw [← e4]
   have hy4:=s4 _ _ hy3
   walk_at "rd"
   exact fin H4 t p (t3.trans s4) ht4 (JH.keeps s4.keeps hr3)
theorem Jbm (tx : Tx K mg J9 Jd J8 Jb J5 Ji J4 J1) : FnG P w K mg base "put_pair" 4 ["house","words"] (J57 J4 J1 (cs6 J9 Jd J8 Jb J5 Ji J4 J1) (fun r=>∃ n,r = .pq n)):=by
 have JR:=J37 (P:=P) (w:=w) (base:=base) tx
 refine tx.Jbd.g Jam (fun _ _ _ _ _ _ us hl=>match us,hl with | [_,_],_=>rfl) (fun vs H Q E h=>?_) (fun f cdv A outer s H vs Q E hr h=>?_)
 ·obtain ⟨hh,wl,a,x,r,rfl,_⟩:=h
  rfl
 ·obtain ⟨hh,wl,a,x,r,rfl,hs,hw,hb,hg,⟨n,rfl⟩,q⟩:=h
  refine ⟨_,(J6 (JK (PW.pt (J1O (Jp J3O (Jx (JE (K:=K) rfl) rfl tx.JS PySem.boot_len (J0 (pv 1) J2)) J3 (Js _)) (J1q (Jp JO (Jx (JE (K:=K) rfl) rfl tx.JS PySem.boot_len (J0 (JD (K:=K) rfl (pv 0) rfl) J2)) (J0T rfl tx.J2x) (Js _))))) (Ja (Jl J1c)) Jz)
   (J6 (JK (PW.pt (J1O (J0t (J0u (Jv JR (hr.mono (by decide)) (J0 (pv 0) (J0 (Jr (Jg (K:=K) rfl) (pv 1) J3 (fun _ _=>rfl)) J2))))) (J1O (J0t (J0u (Jv JR (hr.mono (by decide)) (J0 (pv 0) (J0 (Jr (Jg (K:=K) rfl) (pv 1) J3 (fun _ _=>rfl)) J2))))) (J1q (Jp JO (Jr (Jg (K:=K) rfl) (pv 1) J3 (fun _ _=>rfl)) (Jr (Jg (K:=K) rfl) (pv 1) J3 (fun _ _=>rfl)) (Js _)))))) (Ja (Jl J1c)) Jz)
   (J6 (J0i (J20 PySem.F.plainAttrs_list PySem.F.slot_list_append PySem.F.type_list_append JP (JD (K:=K) rfl (pv 0) rfl) (J0 (J1a (J0 (Jr (Jg (K:=K) rfl) (pv 1) J3 (fun _ _=>rfl)) (J0 (Jr (Jg (K:=K) rfl) (pv 1) J3 (fun _ _=>rfl)) (J0 (Jr (Jg (K:=K) rfl) (pv 1) J3 (fun _ _=>rfl)) J2)))) J2)))
   (Ja (Jl J1c))))),?_⟩
  walk_at "st"
  clear JR
  obtain ⟨gn,gc⟩:=hg
  have ho:=hs.ho
  have he2:=hs.e2
  obtain ⟨ys,hy,hA⟩:=hs.e6
  have hl:=hA.len
  obtain ⟨dx,hh1⟩:=hs.ho
  have cl:=tx.JW.cl
  have nf_f:=tx.J0I
  have pl:=hb.pl
  have bd:=hb.d1
  have hyl : ys.length ≤ 1000:=by omega
  have dl : decide (V.int (ys.length : Int) = V.int 8) = false:=decide_eq_false fun z=>by injection z with z; omega
  have w1 : H wl = some (.lst [T n.wd,T n.one,T n.two]):=hw
  obtain ⟨i0,i1,i2⟩:=at3' (T n.wd) (T n.one) (T n.two)
  have me1 : n.one ∈ x.ps.map (·.nm):=gn.one
  have me2 : n.two ∈ x.ps.map (·.nm):=gn.two
  have dn : decide (T n.one = T n.two) = false:=decide_eq_false fun z=>gn.ne (J1M z)
  have fin : ∀ (H6 : Hp) (t : Addr),Same H H6 → H6 t = some (.tup [T n.wd,T n.one,T n.two]) → Q (.bl true) (upd H6 a.a6 (.lst (ys ++ [.ref t]))):=fun H6 t s6 ht=>by
   refine q _ ((hs.same s6).p6 (s6 _ _ hy) ⟨t,rfl,ht⟩) fun c o _ _ _ _ _ b e=>?_
   rw [Jj b]
   exact s6 _ _ e
  walk_at "rd"
  rw [dl]
  walk_at "rd"
  intro H1 s1
  rw [decide_eq_true me1]
  have w2:=s1 _ _ w1
  have ho1:=ho.keeps s1.keeps
  have he21:=he2.same PsO.keeps s1
  walk_at "rd"
  intro H2 s2
  rw [decide_eq_true me2]
  have t2:=s1.trans s2
  have w3:=s2 _ _ w2
  have hh2:=t2 _ _ hh1
  have hy2:=t2 _ _ hy
  walk_at "rd"
  rw [dn]
  walk_at "rd"
  intro t ht
  obtain ⟨H4,e4,ht4,s4⟩:=newt (xs:=[T n.wd,T n.one,T n.two]) ht
  rw [← e4]
  have hy4:=s4 _ _ hy2
  walk_at "rd"
  exact fin H4 t (t2.trans s4) ht4
theorem Jct (tx : Tx K mg J9 Jd J8 Jb J5 Ji J4 J1) : FnG P w K mg base "put_row" 69 ["house","words"] (J57 J4 J1 (cs6 J9 Jd J8 Jb J5 Ji J4 J1) (fun _=>True)):=by
 have J7n:=JaY (P:=P) (w:=w) (base:=base) tx
 have J5n:=J9m (P:=P) (w:=w) (base:=base) tx
 have J6r:=J9W (P:=P) (w:=w) (base:=base) tx
 have J71:=Jbi (P:=P) (w:=w) (base:=base) tx
 have J7b:=JaZ (P:=P) (w:=w) (base:=base) tx
 have J6Y:=Jbm (P:=P) (w:=w) (base:=base) tx
 refine tx.Jcr.g Jb8 (fun _ _ _ _ _ _ us hl=>match us,hl with | [_,_],_=>rfl) (fun vs H Q E h=>?_) (fun f cdv A outer s H vs Q E hr h=>?_)
 ·obtain ⟨hh,wl,a,x,r,rfl,_⟩:=h
  rfl
 ·obtain ⟨hh,wl,a,x,r,rfl,hs,hw,hb,hg,_,q⟩:=h
  refine ⟨_,(J6 (JK (Jp JO (Jr (Jg (K:=K) rfl) (pv 1) J3 (fun _ _=>rfl)) (Jk (l:=[110,101,101,100]) (by decide +kernel)) (Js _)) (Ja (Jl (Jv J7n (hr.mono (by decide)) (J0 (pv 0) (J0 (pv 1) J2))))) Jz)
   (J6 (JK (Jp JO (Jr (Jg (K:=K) rfl) (pv 1) J3 (fun _ _=>rfl)) (Jk (l:=[112,101,114,115,111,110]) (by decide +kernel)) (Js _)) (Ja (Jl (Jv J5n (hr.mono (by decide)) (J0 (pv 0) (J0 (pv 1) J2))))) Jz)
   (J6 (JK (Jp JO (Jr (Jg (K:=K) rfl) (pv 1) J3 (fun _ _=>rfl)) (Jk (l:=[108,101,97,118,101]) (by decide +kernel)) (Js _)) (Ja (Jl (Jv J6r (hr.mono (by decide)) (J0 (pv 0) (J0 (pv 1) J2))))) Jz)
   (J6 (JK (Jp JO (Jr (Jg (K:=K) rfl) (pv 1) J3 (fun _ _=>rfl)) (Jk (l:=[119,105,115,104]) (by decide +kernel)) (Js _)) (Ja (Jl (Jv J71 (hr.mono (by decide)) (J0 (pv 0) (J0 (pv 1) J2))))) Jz)
   (J6 (JK (Jp JO (Jr (Jg (K:=K) rfl) (pv 1) J3 (fun _ _=>rfl)) (Jk (l:=[114,117,108,101]) (by decide +kernel)) (Js _)) (Ja (Jl (Jv J7b (hr.mono (by decide)) (J0 (pv 0) (J0 (pv 1) J2))))) Jz)
   (Ja (Jl (Jv J6Y (hr.mono (by decide)) (J0 (pv 0) (J0 (pv 1) J2)))))))))),?_⟩
  walk_at "st"
  clear J7n J5n J6r J71 J7b J6Y
  cases r with
  | nd n =>
   have w1 : H wl = some (.lst [T J7w,T (numN n.day.toNat),T [n.kind],T (numN n.least.toNat),T (numN n.most.toNat)]):=hw
   obtain ⟨i0,_⟩:=at5 (T J7w) (T (numN n.day.toNat)) (T [n.kind]) (T (numN n.least.toNat)) (T (numN n.most.toNat))
   have ex : ∃ m,Rw.nd n = Rw.nd m:=⟨n,rfl⟩
   walk_at "rd"
   exact q
  | ps n =>
   have w1 : H wl = some (.lst [T J4m,T n.nm,T (dotF n.sk),T (numN n.most.toNat),T (numN n.car.toNat),T (dotF n.past)]):=hw
   obtain ⟨i0,_⟩:=at6' (T J4m) (T n.nm) (T (dotF n.sk)) (T (numN n.most.toNat)) (T (numN n.car.toNat)) (T (dotF n.past))
   have ex : ∃ m,Rw.ps n = Rw.ps m:=⟨n,rfl⟩
   walk_at "rd"
   exact q
  | lv n =>
   have w1 : H wl = some (.lst [T J59,T n.1,T (numN n.2.toNat)]):=hw
   obtain ⟨i0,_⟩:=at3' (T J59) (T n.1) (T (numN n.2.toNat))
   have ex : ∃ m,Rw.lv n = Rw.lv m:=⟨n,rfl⟩
   walk_at "rd"
   exact q
  | ws n =>
   have w1 : H wl = some (.lst [T J7B,T n.nm,T (numN n.day.toNat),T n.ms]):=hw
   obtain ⟨i0,_⟩:=at4' (T J7B) (T n.nm) (T (numN n.day.toNat)) (T n.ms)
   have ex : ∃ m,Rw.ws n = Rw.ws m:=⟨n,rfl⟩
   walk_at "rd"
   exact q
  | rt n =>
   have w1 : H wl = some (.lst (T J2M :: T n.nm :: (Jh 32 n.tx).map T)):=hw
   have i0 : atI (T J2M :: T n.nm :: (Jh 32 n.tx).map T) 0 = some (T J2M):=J3P (show (T J2M :: T n.nm :: (Jh 32 n.tx).map T)[0]? = some (T J2M) from rfl)
   have ex : ∃ m,Rw.rt n = Rw.rt m:=⟨n,rfl⟩
   walk_at "rd"
   exact q
  | pq n =>
   have w1 : H wl = some (.lst [T n.wd,T n.one,T n.two]):=hw
   obtain ⟨i0,_⟩:=at3' (T n.wd) (T n.one) (T n.two)
   have ex : ∃ m,Rw.pq n = Rw.pq m:=⟨n,rfl⟩
   obtain ⟨f1,f2,f3,f4,f5⟩ : decide (T n.wd = T [110,101,101,100]) = false ∧ decide (T n.wd = T [112,101,114,115,111,110]) = false ∧ decide (T n.wd = T [108,101,97,118,101]) = false ∧ decide (T n.wd = T [119,105,115,104]) = false ∧ decide (T n.wd = T [114,117,108,101]) = false:=by
    rcases hg.1.wd with e | e <;> rw [e] <;> exact ⟨decide_eq_false fun z=>absurd (J1M z) (by decide),decide_eq_false fun z=>absurd (J1M z) (by decide),decide_eq_false fun z=>absurd (J1M z) (by decide),decide_eq_false fun z=>absurd (J1M z) (by decide),decide_eq_false fun z=>absurd (J1M z) (by decide)⟩
   walk_at "rd"
   rw [f1]
   walk_at "rd"
   rw [f2]
   walk_at "rd"
   rw [f3]
   walk_at "rd"
   rw [f4]
   walk_at "rd"
   rw [f5]
   walk_at "rd"
   exact q
end
theorem Jd6 {α : Type} {J : It} {H : Hp} {σ0 : St} {g : TG} {tc : TT} {te : TE} {Q : VK} (xs : List α) (vs : List V) (f : α → List V) (sh : St → Prop) (hJ : J6y J H vs) (hv : vs.length = xs.length) (hx : xs.length ≤ 1000) (h0 : sh σ0)
  (step : ∀ (i : Nat) a v σ H',xs[i]? = some a → vs[i]? = some v → sh σ → Same H H' → ∀ (R : St → V → Hp → Prop) (Rf : St → Hp → Prop),(∀ σ2 p,sh σ2 → H' p = none → R σ2 (.ref p) (upd H' p (.lst (f a)))) → g v σ H' fun σ2 H2=>tc σ2 H2 fun b H3=>if b = true then te σ2 H3 (fun y H4=>R σ2 y H4) else Rf σ2 H3)
  (hQ : ∀ (D : Addr) (H' : Hp) (bs : List Addr),H D = none → Same H H' → bs.length = xs.length → (∀ (i : Nat) b a,bs[i]? = some b → xs[i]? = some a → b ≠ D ∧ H' b = some (.lst (f a))) → H' D = some (.lst (bs.map V.ref)) → Q (.ref D) H') : J7O J H σ0 g tc te Q:=by
 intro D hD
 refine ⟨fun i m σ1 ys H'=>m = xs.length - i ∧ i ≤ xs.length ∧ sh σ1 ∧ ∃ bs : List Addr,ys = bs.map V.ref ∧ bs.length = i ∧ (∀ (j : Nat) b a,bs[j]? = some b → xs[j]? = some a → b ≠ D ∧ H' b = some (.lst (f a))) ∧ H' D = some (.lst ys) ∧ Same H H',
  ⟨xs.length,by simp,Nat.zero_le _,h0,[],rfl,rfl,fun j b a hb=>by simp at hb,Je,JF hD _⟩,?_⟩
 rintro i m σ1 ys H' ⟨rfl,hi,hσ,bs,rfl,hl,hb,hDD,hs⟩
 by_cases hlt : i < xs.length
 ·refine .inr ⟨hJ.go i H' hs (by omega),fun x H'' hy=>?_⟩
  obtain ⟨e,hx'⟩:=hJ.yld i H' x H'' hs (by omega) hy
  subst e
  refine step i xs[i] x σ1 H'' (List.getElem?_eq_getElem hlt) hx' hσ hs _ _ fun σ2 p hσ2 hp=>?_
  have hs2 : Same H'' (upd H'' p (.lst (f xs[i]))):=JF hp _
  have big : (1001 : Nat) ≤ sizeLine:=by decide
  have pD : p ≠ D:=fun z=>by rw [z,hDD] at hp; cases hp
  refine ⟨hs2 _ _ hDD,by rw [List.length_map]; omega,xs.length - (i + 1),by omega,rfl,hlt,hσ2,bs ++ [p],by rw [List.map_append]; rfl,by rw [List.length_append,List.length_singleton,hl],fun j b a hbm ham=>?_,Je,(hs.trans hs2).upd hD⟩
  by_cases c : j < bs.length
  ·rw [List.getElem?_append_left c] at hbm
   obtain ⟨b1,b3⟩:=hb j b a hbm ham
   exact ⟨b1,by rw [Jj b1]; exact hs2 _ _ b3⟩
  ·have hj:=(List.getElem?_eq_some_iff.mp hbm).1
   rw [List.length_append,List.length_singleton] at hj
   have ej : j = i:=by omega
   subst ej
   rw [List.getElem?_append_right (by omega),hl,Nat.sub_self] at hbm
   have e1 : p = b:=Option.some.inj hbm
   rw [List.getElem?_eq_getElem hlt] at ham
   have e2 : xs[j] = a:=Option.some.inj ham
   subst e1 e2
   exact ⟨pD,by rw [Jj pD]; exact Je⟩
 ·have e : i = xs.length:=by omega
  subst e
  exact .inl ⟨hJ.stop H' hs |> fun z=>by rw [← hv]; exact z,hQ D H' bs hD hs hl hb hDD⟩
theorem J3G (c : Nat) : ∀ ws : List (List Nat),(JV [c] ws).length ≤ (ws.map fun w=>w.length + 1).sum
 | []=>Nat.zero_le _
 | [w]=>by simp [JV]
 | w :: v :: r=>by
  have ih:=J3G c (v :: r)
  show (w ++ [c] ++ JV [c] (v :: r)).length ≤ _
  rw [List.map_cons,List.sum_cons,List.length_append,List.length_append,List.length_singleton]
  omega
theorem JbM {n : Nat} : ∀ {l : List Nat},(∀ x ∈ l,x ≤ n) → l.sum ≤ l.length * n
 | [],_=>Nat.zero_le _
 | x :: l,h=>by
  have h1:=h x List.mem_cons_self
  have h2:=JbM fun y hy=>h y (List.mem_cons_of_mem _ hy)
  rw [List.sum_cons,List.length_cons,Nat.succ_mul]
  omega
theorem J4Q {w : List Nat} {n : Nat} (h : w.length ≤ n) (h1 : 1 ≤ n) : (dotF w).length ≤ n:=by
 unfold dotF
 split
 ·exact h1
 ·exact h
theorem num2 {i : Int} (h1 : i < 100) : (numN i.toNat).length ≤ 2:=J4G (k:=1) (by show i.toNat < 10 ^ 2; omega)
theorem Jfa {h : Hs} (b : HsB h) : ∀ {r : Rw},JaU h r → (rowT r.wds).length ≤ 390
 | .nd n,g=>by
  have h1:=J3G 32 (Rw.nd n).wds
  have:=num2 (i:=n.day) (by have:=g.1.d1; have:=b.d1; omega)
  have:=num2 (i:=n.least) (by have:=g.1.l1; have:=g.1.h; omega)
  have:=num2 (i:=n.most) (by have:=g.1.h; omega)
  simp only [Rw.wds,List.map_cons,List.map_nil,List.sum_cons,List.sum_nil,List.length_cons,List.length_nil] at h1
  unfold rowT
  simp only [Rw.wds]
  omega
 | .ps n,g=>by
  have h1:=J3G 32 (Rw.ps n).wds
  have:=num2 (i:=n.most) (by have:=g.1.m1; omega)
  have : (numN n.car.toNat).length ≤ 40:=J4G (k:=39) (by show n.car.toNat < 10 ^ 40; have:=g.1.c1; have:=g.1.c0; omega)
  have:=g.1.n1
  have:=J4Q (n:=4) (Nat.le_trans (J2r g.1.sn g.1.sk) b.k1) (by decide)
  have:=J4Q (n:=6) g.1.p1 (by decide)
  simp only [Rw.wds,List.map_cons,List.map_nil,List.sum_cons,List.sum_nil,List.length_cons,List.length_nil] at h1
  unfold rowT
  simp only [Rw.wds]
  omega
 | .lv l,g=>by
  have h1:=J3G 32 (Rw.lv l).wds
  have:=num2 (i:=l.2) (by have:=g.1.d1; have:=b.d1; omega)
  have : l.1.length ≤ 8:=by
   obtain ⟨n,hn,e⟩:=List.mem_map.mp g.1.nm
   rw [← e]
   exact (b.pg n hn).n1
  simp only [Rw.wds,List.map_cons,List.map_nil,List.sum_cons,List.sum_nil,List.length_cons,List.length_nil] at h1
  unfold rowT
  simp only [Rw.wds]
  omega
 | .ws v,g=>by
  have h1:=J3G 32 (Rw.ws v).wds
  have:=num2 (i:=v.day) (by have:=g.1.d1; have:=b.d1; omega)
  have : v.nm.length ≤ 8:=by
   obtain ⟨n,hn,e⟩:=List.mem_map.mp g.1.nm
   rw [← e]
   exact (b.pg n hn).n1
  have h5:=J2r g.1.mn g.1.ms
  rw [List.length_append,List.length_singleton] at h5
  have:=b.k1
  simp only [Rw.wds,List.map_cons,List.map_nil,List.sum_cons,List.sum_nil,List.length_cons,List.length_nil] at h1
  unfold rowT
  simp only [Rw.wds]
  omega
 | .rt a,g=>by
  have hn : a.nm.length ≤ 8:=by
   rcases g.1.nm with e | e
   ·rw [e]; decide
   ·obtain ⟨n,hn,e⟩:=List.mem_map.mp e
    rw [← e]
    exact (b.pg n hn).n1
  have hl:=g.1.tx.ln
  unfold rowT
  obtain ⟨x,t,eq⟩:=J0z 32 a.tx
  have e:=J5Q 32 a.tx
  show (JV [32] (J2M :: a.nm :: Jh 32 a.tx)).length ≤ 390
  rw [eq] at e ⊢
  show (J2M ++ [32] ++ (a.nm ++ [32] ++ JV [32] (x :: t))).length ≤ 390
  rw [e]
  simp only [List.length_append,List.length_cons,List.length_nil]
  omega
 | .pq p,g=>by
  have h1:=J3G 32 (Rw.pq p).wds
  have nl : ∀ w : List Nat,w ∈ h.nms → w.length ≤ 8:=fun w hw=>by
   obtain ⟨n,hn,e⟩:=List.mem_map.mp hw
   rw [← e]
   exact (b.pg n hn).n1
  have:=nl _ g.1.one
  have:=nl _ g.1.two
  have : p.wd.length ≤ 5:=by rcases g.1.wd with e | e <;> rw [e] <;> decide
  simp only [Rw.wds,List.map_cons,List.map_nil,List.sum_cons,List.sum_nil,List.length_cons,List.length_nil] at h1
  unfold rowT
  simp only [Rw.wds]
  omega
theorem Jep : ∀ {rs : List Rw} {h : Hs} {lat : Int},J3m h lat rs → ∀ r ∈ rs,(rowT r.wds).length ≤ 390
 | r :: rs,h,lat,g,r',hr=>by
  rcases List.mem_cons.mp hr with rfl | hr
  ·exact Jfa g.1 g.2.1
  ·exact Jep g.2.2.2 r' hr
theorem J4V {h : Hs} (g : HsG h) : (JN h).length ≤ 246 ∧ ∀ l ∈ JN h,(rowT l).length ≤ 390:=by
 constructor
 ·have b:=g.b
  have:=b.nl
  have:=b.pl
  have:=b.ll
  have:=b.wl
  have:=b.rl
  have:=b.ql
  unfold JN J2Q
  simp only [List.length_cons,List.length_map,List.length_append]
  omega
 ·intro l hl
  unfold JN at hl
  rcases List.mem_cons.mp hl with rfl | hl
  ·have:=num2 (i:=h.d) (by have:=g.b.d1; omega)
   show (J7T ++ [32] ++ numN h.d.toNat).length ≤ 390
   simp only [List.length_append,List.length_cons,List.length_nil]
   omega
  rcases List.mem_cons.mp hl with rfl | hl
  ·have:=g.b.k1
   show (J5c ++ [32] ++ h.ks).length ≤ 390
   simp only [List.length_append,List.length_cons,List.length_nil]
   omega
  ·obtain ⟨r,hr,rfl⟩:=List.mem_map.mp hl
   exact Jep (JbG g) r hr
theorem JeL {h : Hs} (g : HsG h) : (J6u h).length ≤ 100000:=by
 obtain ⟨h1,h2⟩:=J4V g
 have h3:=J3G 10 ((JN h).map rowT)
 have h4:=JbM (n:=391) (l:=((JN h).map rowT).map fun w=>w.length + 1) fun x hx=>by
  obtain ⟨w,hw,rfl⟩:=List.mem_map.mp hx
  obtain ⟨l,hl,rfl⟩:=List.mem_map.mp hw
  have:=h2 l hl
  show (rowT l).length + 1 ≤ 391
  omega
 rw [List.length_map,List.length_map] at h4
 unfold J6u
 have : (JN h).length * 391 ≤ 246 * 391:=Nat.mul_le_mul_right _ h1
 omega
theorem JeK {h : Hs} : ∀ {r : Rw},JaU h r → ∃ w0 wr,r.wds = w0 :: wr ∧ J3o [([110,101,101,100],0),([112,101,114,115,111,110],1),([108,101,97,118,101],2),([119,105,115,104],3),([114,117,108,101],4),([97,112,97,114,116],5),([119,105,116,104],5)] w0 = some r.plc
 | .nd n,_=>⟨J7w,_,rfl,show J3o _ J7w = some 0 by decide⟩
 | .ps n,_=>⟨J4m,_,rfl,show J3o _ J4m = some 1 by decide⟩
 | .lv n,_=>⟨J59,_,rfl,show J3o _ J59 = some 2 by decide⟩
 | .ws n,_=>⟨J7B,_,rfl,show J3o _ J7B = some 3 by decide⟩
 | .rt n,_=>⟨J2M,_,rfl,show J3o _ J2M = some 4 by decide⟩
 | .pq n,g=>by
  refine ⟨n.wd,[n.one,n.two],rfl,?_⟩
  rcases g.1.wd with e | e
  ·rw [e]
   exact (show J3o _ JeE = some 5 by decide)
  ·rw [e]
   exact (show J3o _ JfN = some 5 by decide)
noncomputable def Jf1 (C1 C2 : Addr) (c : Cs) : Sp:=fun vs H Q _=>∃ h : Hs,vs = [T (J6u h)] ∧ HsG h ∧ ∀ (hh : Addr) (a : Ad) (H' : Hp),Same H H' → HSt C1 C2 c H' hh a h → Q (.ref hh) H'
section
variable {P : Program} {w : World} {K : PySem.W.Frag} {mg : Str → Option Value} {base : Heap} {J9 Jd J8 Jb J5 Ji J4 J1 : Addr}
theorem J9i (tx : Tx K mg J9 Jd J8 Jb J5 Ji J4 J1) : FnG P w K mg base "read_house" 70 ["text"] (Jf1 J4 J1 (cs6 J9 Jd J8 Jb J5 Ji J4 J1)):=by
 have J50:=J7Z (P:=P) (w:=w) (base:=base) tx
 have J4z:=J7q (P:=P) (w:=w) (base:=base) tx
 have JA:=J0K (P:=P) (w:=w) (base:=base) tx
 have J8i:=Jct (P:=P) (w:=w) (base:=base) tx
 have J5y:=tx.JW.g (J5q (P:=P) (w:=w) (base:=base) tx)
 refine tx.J8Y.g J0F (fun _ _ _ _ _ _ us hl=>match us,hl with | [_],_=>rfl) (fun vs H Q E h=>?_) (fun f cdv A outer s H vs Q E hr h=>?_)
 ·obtain ⟨h,rfl,_⟩:=h
  rfl
 ·obtain ⟨h,rfl,g,q⟩:=h
  refine ⟨_,(J6 (J9G (k:=1) (osc:=J7 J0X) (ON:=["text","rows","house","latest","line","place"]) (N:=["row"]) (js:=[none]) J0F.nd rfl (Or.inl rfl) ⟨rfl,by decide +kernel,by decide +kernel,by decide +kernel,rfl,by decide +kernel⟩ rfl rfl rfl (J02 (K:=K) rfl (J6a (K:=K) rfl (pv 0) (J0 (Jk (l:=[10]) (by decide +kernel)) J2))) (fun _ _ _ _ _=>Ju (i:=0) (show List.Nodup (["row"] : List Str) from by decide +kernel) rfl (Or.inl rfl)) (fun _ _ _ _ _=>J0q) (fun _ _ _ _ _=>(J6a (K:=K) rfl (pv 0) (J0 (Jk (l:=[32]) (by decide +kernel)) J2))))
   (J6 (JK (J0t (J0u (Jv J50 (hr.mono (by decide)) (J0 (Jr (Jg (K:=K) rfl) (pv 1) J3 (fun _ _=>rfl)) J2)))) (Ja J4I) Jz)
   (J6 (JK (PW.pt (J1O (Jp JO (Jx (JE (K:=K) rfl) rfl tx.JS PySem.boot_len (J0 (pv 1) J2)) J3 (Js _)) (J1q (J0t (J0u (Jv J4z (hr.mono (by decide)) (J0 (Jr (Jg (K:=K) rfl) (pv 1) J3 (fun _ _=>rfl)) J2))))))) (Ja J4I) Jz)
   (J6 (Jw (i:=2) J0F.nd rfl (Or.inl rfl) (J3U (r:=rHou J1) J5y (hr.mono (by decide)) Jet (J0 (Jv JA (hr.mono (by decide)) (J0 (Jr (Jg (K:=K) rfl) (Jr (Jg (K:=K) rfl) (pv 1) J3 (fun _ _=>rfl)) J3 (fun _ _=>rfl)) J2)) (J0 (Jr (Jg (K:=K) rfl) (Jr (Jg (K:=K) rfl) (pv 1) J3 (fun _ _=>rfl)) J3 (fun _ _=>rfl)) (J0 (J0d J2) (J0 (J0d J2) (J0 (J0d J2) (J0 (J0d J2) (J0 (J0d J2) (J0 (J0d J2) J2))))))))))
   (J6 (Jw (i:=3) J0F.nd rfl (Or.inl rfl) J3)
   (J6 (J2J PassesOwn.never rfl (Jd0 rfl tx.J1x (J0 J3 (J0 (Jx (JE (K:=K) rfl) rfl tx.JS PySem.boot_len (J0 (pv 1) J2)) J2))) (Ju (i:=4) J0F.nd rfl (Or.inl rfl)) (J6 (Jw (i:=5) J0F.nd rfl (Or.inl rfl) (Jf8 (K:=K) (D:=[([110,101,101,100],0),([112,101,114,115,111,110],1),([108,101,97,118,101],2),([119,105,115,104],3),([114,117,108,101],4),([97,112,97,114,116],5),([119,105,116,104],5)]) rfl rfl tx.Jdq (J0 (Jr (Jg (K:=K) rfl) (Jr (Jg (K:=K) rfl) (pv 1) (pv 4) (fun _ _=>rfl)) J3 (fun _ _=>rfl)) (J0 (J6x J4A J3) J2))))
   (J6 (JK (PW.pt (J1O (Jp J7K (pv 5) (pv 3) (Js _)) (J1q (J0t (J0u (Jv J8i (hr.mono (by decide)) (J0 (pv 2) (J0 (Jr (Jg (K:=K) rfl) (pv 1) (pv 4) (fun _ _=>rfl)) J2)))))))) (Ja J4I) Jz)
   (Ja (Jw (i:=3) J0F.nd rfl (Or.inl rfl) (pv 5))))))
   (Ja (Jl (pv 2))))))))),?_⟩
  walk_at "st"
  clear J50 J4z JA J8i J5y
  have hlen:=JeL g
  have esp:=JbL g
  obtain ⟨ll,lrow⟩:=J4V g
  walk_at "rd"
  intro p hp
  rw [esp]
  obtain ⟨H1,e1,hp1,s1⟩:=newl (xs:=((JN h).map rowT).map T) hp
  rw [← e1]
  walk_at "rd"
  refine Jd6 (JN h) (((JN h).map rowT).map T) (fun l=>l.map T) (fun σ=>∃ v,σ = [v]) (J0L (SqL.of hp1)) (by rw [List.length_map,List.length_map]) (by omega) ⟨_,rfl⟩ (fun i l v σ H' hl hv hσ s' R Rf hR=>?_) (fun D H2 bs nD s2 hbl hbs hD=>?_)
  ·obtain ⟨w1,rfl⟩:=hσ
   have hlm:=List.mem_of_getElem? hl
   have ev : v = T (rowT l):=by
    rw [List.getElem?_map,List.getElem?_map,hl] at hv
    exact (Option.some.inj hv).symm
   subst ev
   have hrl2 : (rowT l).length ≤ 100000:=by have:=lrow l hlm; omega
   walk_at "rd"
   intro p2 hp2
   rw [Jd2 g hlm]
   exact hR _ p2 ⟨_,rfl⟩ hp2
  obtain ⟨b0,b1,br,rfl⟩ : ∃ b0 b1 br,bs = b0 :: b1 :: br:=by
   have : (JN h).length = (J2Q h).length + 2:=by unfold JN; simp
   match bs,hbl with
   | b0 :: b1 :: br,_=>exact ⟨b0,b1,br,rfl⟩
   | [],e=>exact absurd e (by rw [List.length_nil]; omega)
   | [_],e=>exact absurd e (by rw [List.length_singleton]; omega)
  have hbr : br.length = (J2Q h).length:=by
   have : (JN h).length = (J2Q h).length + 2:=by unfold JN; simp
   rw [List.length_cons,List.length_cons] at hbl
   omega
  have wd2 : H2 b0 = some (.lst [T J7T,T (numN h.d.toNat)]):=(hbs 0 b0 _ rfl rfl).2
  have wk2 : H2 b1 = some (.lst [T J5c,T h.ks]):=(hbs 1 b1 _ rfl rfl).2
  have hD' : H2 D = some (.lst (V.ref b0 :: V.ref b1 :: br.map V.ref)):=hD
  have r0 : atI (V.ref b0 :: V.ref b1 :: br.map V.ref) 0 = some (.ref b0):=J3P (show (V.ref b0 :: V.ref b1 :: br.map V.ref)[0]? = some (.ref b0) from rfl)
  have r1 : atI (V.ref b0 :: V.ref b1 :: br.map V.ref) 1 = some (.ref b1):=J3P (show (V.ref b0 :: V.ref b1 :: br.map V.ref)[1]? = some (.ref b1) from rfl)
  obtain ⟨i0,i1⟩:=at2' (T J7T) (T (numN h.d.toNat))
  obtain ⟨k0,k1⟩:=at2' (T J5c) (T h.ks)
  have bd0:=g.b.d0
  have bd1:=g.b.d1
  have n0 : 1 ≤ h.d.toNat:=by omega
  have n1 : h.d.toNat ≤ 14:=by omega
  have n2:=J7H (i:=h.d) (by omega)
  have q0:=g.b.k0
  have q1:=g.b.k1
  have q2:=g.b.kc
  have q3:=g.b.kn
  have dl : decide (V.int ((V.ref b0 :: V.ref b1 :: br.map V.ref).length : Int) = V.int 1) = false:=decide_eq_false fun z=>by
   injection z with z
   rw [List.length_cons,List.length_cons] at z
   omega
  walk_at "rd"
  intro H3 s3
  have hD3:=s3 _ _ hD'
  have wk3:=s3 _ _ wk2
  have wd3:=s3 _ _ wd2
  walk_at "rd"
  intro H4 s4
  have hD4:=s4 _ _ hD3
  have wk4:=s4 _ _ wk3
  have wd4:=s4 _ _ wd3
  walk_at "rd"
  intro H5 s5
  have hD5:=s5 _ _ hD4
  have wk5:=s5 _ _ wk4
  walk_at "rd"
  intro l1 nl1
  obtain ⟨Hl1,el1,hl1,sl1⟩:=newl (xs:=[]) nl1
  rw [← el1]
  walk_at "rd"
  intro l2 nl2
  obtain ⟨Hl2,el2,hl2,sl2⟩:=newl (xs:=[]) nl2
  rw [← el2]
  walk_at "rd"
  intro l3 nl3
  obtain ⟨Hl3,el3,hl3,sl3⟩:=newl (xs:=[]) nl3
  rw [← el3]
  walk_at "rd"
  intro l4 nl4
  obtain ⟨Hl4,el4,hl4,sl4⟩:=newl (xs:=[]) nl4
  rw [← el4]
  walk_at "rd"
  intro l5 nl5
  obtain ⟨Hl5,el5,hl5,sl5⟩:=newl (xs:=[]) nl5
  rw [← el5]
  walk_at "rd"
  intro l6 nl6
  obtain ⟨Hl6,el6,hl6,sl6⟩:=newl (xs:=[]) nl6
  rw [← el6]
  have hl1':=(((((sl2.trans sl3).trans sl4).trans sl5).trans sl6)) _ _ hl1
  have hl2':=((((sl3.trans sl4).trans sl5).trans sl6)) _ _ hl2
  have hl3':=(((sl4.trans sl5).trans sl6)) _ _ hl3
  have hl4':=((sl5.trans sl6)) _ _ hl4
  have hl5':=sl6 _ _ hl5
  have s56:=((((sl1.trans sl2).trans sl3).trans sl4).trans sl5).trans sl6
  walk_at "rd"
  intro hh H7 a1 a2 a3 a4 a5 a6 s7 hou c1 c2 c3 c4 c5 c6 m1 m2 m3 m4 m5 m6 ds
  have hst : HSt J4 J1 (cs6 J9 Jd J8 Jb J5 Ji J4 J1) H7 hh ⟨a1,a2,a3,a4,a5,a6⟩ h.bare:=by
   rw [show ((h.d.toNat : Nat) : Int) = h.d by omega] at hou
   exact ⟨hou,ds,⟨[],c1,trivial⟩,⟨[],c2,trivial⟩,⟨[],c3,trivial⟩,⟨[],c4,trivial⟩,⟨[],c5,trivial⟩,⟨[],c6,trivial⟩⟩
  have t27:=(((s3.trans s4).trans s5).trans s56).trans s7
  have hD7:=t27 _ _ hD'
  have t6:=(((s1.trans s2).trans ((s3.trans s4).trans s5)).trans s56)
  have len7 : ((V.ref b0 :: V.ref b1 :: br.map V.ref).length : Int) - 2 = ((J2Q h).length : Int):=by
   rw [List.length_cons,List.length_cons,List.length_map,hbr]
   omega
  have hlb : (V.ref b0 :: V.ref b1 :: br.map V.ref).length ≤ 1000:=by
   rw [List.length_cons,List.length_cons,List.length_map,hbr]
   have : (JN h).length = (J2Q h).length + 2:=by unfold JN; simp
   omega
  have t2l:=((s3.trans s4).trans s5).trans s56
  clear hbl hD hD3 hD4 hD5 hl1 hl2 hl3 hl4 hl5 hl6 hl1' hl2' hl3' hl4' hl5' el1 el2 el3 el4 el5 el6 nl1 nl2 nl3 nl4 nl5 nl6 sl1 sl2 sl3 sl4 sl5 sl6 wk2 wk3 wk4 wk5 wd2 wd3 wd4 e1 hp1
  walk_at "rd"
  refine J4S (fun i σ H8=>Here (∃ lat v4 v5 st,σ = [some (T (J6u h)),some (.ref D),some (.ref hh),some (.int lat),v4,v5] ∧ HSt J4 J1 (cs6 J9 Jd J8 Jb J5 Ji J4 J1) H8 hh ⟨a1,a2,a3,a4,a5,a6⟩ st ∧ J3m st lat ((J2Q h).drop i) ∧ st.puts ((J2Q h).drop i) = h ∧ Same Hl6 H8)) (Here.mk ⟨0,none,none,h.bare,rfl,hst,JbG g,Jdz h,s7⟩) ?_ ?_
  ·rintro i σ H8 hi hv
   obtain ⟨lat,v4,v5,st,rfl,hs8,G,hP,s8⟩:=hv.out
   have hir : i < (J2Q h).length:=by omega
   have hr : (J2Q h)[i]? = some (J2Q h)[i]:=List.getElem?_eq_getElem hir
   rw [List.drop_eq_getElem_cons hir] at G hP
   generalize (J2Q h)[i] = r at G hP hr
   obtain ⟨G1,G2,G3,G4⟩:=G
   have hbb : br[i]? = some (br[i]'(by omega)):=List.getElem?_eq_getElem (by omega)
   generalize br[i]'(by omega) = b at hbb
   have hrow : H2 b = some (.lst (r.wds.map T)):=(hbs (i + 2) b r.wds hbb (by unfold JN; show ((J2Q h).map Rw.wds)[i]? = _; rw [List.getElem?_map,hr]; rfl)).2
   have hrow8:=s8 _ _ (t2l _ _ hrow)
   have hD8:=s8 _ _ (t2l _ _ hD')
   have ati : atI (V.ref b0 :: V.ref b1 :: br.map V.ref) (2 + (i : Int)) = some (.ref b):=by
    have:=J3P (show (V.ref b0 :: V.ref b1 :: br.map V.ref)[i + 2]? = some (.ref b) from by show (br.map V.ref)[i]? = _; rw [List.getElem?_map,hbb]; rfl)
    rwa [show ((i + 2 : Nat) : Int) = 2 + (i : Int) by omega] at this
   obtain ⟨w0,wr,ew,elk⟩:=JeK G2
   have hrow8' : H8 b = some (.lst (T w0 :: wr.map T)):=by rw [hrow8,ew]; rfl
   have at0' : atI (T w0 :: wr.map T) 0 = some (T w0):=J3P (show (T w0 :: wr.map T)[0]? = some (T w0) from rfl)
   have dpl : decide (r.plc < lat) = false:=decide_eq_false (by omega)
   walk_at "rd"
   rw [dpl]
   walk_at "rd"
   refine ⟨trivial,?_⟩
   intro H9 hs9 but9
   have s9 : Same Hl6 H9:=fun c o e=>but9 c o (Jc e m1) (Jc e m2) (Jc e m3) (Jc e m4) (Jc e m5) (Jc e m6) (s8 _ _ e)
   walk_at "rd"
   exact Here.mk ⟨r.plc,_,_,st.put r,rfl,hs9,G4,hP,s9⟩
  ·rintro σ H8 hv
   obtain ⟨lat,v4,v5,st,rfl,hs8,G,hP,s8⟩:=hv.out
   rw [List.drop_of_length_le (by omega)] at hP
   have hP' : st = h:=hP
   rw [hP'] at hs8
   walk_at "rd"
   exact q hh _ H8 (t6.trans s8) hs8
end
theorem s8a (x1 x2 x3 x4 x5 x6 x7 x8 : V) : ¬ (HT.sIx [x1,x2,x3,x4,x5,x6,x7,x8].length 0 none = 0 ∧ HT.sIx [x1,x2,x3,x4,x5,x6,x7,x8].length [x1,x2,x3,x4,x5,x6,x7,x8].length (some 4) = [x1,x2,x3,x4,x5,x6,x7,x8].length):=show ¬ (HT.sIx 8 0 none = 0 ∧ HT.sIx 8 8 (some 4) = 8) from by decide
theorem s8b (x1 x2 x3 x4 x5 x6 x7 x8 : V) : ¬ (HT.sIx [x1,x2,x3,x4,x5,x6,x7,x8].length 0 (some 4) = 0 ∧ HT.sIx [x1,x2,x3,x4,x5,x6,x7,x8].length [x1,x2,x3,x4,x5,x6,x7,x8].length none = [x1,x2,x3,x4,x5,x6,x7,x8].length):=show ¬ (HT.sIx 8 0 (some 4) = 0 ∧ HT.sIx 8 8 none = 8) from by decide
theorem c8a (x1 x2 x3 x4 x5 x6 x7 x8 : V) : cutV [x1,x2,x3,x4,x5,x6,x7,x8] none (some 4) = [x1,x2,x3,x4]:=rfl
theorem c8b (x1 x2 x3 x4 x5 x6 x7 x8 : V) : cutV [x1,x2,x3,x4,x5,x6,x7,x8] (some 4) none = [x5,x6,x7,x8]:=rfl
noncomputable def rT (l : List (List Nat)) : V:=T (rowT l)
noncomputable def J1r (n : Int) (a : Rt) : Rt:=⟨a.nm,a.r,if n = 0 then a.tx else a.r.tx⟩
noncomputable def Hs.pick (n : Int) (h : Hs) : Hs:={ h with rts:=h.rts.map (J1r n) }
theorem J6f {h : Hs} (g : HsG h) (hx : ∀ a ∈ h.rts,TxR a.r a.r.tx) (n : Int) : HsG (h.pick n):=by
 obtain ⟨b,q1,q2,q3,q4,q5,q6,q7⟩:=g
 refine ⟨b.of rfl rfl (Nat.le_refl _) (Nat.le_refl _) (fun _ hn=>hn) (Nat.le_refl _) (Nat.le_refl _) (by show (h.rts.map (J1r n)).length ≤ _; rw [List.length_map]; exact Nat.le_refl _) (Nat.le_refl _),q1,q2,q3,q4,q5,fun a ha=>?_,q7⟩
 obtain ⟨a',ha',rfl⟩:=List.mem_map.mp ha
 refine ⟨(q6 a' ha').nm,?_⟩
 show TxR a'.r (if n = 0 then a'.tx else a'.r.tx)
 split
 ·exact (q6 a' ha').tx
 ·exact hx a' ha'
theorem J3z {α β : Type} {l : List α} {i : Nat} {a : α} (f : α → β) (h : l[i]? = some a) : (l.take (i + 1)).map f = (l.take i).map f ++ [f a]:=by
 rw [List.take_add_one,h,List.map_append]
 rfl
theorem J49 {α β : Type} {l : List α} {i : Nat} (f : α → β) (h : i = l.length) : (l.take i).map f = l.map f:=by
 rw [h,List.take_of_length_le (Nat.le_refl _)]
noncomputable def Jdt : Sp:=fun vs H Q _=>∃ (t : Addr) (h : Hs) (n : Int),vs = [.ref t,.int n] ∧ PtAt H t h ∧ HsG h ∧ (∀ a ∈ h.rts,TxR a.r a.r.tx) ∧ (n = 0 ∨ n = 1) ∧ ∀ D H',Same H H' → H' D = some (.lst ((JN (h.pick n)).map rT)) → Q (.ref D) H'
noncomputable def Jdw : Sp:=fun vs H Q _=>∃ v,vs = [T v] ∧ Q (T (dotF v)) H
theorem J4P {A : List (List (List Nat))} {l : List (List Nat)} {t : List Nat} (e : t = rowT l) : A.map rT ++ [T t] = (A ++ [l]).map rT:=by
 rw [List.map_append,e]
 rfl
theorem JaS (a : Rt) : rowT (Rw.rt a).wds = [114,117,108,101,32] ++ a.nm ++ [32] ++ a.tx:=by
 obtain ⟨x,t,eq⟩:=J0z 32 a.tx
 have e:=J5Q 32 a.tx
 show JV [32] (J2M :: a.nm :: Jh 32 a.tx) = _
 rw [eq] at e ⊢
 show J2M ++ [32] ++ (a.nm ++ [32] ++ JV [32] (x :: t)) = _
 rw [e]
 simp
noncomputable def ac0 (h : Hs) : List (List (List Nat)):=[[J7T,numN h.d.toNat],[J5c,h.ks]]
noncomputable def ac1 (h : Hs) : List (List (List Nat)):=ac0 h ++ h.nds.map fun n=>(Rw.nd n).wds
noncomputable def ac2 (h : Hs) : List (List (List Nat)):=ac1 h ++ h.ps.map fun n=>(Rw.ps n).wds
noncomputable def ac3 (h : Hs) : List (List (List Nat)):=ac2 h ++ h.ls.map fun n=>(Rw.lv n).wds
noncomputable def ac4 (h : Hs) : List (List (List Nat)):=ac3 h ++ h.ws.map fun n=>(Rw.ws n).wds
noncomputable def ac5 (n : Int) (h : Hs) : List (List (List Nat)):=ac4 h ++ h.rts.map fun a=>(Rw.rt (J1r n a)).wds
noncomputable def ac6 (n : Int) (h : Hs) : List (List (List Nat)):=ac5 n h ++ h.prs.map fun n=>(Rw.pq n).wds
theorem JeP (n : Int) (h : Hs) : ac6 n h = JN (h.pick n):=by
 unfold ac6 ac5 ac4 ac3 ac2 ac1 ac0 JN J2Q Hs.pick
 simp only [List.map_append,List.map_map,List.append_assoc]
 rfl
theorem JdL {h : Hs} (b : HsB h) (n : Int) : (ac0 h).length ≤ 2 ∧ (ac1 h).length ≤ 102 ∧ (ac2 h).length ≤ 110 ∧ (ac3 h).length ≤ 170 ∧ (ac4 h).length ≤ 230 ∧ (ac5 n h).length ≤ 238:=by
 have:=b.nl
 have:=b.pl
 have:=b.ll
 have:=b.wl
 have:=b.rl
 unfold ac5 ac4 ac3 ac2 ac1 ac0
 simp only [List.length_append,List.length_map,List.length_cons,List.length_nil]
 omega
theorem lt41 {i : Int} (h : i < 100) : i < 10 ^ 41:=Int.lt_trans h (by decide)
section
variable {P : Program} {w : World} {K : PySem.W.Frag} {mg : Str → Option Value} {base : Heap} {J9 Jd J8 Jb J5 Ji J4 J1 : Addr}
theorem J7a (tx : Tx K mg J9 Jd J8 Jb J5 Ji J4 J1) : FnG P w K mg base "_law_or_point" 1 ["_law_signs"] Jdw:=by
 refine tx.J6X.g J6D (fun _ _ _ _ _ _ us hl=>match us,hl with | [_],_=>rfl) (fun vs H Q E h=>?_) (fun f cdv A outer s H vs Q E hr h=>?_)
 ·obtain ⟨v,rfl,_⟩:=h
  rfl
 ·obtain ⟨v,rfl,q⟩:=h
  refine ⟨_,(J6 (JK (Jp JO (pv 0) (Jk (l:=[]) (by decide +kernel)) (Js _)) (Ja (Jl (Jk (l:=[46]) (by decide +kernel)))) Jz)
   (Ja (Jl (pv 0)))),?_⟩
  walk_at "st"
  walk_at "rd"
  refine ite2 (fun c=>?_) (fun c=>?_)
  ·have c' : v = []:=J1M (of_decide_eq_true c)
   unfold dotF at q
   rw [if_pos c'] at q
   walk_at "rd"
   exact q
  ·have c' : ¬ v = []:=fun z=>c (decide_eq_true (by rw [z]))
   unfold dotF at q
   rw [if_neg c'] at q
   walk_at "rd"
   exact q
end
section
variable {P : Program} {w : World} {K : PySem.W.Frag} {mg : Str → Option Value} {base : Heap} {J9 Jd J8 Jb J5 Ji J4 J1 : Addr}
theorem Jag (tx : Tx K mg J9 Jd J8 Jb J5 Ji J4 J1) : FnG P w K mg base "_law_lines" 2 ["_law_parts_here","_law_normal"] Jdt:=by
 have J3A:=J7a (P:=P) (w:=w) (base:=base) tx
 refine tx.Jad.g Jt (fun _ _ _ _ _ _ us hl=>match us,hl with | [_,_],_=>rfl) (fun vs H Q E h=>?_) (fun f cdv A outer s H vs Q E hr h=>?_)
 ·obtain ⟨t,h,n,rfl,_⟩:=h
  rfl
 ·obtain ⟨t,h,n,rfl,hp,g,hx,hn,q⟩:=h
  refine ⟨_,(J6 (Jbt (J08 JdJ (pv 0) J0M (J0c J3)) (J3H rfl (JB (Ju (i:=2) Jt.nd rfl (Or.inl rfl)) (JB (Ju (i:=3) Jt.nd rfl (Or.inl rfl)) (JB (Ju (i:=4) Jt.nd rfl (Or.inl rfl)) (JB (Ju (i:=5) Jt.nd rfl (Or.inl rfl)) J1f))))))
   (J6 (Jbt (J08 JdJ (pv 0) (J0c J3) J0M) (J3H rfl (JB (Ju (i:=6) Jt.nd rfl (Or.inl rfl)) (JB (Ju (i:=7) Jt.nd rfl (Or.inl rfl)) (JB (Ju (i:=8) Jt.nd rfl (Or.inl rfl)) (JB (Ju (i:=9) Jt.nd rfl (Or.inl rfl)) J1f))))))
   (J6 (Jw (i:=10) Jt.nd rfl (Or.inl rfl) (J0d (J0 (Jf Jn (Jk (l:=[100,97,121,115,32]) (by decide +kernel)) (JG J0b rfl tx.J3f J0o (J0 (pv 2) J2))) (J0 (Jf Jn (Jk (l:=[107,105,110,100,115,32]) (by decide +kernel)) (pv 3)) J2))))
   (J6 (J2J PassesOwn.never rfl (J02 (K:=K) rfl (pv 4)) (J3H rfl (JB (Ju (i:=11) Jt.nd rfl (Or.inl rfl)) (JB (Ju (i:=12) Jt.nd rfl (Or.inl rfl)) (JB (Ju (i:=13) Jt.nd rfl (Or.inl rfl)) (JB (Ju (i:=14) Jt.nd rfl (Or.inl rfl)) J1f))))) (Ja (J0i (J20 PySem.F.plainAttrs_list PySem.F.slot_list_append PySem.F.type_list_append JP (pv 10) (J0 (Jf Jn (Jf Jn (Jf Jn (Jf Jn (Jf Jn (Jf Jn (Jf Jn (Jk (l:=[110,101,101,100,32]) (by decide +kernel)) (JG J0b rfl tx.J3f J0o (J0 (pv 11) J2))) (Jk (l:=[32]) (by decide +kernel))) (pv 12)) (Jk (l:=[32]) (by decide +kernel))) (JG J0b rfl tx.J3f J0o (J0 (pv 13) J2))) (Jk (l:=[32]) (by decide +kernel))) (JG J0b rfl tx.J3f J0o (J0 (pv 14) J2))) J2)))))
   (J6 (J2J PassesOwn.never rfl (J02 (K:=K) rfl (pv 5)) (J3H rfl (JB (Ju (i:=15) Jt.nd rfl (Or.inl rfl)) (JB (Ju (i:=16) Jt.nd rfl (Or.inl rfl)) (JB (Ju (i:=14) Jt.nd rfl (Or.inl rfl)) (JB (Ju (i:=17) Jt.nd rfl (Or.inl rfl)) (JB (Ju (i:=18) Jt.nd rfl (Or.inl rfl)) J1f)))))) (J6 (Jw (i:=19) Jt.nd rfl (Or.inl rfl) (Jf Jn (Jf Jn (Jf Jn (Jf Jn (Jf Jn (Jk (l:=[112,101,114,115,111,110,32]) (by decide +kernel)) (pv 15)) (Jk (l:=[32]) (by decide +kernel))) (Jv J3A (hr.mono (by decide)) (J0 (pv 16) J2))) (Jk (l:=[32]) (by decide +kernel))) (JG J0b rfl tx.J3f J0o (J0 (pv 14) J2))))
   (Ja (J0i (J20 PySem.F.plainAttrs_list PySem.F.slot_list_append PySem.F.type_list_append JP (pv 10) (J0 (Jf Jn (Jf Jn (Jf Jn (Jf Jn (pv 19) (Jk (l:=[32]) (by decide +kernel))) (JG J0b rfl tx.J3f J0o (J0 (pv 17) J2))) (Jk (l:=[32]) (by decide +kernel))) (Jv J3A (hr.mono (by decide)) (J0 (pv 18) J2))) J2))))))
   (J6 (J2J PassesOwn.never rfl (J02 (K:=K) rfl (pv 6)) (J3H rfl (JB (Ju (i:=15) Jt.nd rfl (Or.inl rfl)) (JB (Ju (i:=11) Jt.nd rfl (Or.inl rfl)) J1f))) (Ja (J0i (J20 PySem.F.plainAttrs_list PySem.F.slot_list_append PySem.F.type_list_append JP (pv 10) (J0 (Jf Jn (Jf Jn (Jf Jn (Jk (l:=[108,101,97,118,101,32]) (by decide +kernel)) (pv 15)) (Jk (l:=[32]) (by decide +kernel))) (JG J0b rfl tx.J3f J0o (J0 (pv 11) J2))) J2)))))
   (J6 (J2J PassesOwn.never rfl (J02 (K:=K) rfl (pv 7)) (J3H rfl (JB (Ju (i:=15) Jt.nd rfl (Or.inl rfl)) (JB (Ju (i:=11) Jt.nd rfl (Or.inl rfl)) (JB (Ju (i:=20) Jt.nd rfl (Or.inl rfl)) J1f)))) (Ja (J0i (J20 PySem.F.plainAttrs_list PySem.F.slot_list_append PySem.F.type_list_append JP (pv 10) (J0 (Jf Jn (Jf Jn (Jf Jn (Jf Jn (Jf Jn (Jk (l:=[119,105,115,104,32]) (by decide +kernel)) (pv 15)) (Jk (l:=[32]) (by decide +kernel))) (JG J0b rfl tx.J3f J0o (J0 (pv 11) J2))) (Jk (l:=[32]) (by decide +kernel))) (pv 20)) J2)))))
   (J6 (J2J PassesOwn.never rfl (J02 (K:=K) rfl (pv 8)) (J3H rfl (JB (Ju (i:=15) Jt.nd rfl (Or.inl rfl)) (JB (Ju (i:=21) Jt.nd rfl (Or.inl rfl)) J1f))) (Ja (J0i (J20 PySem.F.plainAttrs_list PySem.F.slot_list_append PySem.F.type_list_append JP (pv 10) (J0 (Jf Jn (Jf Jn (Jf Jn (Jk (l:=[114,117,108,101,32]) (by decide +kernel)) (pv 15)) (Jk (l:=[32]) (by decide +kernel))) (Jr (J0E (K:=K) rfl) (pv 21) (pv 1) (fun _ _=>rfl))) J2)))))
   (J6 (J2J PassesOwn.never rfl (J02 (K:=K) rfl (pv 9)) (J3H rfl (JB (Ju (i:=22) Jt.nd rfl (Or.inl rfl)) (JB (Ju (i:=15) Jt.nd rfl (Or.inl rfl)) (JB (Ju (i:=23) Jt.nd rfl (Or.inl rfl)) J1f)))) (Ja (J0i (J20 PySem.F.plainAttrs_list PySem.F.slot_list_append PySem.F.type_list_append JP (pv 10) (J0 (Jf Jn (Jf Jn (Jf Jn (Jf Jn (pv 22) (Jk (l:=[32]) (by decide +kernel))) (pv 15)) (Jk (l:=[32]) (by decide +kernel))) (pv 23)) J2)))))
   (Ja (Jl (pv 10)))))))))))),?_⟩
  walk_at "st"
  clear J3A
  obtain ⟨a1,a2,a3,a4,a5,a6,xs,ys,zs,us,rs,qs,htp,h1,A1,h2,A2,h3,A3,h4,A4,h5,A5,h6,A6⟩:=hp
  have c1:=s8a (.int h.d) (T h.ks) (.ref a1) (.ref a2) (.ref a3) (.ref a4) (.ref a5) (.ref a6)
  have c2:=s8b (.int h.d) (T h.ks) (.ref a1) (.ref a2) (.ref a3) (.ref a4) (.ref a5) (.ref a6)
  have b:=g.b
  have bk:=b.k1
  have bd0 : 0 ≤ h.d:=by have:=b.d0; omega
  have bd1 : h.d < 10 ^ 41:=lt41 (by have:=b.d1; omega)
  have bd2:=num2 (i:=h.d) (by have:=b.d1; omega)
  have nml : ∀ v ∈ h.nms,v.length ≤ 8:=fun v hv=>by
   obtain ⟨m,hm,e⟩:=List.mem_map.mp hv
   rw [← e]
   exact (b.pg m hm).n1
  walk_at "rd"
  intro t1 nt1
  rw [c8a]
  obtain ⟨Ha,e1,g1,sa⟩:=newt (xs:=[V.int h.d,T h.ks,.ref a1,.ref a2]) nt1
  rw [← e1]
  have htp1:=sa _ _ htp
  walk_at "rd"
  intro t2 nt2
  rw [c8b]
  obtain ⟨H2,e2,g2,sb⟩:=newt (xs:=[V.ref a3,.ref a4,.ref a5,.ref a6]) nt2
  rw [← e2]
  have s2:=sa.trans sb
  clear c1 c2 htp1 e1 e2 nt1
  walk_at "rd"
  intro R nR
  obtain ⟨H3,e3,hR3,s3⟩:=newl (xs:=[T ([100,97,121,115,32] ++ numN h.d.toNat),T ([107,105,110,100,115,32] ++ h.ks)]) nR
  have s03:=s2.trans s3
  rw [← e3]
  have fR : H R = none:=s2.free nR
  have hR3' : H3 R = some (.lst ((ac0 h).map rT)):=by rw [hR3]; rfl
  clear e3 hR3 g1 g2 sa sb s2 s3 nt2 nR
  obtain ⟨q0,q1,q2,q3,q4,q5⟩:=JdL b n
  have hq1:=s03 _ _ h1
  walk_at "rd"
  refine J2I (K:=K) (xs:=xs) (fun i σ H4=>Here (∃ v11 v12 v13 v14 v15 v16 v17 v18 v19 v20 v21 v22 v23,σ = [some (.ref t),some (.int n),some (.int h.d),some (T h.ks),some (.ref a1),some (.ref a2),some (.ref a3),some (.ref a4),some (.ref a5),some (.ref a6),some (.ref R),v11,v12,v13,v14,v15,v16,v17,v18,v19,v20,v21,v22,v23] ∧ H4 R = some (.lst ((ac0 h ++ (h.nds.take i).map fun n'=>(Rw.nd n').wds).map rT)) ∧ Same H H4)) (Here.mk ⟨none,none,none,none,none,none,none,none,none,none,none,none,none,rfl,by rw [List.take_zero,List.map_nil,List.append_nil]; exact hR3',s03⟩) (fun i σ H4 _ hv=>by obtain ⟨_,_,_,_,_,_,_,_,_,_,_,_,_,_,_,s4⟩:=hv.out; exact SqL.of (s4 _ _ h1)) ?_ ?_
  ·rintro i x σ H4 hi hv
   obtain ⟨v11,v12,v13,v14,v15,v16,v17,v18,v19,v20,v21,v22,v23,rfl,hR4,s4⟩:=hv.out
   obtain ⟨m,hm,tm,rfl,ht⟩:=A1.back hi
   have gm:=g.ng m (List.mem_of_getElem? hm)
   have f1:=gm.d0
   have f2 : m.day < 10 ^ 41:=lt41 (by have:=gm.d1; have:=b.d1; omega)
   have f3:=gm.l0
   have f4 : m.least < 10 ^ 41:=lt41 (by have:=gm.l1; have:=gm.h; omega)
   have f5 : 0 ≤ m.most:=by have:=gm.l1; omega
   have f6 : m.most < 10 ^ 41:=lt41 (by have:=gm.h; omega)
   have f7:=num2 (i:=m.day) (by have:=gm.d1; have:=b.d1; omega)
   have f8:=num2 (i:=m.least) (by have:=gm.l1; have:=gm.h; omega)
   have f9:=num2 (i:=m.most) (by have:=gm.h; omega)
   have k1:=s4 _ _ ht
   have il:=(List.getElem?_eq_some_iff.mp hm).1
   have hb : ((ac0 h ++ (h.nds.take i).map fun n'=>(Rw.nd n').wds).map rT).length ≤ 1000:=by
    have:=b.nl
    have:=b.pl
    have:=b.ll
    have:=b.wl
    have:=b.rl
    have:=b.ql
    rw [List.length_map,List.length_append,List.length_map,List.length_take]
    omega
   walk_at "rd"
   refine Here.mk ⟨_,_,_,_,_,_,_,_,_,_,_,_,_,rfl,?_,s4.upd fR⟩
   ·rw [Je,J3z _ hm,← List.append_assoc]
    refine congrArg (fun z=>some (HO.lst z)) (J4P ?_)
    simp [rowT,JV,Rw.wds]
  rintro σ H11 hv
  obtain ⟨v11,v12,v13,v14,v15,v16,v17,v18,v19,v20,v21,v22,v23,rfl,hRh11,s11⟩:=hv.out
  rw [J49 _ (A1.len)] at hRh11
  have hq2:=s11 _ _ h2
  walk_at "rd"
  refine J2I (K:=K) (xs:=ys) (fun i σ H4=>Here (∃ v11 v12 v13 v14 v15 v16 v17 v18 v19 v20 v21 v22 v23,σ = [some (.ref t),some (.int n),some (.int h.d),some (T h.ks),some (.ref a1),some (.ref a2),some (.ref a3),some (.ref a4),some (.ref a5),some (.ref a6),some (.ref R),v11,v12,v13,v14,v15,v16,v17,v18,v19,v20,v21,v22,v23] ∧ H4 R = some (.lst ((ac1 h ++ (h.ps.take i).map fun n'=>(Rw.ps n').wds).map rT)) ∧ Same H H4)) (Here.mk ⟨_,_,_,_,_,_,_,_,_,_,_,_,_,rfl,by rw [List.take_zero,List.map_nil,List.append_nil]; exact hRh11,s11⟩) (fun i σ H4 _ hv=>by obtain ⟨_,_,_,_,_,_,_,_,_,_,_,_,_,_,_,s4⟩:=hv.out; exact SqL.of (s4 _ _ h2)) ?_ ?_
  ·rintro i x σ H4 hi hv
   obtain ⟨v11,v12,v13,v14,v15,v16,v17,v18,v19,v20,v21,v22,v23,rfl,hR4,s4⟩:=hv.out
   obtain ⟨m,hm,tm,rfl,ht⟩:=A2.back hi
   have gm:=b.pg m (List.mem_of_getElem? hm)
   have f1:=gm.m0
   have f2 : m.most < 10 ^ 41:=lt41 (by have:=gm.m1; omega)
   have f3:=gm.c0
   have f4 : m.car < 10 ^ 41:=Int.lt_trans gm.c1 (by decide)
   have f5:=gm.n1
   have f6:=J4Q (n:=4) (Nat.le_trans (J2r gm.sn gm.sk) b.k1) (by decide)
   have f7:=J4Q (n:=6) gm.p1 (by decide)
   have f8:=num2 (i:=m.most) (by have:=gm.m1; omega)
   have f9 : (numN m.car.toNat).length ≤ 40:=J4G (k:=39) (by show m.car.toNat < 10 ^ 40; have:=gm.c1; have:=gm.c0; omega)
   have k1:=s4 _ _ ht
   have il:=(List.getElem?_eq_some_iff.mp hm).1
   have hb : ((ac1 h ++ (h.ps.take i).map fun n'=>(Rw.ps n').wds).map rT).length ≤ 1000:=by
    have:=b.nl
    have:=b.pl
    have:=b.ll
    have:=b.wl
    have:=b.rl
    have:=b.ql
    rw [List.length_map,List.length_append,List.length_map,List.length_take]
    omega
   walk_at "rd"
   refine Here.mk ⟨_,_,_,_,_,_,_,_,_,_,_,_,_,rfl,?_,s4.upd fR⟩
   ·rw [Je,J3z _ hm,← List.append_assoc]
    refine congrArg (fun z=>some (HO.lst z)) (J4P ?_)
    simp [rowT,JV,Rw.wds]
  rintro σ H12 hv
  obtain ⟨v11,v12,v13,v14,v15,v16,v17,v18,v19,v20,v21,v22,v23,rfl,hRh12,s12⟩:=hv.out
  rw [J49 _ (A2.len)] at hRh12
  have hq3:=s12 _ _ h3
  walk_at "rd"
  refine J2I (K:=K) (xs:=zs) (fun i σ H4=>Here (∃ v11 v12 v13 v14 v15 v16 v17 v18 v19 v20 v21 v22 v23,σ = [some (.ref t),some (.int n),some (.int h.d),some (T h.ks),some (.ref a1),some (.ref a2),some (.ref a3),some (.ref a4),some (.ref a5),some (.ref a6),some (.ref R),v11,v12,v13,v14,v15,v16,v17,v18,v19,v20,v21,v22,v23] ∧ H4 R = some (.lst ((ac2 h ++ (h.ls.take i).map fun n'=>(Rw.lv n').wds).map rT)) ∧ Same H H4)) (Here.mk ⟨_,_,_,_,_,_,_,_,_,_,_,_,_,rfl,by rw [List.take_zero,List.map_nil,List.append_nil]; exact hRh12,s12⟩) (fun i σ H4 _ hv=>by obtain ⟨_,_,_,_,_,_,_,_,_,_,_,_,_,_,_,s4⟩:=hv.out; exact SqL.of (s4 _ _ h3)) ?_ ?_
  ·rintro i x σ H4 hi hv
   obtain ⟨v11,v12,v13,v14,v15,v16,v17,v18,v19,v20,v21,v22,v23,rfl,hR4,s4⟩:=hv.out
   obtain ⟨m,hm,tm,rfl,ht⟩:=A3.back hi
   have gm:=g.lg m (List.mem_of_getElem? hm)
   have f1:=gm.d0
   have f2 : m.2 < 10 ^ 41:=lt41 (by have:=gm.d1; have:=b.d1; omega)
   have f3:=nml _ gm.nm
   have f7:=num2 (i:=m.2) (by have:=gm.d1; have:=b.d1; omega)
   have k1:=s4 _ _ ht
   have il:=(List.getElem?_eq_some_iff.mp hm).1
   have hb : ((ac2 h ++ (h.ls.take i).map fun n'=>(Rw.lv n').wds).map rT).length ≤ 1000:=by
    have:=b.nl
    have:=b.pl
    have:=b.ll
    have:=b.wl
    have:=b.rl
    have:=b.ql
    rw [List.length_map,List.length_append,List.length_map,List.length_take]
    omega
   walk_at "rd"
   refine Here.mk ⟨_,_,_,_,_,_,_,_,_,_,_,_,_,rfl,?_,s4.upd fR⟩
   ·rw [Je,J3z _ hm,← List.append_assoc]
    refine congrArg (fun z=>some (HO.lst z)) (J4P ?_)
    simp [rowT,JV,Rw.wds]
  rintro σ H13 hv
  obtain ⟨v11,v12,v13,v14,v15,v16,v17,v18,v19,v20,v21,v22,v23,rfl,hRh13,s13⟩:=hv.out
  rw [J49 _ (A3.len)] at hRh13
  have hq4:=s13 _ _ h4
  walk_at "rd"
  refine J2I (K:=K) (xs:=us) (fun i σ H4=>Here (∃ v11 v12 v13 v14 v15 v16 v17 v18 v19 v20 v21 v22 v23,σ = [some (.ref t),some (.int n),some (.int h.d),some (T h.ks),some (.ref a1),some (.ref a2),some (.ref a3),some (.ref a4),some (.ref a5),some (.ref a6),some (.ref R),v11,v12,v13,v14,v15,v16,v17,v18,v19,v20,v21,v22,v23] ∧ H4 R = some (.lst ((ac3 h ++ (h.ws.take i).map fun n'=>(Rw.ws n').wds).map rT)) ∧ Same H H4)) (Here.mk ⟨_,_,_,_,_,_,_,_,_,_,_,_,_,rfl,by rw [List.take_zero,List.map_nil,List.append_nil]; exact hRh13,s13⟩) (fun i σ H4 _ hv=>by obtain ⟨_,_,_,_,_,_,_,_,_,_,_,_,_,_,_,s4⟩:=hv.out; exact SqL.of (s4 _ _ h4)) ?_ ?_
  ·rintro i x σ H4 hi hv
   obtain ⟨v11,v12,v13,v14,v15,v16,v17,v18,v19,v20,v21,v22,v23,rfl,hR4,s4⟩:=hv.out
   obtain ⟨m,hm,tm,rfl,ht⟩:=A4.back hi
   have gm:=g.wg m (List.mem_of_getElem? hm)
   have f1:=gm.d0
   have f2 : m.day < 10 ^ 41:=lt41 (by have:=gm.d1; have:=b.d1; omega)
   have f3:=nml _ gm.nm
   have f7:=num2 (i:=m.day) (by have:=gm.d1; have:=b.d1; omega)
   have f8 : m.ms.length ≤ 5:=by
    have:=J2r gm.mn gm.ms
    rw [List.length_append,List.length_singleton] at this
    omega
   have k1:=s4 _ _ ht
   have il:=(List.getElem?_eq_some_iff.mp hm).1
   have hb : ((ac3 h ++ (h.ws.take i).map fun n'=>(Rw.ws n').wds).map rT).length ≤ 1000:=by
    have:=b.nl
    have:=b.pl
    have:=b.ll
    have:=b.wl
    have:=b.rl
    have:=b.ql
    rw [List.length_map,List.length_append,List.length_map,List.length_take]
    omega
   walk_at "rd"
   refine Here.mk ⟨_,_,_,_,_,_,_,_,_,_,_,_,_,rfl,?_,s4.upd fR⟩
   ·rw [Je,J3z _ hm,← List.append_assoc]
    refine congrArg (fun z=>some (HO.lst z)) (J4P ?_)
    simp [rowT,JV,Rw.wds]
  rintro σ H14 hv
  obtain ⟨v11,v12,v13,v14,v15,v16,v17,v18,v19,v20,v21,v22,v23,rfl,hRh14,s14⟩:=hv.out
  rw [J49 _ (A4.len)] at hRh14
  have hq5:=s14 _ _ h5
  walk_at "rd"
  refine J2I (K:=K) (xs:=rs) (fun i σ H4=>Here (∃ v11 v12 v13 v14 v15 v16 v17 v18 v19 v20 v21 v22 v23,σ = [some (.ref t),some (.int n),some (.int h.d),some (T h.ks),some (.ref a1),some (.ref a2),some (.ref a3),some (.ref a4),some (.ref a5),some (.ref a6),some (.ref R),v11,v12,v13,v14,v15,v16,v17,v18,v19,v20,v21,v22,v23] ∧ H4 R = some (.lst ((ac4 h ++ (h.rts.take i).map fun n'=>(Rw.rt (J1r n n')).wds).map rT)) ∧ Same H H4)) (Here.mk ⟨_,_,_,_,_,_,_,_,_,_,_,_,_,rfl,by rw [List.take_zero,List.map_nil,List.append_nil]; exact hRh14,s14⟩) (fun i σ H4 _ hv=>by obtain ⟨_,_,_,_,_,_,_,_,_,_,_,_,_,_,_,s4⟩:=hv.out; exact SqL.of (s4 _ _ h5)) ?_ ?_
  ·rintro i x σ H4 hi hv
   obtain ⟨v11,v12,v13,v14,v15,v16,v17,v18,v19,v20,v21,v22,v23,rfl,hR4,s4⟩:=hv.out
   obtain ⟨m,hm,tm,tm2,rfl,ht,ht2⟩:=A5.back hi
   have gm:=g.rg m (List.mem_of_getElem? hm)
   have gx:=hx m (List.mem_of_getElem? hm)
   have f3 : m.nm.length ≤ 8:=by
    rcases gm.nm with e | e
    ·rw [e]; decide
    ·exact nml _ e
   have f4 : (J1r n m).tx.length ≤ 300:=by
    show (if n = 0 then m.tx else m.r.tx).length ≤ 300
    split
    ·exact gm.tx.ln
    ·exact gx.ln
   have f5 : atI [T m.tx,T m.r.tx] n = some (T (J1r n m).tx):=by
    rcases hn with rfl | rfl
    ·simp [atI,ixN,J1r]
    ·simp [atI,ixN,J1r]
   have k1:=s4 _ _ ht
   have k2:=s4 _ _ ht2
   have il:=(List.getElem?_eq_some_iff.mp hm).1
   have hb : ((ac4 h ++ (h.rts.take i).map fun n'=>(Rw.rt (J1r n n')).wds).map rT).length ≤ 1000:=by
    have:=b.nl
    have:=b.pl
    have:=b.ll
    have:=b.wl
    have:=b.rl
    have:=b.ql
    rw [List.length_map,List.length_append,List.length_map,List.length_take]
    omega
   walk_at "rd"
   refine Here.mk ⟨_,_,_,_,_,_,_,_,_,_,_,_,_,rfl,?_,s4.upd fR⟩
   ·rw [Je,J3z _ hm,← List.append_assoc]
    refine congrArg (fun z=>some (HO.lst z)) (J4P ?_)
    rw [JaS]
    rfl
  rintro σ H15 hv
  obtain ⟨v11,v12,v13,v14,v15,v16,v17,v18,v19,v20,v21,v22,v23,rfl,hRh15,s15⟩:=hv.out
  rw [J49 _ (A5.len)] at hRh15
  have hq6:=s15 _ _ h6
  walk_at "rd"
  refine J2I (K:=K) (xs:=qs) (fun i σ H4=>Here (∃ v11 v12 v13 v14 v15 v16 v17 v18 v19 v20 v21 v22 v23,σ = [some (.ref t),some (.int n),some (.int h.d),some (T h.ks),some (.ref a1),some (.ref a2),some (.ref a3),some (.ref a4),some (.ref a5),some (.ref a6),some (.ref R),v11,v12,v13,v14,v15,v16,v17,v18,v19,v20,v21,v22,v23] ∧ H4 R = some (.lst ((ac5 n h ++ (h.prs.take i).map fun n'=>(Rw.pq n').wds).map rT)) ∧ Same H H4)) (Here.mk ⟨_,_,_,_,_,_,_,_,_,_,_,_,_,rfl,by rw [List.take_zero,List.map_nil,List.append_nil]; exact hRh15,s15⟩) (fun i σ H4 _ hv=>by obtain ⟨_,_,_,_,_,_,_,_,_,_,_,_,_,_,_,s4⟩:=hv.out; exact SqL.of (s4 _ _ h6)) ?_ ?_
  ·rintro i x σ H4 hi hv
   obtain ⟨v11,v12,v13,v14,v15,v16,v17,v18,v19,v20,v21,v22,v23,rfl,hR4,s4⟩:=hv.out
   obtain ⟨m,hm,tm,rfl,ht⟩:=A6.back hi
   have gm:=g.qg m (List.mem_of_getElem? hm)
   have f1:=nml _ gm.one
   have f2:=nml _ gm.two
   have f3 : m.wd.length ≤ 5:=by rcases gm.wd with e | e <;> rw [e] <;> decide
   have k1:=s4 _ _ ht
   have il:=(List.getElem?_eq_some_iff.mp hm).1
   have hb : ((ac5 n h ++ (h.prs.take i).map fun n'=>(Rw.pq n').wds).map rT).length ≤ 1000:=by
    have:=b.nl
    have:=b.pl
    have:=b.ll
    have:=b.wl
    have:=b.rl
    have:=b.ql
    rw [List.length_map,List.length_append,List.length_map,List.length_take]
    omega
   walk_at "rd"
   refine Here.mk ⟨_,_,_,_,_,_,_,_,_,_,_,_,_,rfl,?_,s4.upd fR⟩
   ·rw [Je,J3z _ hm,← List.append_assoc]
    refine congrArg (fun z=>some (HO.lst z)) (J4P ?_)
    simp [rowT,JV,Rw.wds]
  rintro σ H16 hv
  obtain ⟨v11,v12,v13,v14,v15,v16,v17,v18,v19,v20,v21,v22,v23,rfl,hRh16,s16⟩:=hv.out
  rw [J49 _ (A6.len)] at hRh16
  walk_at "rd"
  rw [show ac5 n h ++ h.prs.map (fun n'=>(Rw.pq n').wds) = ac6 n h from rfl,JeP] at hRh16
  exact q R _ s16 hRh16
end
noncomputable def JfW (C1 : Addr) : Sp:=fun vs H Q _=>∃ (p : Addr) (ks : List Nat) (n : Ps),vs = [.ref p] ∧ J7M C1 H p n.nm n.sk n.most n.car n.past ∧ PsG ks n ∧ ks.length ≤ 4 ∧ ∀ H',Same H H' → Q (T (rowT (Rw.ps n).wds)) H'
noncomputable def JfU (c : Cs) : Sp:=fun vs H Q _=>∃ (nm : List Nat) (p : Addr) (r : R),vs = [T nm,.ref p] ∧ JH c H r p ∧ TxR r r.tx ∧ nm.length ≤ 8 ∧ Q (T (rowT (Rw.rt ⟨nm,r,r.tx⟩).wds)) H
noncomputable def Jdp (C1 C2 : Addr) (c : Cs) : Sp:=fun vs H Q _=>∃ (hh : Addr) (a : Ad) (h : Hs),vs = [.ref hh] ∧ HSt C1 C2 c H hh a h ∧ HsG h ∧ (∀ a ∈ h.rts,TxR a.r a.r.tx) ∧ ∀ H',Same H H' → Q (T (J6u (h.pick 1))) H'
theorem J6e {h : Hs} (g : HsG h) : (((JN h).map rowT).map List.length).sum + ((JN h).map rowT).length * ([10] : List Nat).length ≤ 16777216:=by
 obtain ⟨ll,lr⟩:=J4V g
 have h4:=JbM (n:=391) (l:=((JN h).map rowT).map List.length) fun x hx=>by
  obtain ⟨w,hw,rfl⟩:=List.mem_map.mp hx
  obtain ⟨l,hl,rfl⟩:=List.mem_map.mp hw
  have:=lr l hl
  omega
 rw [List.length_map,List.length_map] at h4
 rw [List.length_map,List.length_singleton]
 have : (JN h).length * 391 ≤ 246 * 391:=Nat.mul_le_mul_right _ ll
 omega
section
variable {P : Program} {w : World} {K : PySem.W.Frag} {mg : Str → Option Value} {base : Heap} {J9 Jd J8 Jb J5 Ji J4 J1 : Addr}
local macro_rules | `(tactic| walk_at "lk")=>`(tactic| first | exact J5O _ _ _ _ _ | exact J8v _ _ _ _ _ | exact Jc0 _ _ _ _ _ | exact J7A _ _ _ _ _ | exact Jcd _ _ _ _ _ | exact J4T _ _ _ _ _ _ _ _ | exact J42 _ _ _ _ _ _ _ _ | exact J48 _ _ _ _ _ _ _ _ | exact J31 _ _ _ _ _ _ _ _ | exact J40 _ _ _ _ _ _ _ _ | exact J3w _ _ _ _ _ _ _ _ | exact J4a _ _ _ _ _ _ _ _ | exact J4c _ _ _ _ _ _ _ _)
theorem Jdk (tx : Tx K mg J9 Jd J8 Jb J5 Ji J4 J1) : FnG P w K mg base "dotted" 1 ["word"] Jdw:=by
 refine tx.Jdr.g Jcz (fun _ _ _ _ _ _ us hl=>match us,hl with | [_],_=>rfl) (fun vs H Q E h=>?_) (fun f cdv A outer s H vs Q E hr h=>?_)
 ·obtain ⟨v,rfl,_⟩:=h
  rfl
 ·obtain ⟨v,rfl,q⟩:=h
  refine ⟨_,(Ja (Jl (J7L (Jp JO (pv 0) (Jk (l:=[]) (by decide +kernel)) (Js _)) (Jk (l:=[46]) (by decide +kernel)) (pv 0)))),?_⟩
  walk_at "st"
  by_cases e : v = []
  ·have ed : dotF v = [46]:=if_pos e
   rw [ed] at q
   have dm : decide (T v = T []) = true:=decide_eq_true (by rw [e])
   walk_at "rd"
   rw [dm]
   walk_at "rd"
   exact q
  ·have ed : dotF v = v:=if_neg e
   rw [ed] at q
   have dm : decide (T v = T []) = false:=decide_eq_false (fun z=>e (J1M z))
   walk_at "rd"
   rw [dm]
   walk_at "rd"
   exact q
theorem J7t (tx : Tx K mg J9 Jd J8 Jb J5 Ji J4 J1) : FnG P w K mg base "shown_person" 2 ["person"] (JfW J4):=by
 have J7l:=Jdk (P:=P) (w:=w) (base:=base) tx
 refine tx.J6T.g J4p (fun _ _ _ _ _ _ us hl=>match us,hl with | [_],_=>rfl) (fun vs H Q E h=>?_) (fun f cdv A outer s H vs Q E hr h=>?_)
 ·obtain ⟨p,ks,n,rfl,_⟩:=h
  rfl
 ·obtain ⟨p,ks,n,rfl,⟨dx,hp⟩,gm,hk,q⟩:=h
  refine ⟨_,(J6 (Jw (i:=1) J4p.nd rfl (Or.inl rfl) (J0d (J0 (JG J0b rfl tx.J3f J0o (J0 (JD (K:=K) rfl (pv 0) rfl) J2)) (J0 (JG J0b rfl tx.J3f J0o (J0 (JD (K:=K) rfl (pv 0) rfl) J2)) J2))))
   (Ja (Jl (J2L (K:=K) rfl (Jk (l:=[32]) (by decide +kernel)) (J0 (Jf Je7 (Jf Je7 (J0d (J0 (Jk (l:=[112,101,114,115,111,110]) (by decide +kernel)) (J0 (JD (K:=K) rfl (pv 0) rfl) (J0 (Jv J7l (hr.mono (by decide)) (J0 (JD (K:=K) rfl (pv 0) rfl) J2)) J2)))) (pv 1)) (J0d (J0 (Jv J7l (hr.mono (by decide)) (J0 (JD (K:=K) rfl (pv 0) rfl) J2)) J2))) J2))))),?_⟩
  walk_at "st"
  clear J7l
  have cl:=tx.J1Z.cl
  have n1:=tx.J0J
  have n2:=tx.J0y
  have n3:=tx.J19
  have n4:=tx.J0m
  have n5:=tx.J10
  have f1:=gm.m0
  have f2 : n.most < 10 ^ 41:=lt41 (by have:=gm.m1; omega)
  have f3:=gm.c0
  have f4 : n.car < 10 ^ 41:=Int.lt_trans gm.c1 (by decide)
  have f5:=gm.n1
  have f6:=J4Q (n:=4) (Nat.le_trans (J2r gm.sn gm.sk) hk) (by decide)
  have f7:=J4Q (n:=6) gm.p1 (by decide)
  have f8:=num2 (i:=n.most) (by have:=gm.m1; omega)
  have f9 : (numN n.car.toNat).length ≤ 40:=J4G (k:=39) (by show n.car.toNat < 10 ^ 40; have:=gm.c1; have:=gm.c0; omega)
  walk_at "rd"
  intro L1 nL1
  obtain ⟨H1,e1,hL1,s1⟩:=newl (xs:=[T (numN n.most.toNat),T (numN n.car.toNat)]) nL1
  rw [← e1]
  have hp1:=s1 _ _ hp
  walk_at "rd"
  intro L2 nL2
  obtain ⟨H2,e2,hL2,s2⟩:=newl (xs:=[T [112,101,114,115,111,110],T n.nm,T (dotF n.sk)]) nL2
  rw [← e2]
  have hL12:=s2 _ _ hL1
  walk_at "rd"
  intro L3 nL3
  obtain ⟨H3,e3,hL3,s3⟩:=newl (xs:=[T [112,101,114,115,111,110],T n.nm,T (dotF n.sk)] ++ [T (numN n.most.toNat),T (numN n.car.toNat)]) nL3
  rw [← e3]
  have hp3:=(s2.trans s3) _ _ hp1
  walk_at "rd"
  intro L4 nL4
  obtain ⟨H4,e4,hL4,s4⟩:=newl (xs:=[T (dotF n.past)]) nL4
  rw [← e4]
  have hL34:=s4 _ _ hL3
  walk_at "rd"
  intro L5 nL5
  obtain ⟨H5,e5,hL5,s5⟩:=newl (xs:=[T [112,101,114,115,111,110],T n.nm,T (dotF n.sk)] ++ [T (numN n.most.toNat),T (numN n.car.toNat)] ++ [T (dotF n.past)]) nL5
  rw [← e5]
  have hSq : SqL K H5 L5 ((Rw.ps n).wds.map T):=SqL.of hL5
  have hjl : ((Rw.ps n).wds.map List.length).sum + (Rw.ps n).wds.length * ([32] : List Nat).length ≤ 16777216:=by
   simp only [Rw.wds,List.map_cons,List.map_nil,List.sum_cons,List.sum_nil,List.length_cons,List.length_nil]
   omega
  walk_at "rd"
  exact q H5 ((((s1.trans s2).trans s3).trans s4).trans s5)
theorem J9o (tx : Tx K mg J9 Jd J8 Jb J5 Ji J4 J1) : FnG P w K mg base "shown_rule" 30 ["name","rule"] (JfU (cs6 J9 Jd J8 Jb J5 Ji J4 J1)):=by
 refine tx.J8U.g J51 (fun _ _ _ _ _ _ us hl=>match us,hl with | [_,_],_=>rfl) (fun vs H Q E h=>?_) (fun f cdv A outer s H vs Q E hr h=>?_)
 ·obtain ⟨nm,p,r,rfl,_⟩:=h
  rfl
 ·obtain ⟨nm,p,r,rfl,hr3,gx,hn,q⟩:=h
  refine ⟨_,(J6 (Jw (i:=2) J51.nd rfl (Or.inl rfl) (J9D (P:=P) (w:=w) (K:=K) (mg:=mg) (base:=base) hr (pv 1) rfl rfl rfl rfl rfl))
   (Ja (Jl (J2O (Jy (J0w (l:=[114,117,108,101,32]) (by decide +kernel)) (Jy (J1p (pv 0)) (Jy (J0w (l:=[32]) (by decide +kernel)) (Jy (J1p (pv 2)) J2K)))))))),?_⟩
  walk_at "st"
  obtain ⟨dx,fs,ob,_,_,nt⟩:=hr3.obj
  have Gt:=Jdi (P:=P) (w:=w) (base:=base) tx 12 r gx.ok (by have:=gx.sz; omega) (by have:=gx.sz; omega)
  have hl:=gx.ln
  rw [JaS] at q
  walk_at "rd"
  exact q
end
section
variable {P : Program} {w : World} {K : PySem.W.Frag} {mg : Str → Option Value} {base : Heap} {J9 Jd J8 Jb J5 Ji J4 J1 : Addr}
local macro_rules | `(tactic| walk_at "lk")=>`(tactic| first | exact J5O _ _ _ _ _ | exact J8v _ _ _ _ _ | exact Jc0 _ _ _ _ _ | exact J7A _ _ _ _ _ | exact Jcd _ _ _ _ _ | exact J4T _ _ _ _ _ _ _ _ | exact J42 _ _ _ _ _ _ _ _ | exact J48 _ _ _ _ _ _ _ _ | exact J31 _ _ _ _ _ _ _ _ | exact J40 _ _ _ _ _ _ _ _ | exact J3w _ _ _ _ _ _ _ _ | exact J4a _ _ _ _ _ _ _ _ | exact J4c _ _ _ _ _ _ _ _)
theorem Jf0 (tx : Tx K mg J9 Jd J8 Jb J5 Ji J4 J1) : FnG P w K mg base "shown" 31 ["house"] (Jdp J4 J1 (cs6 J9 Jd J8 Jb J5 Ji J4 J1)):=by
 have J4y:=J7t (P:=P) (w:=w) (base:=base) tx
 have J5x:=J9o (P:=P) (w:=w) (base:=base) tx
 refine tx.JeV.g J1V (fun _ _ _ _ _ _ us hl=>match us,hl with | [_],_=>rfl) (fun vs H Q E h=>?_) (fun f cdv A outer s H vs Q E hr h=>?_)
 ·obtain ⟨hh,a,h,rfl,_⟩:=h
  rfl
 ·obtain ⟨hh,a,h,rfl,hs,g,hx,q⟩:=h
  refine ⟨_,(J6 (Jw (i:=1) J1V.nd rfl (Or.inl rfl) (JD (K:=K) rfl (pv 0) rfl))
   (J6 (Jw (i:=2) J1V.nd rfl (Or.inl rfl) (JD (K:=K) rfl (pv 0) rfl))
   (J6 (Jw (i:=3) J1V.nd rfl (Or.inl rfl) (J0d (J0 (J2O (Jy (J0w (l:=[100,97,121,115,32]) (by decide +kernel)) (Jy (J68 (pv 1)) J2K))) (J0 (J2O (Jy (J0w (l:=[107,105,110,100,115,32]) (by decide +kernel)) (Jy (J1p (pv 2)) J2K))) J2))))
   (J6 (J4D (i:=3) J1V.nd rfl (Or.inl rfl) (J1L (osc:=J7 J24) (ON:=["house","days","kinds","rows"]) (N:=["day","kind","least","most"]) (js:=[none,none,none,none]) ⟨rfl,by decide +kernel,by decide +kernel,by decide +kernel,rfl,by decide +kernel⟩ rfl rfl rfl (J02 (K:=K) rfl (JD (K:=K) rfl (pv 0) rfl)) (fun _ _ _ _ _=>J9K (K:=K) (n:=4) rfl rfl (JB (Ju (i:=0) (show List.Nodup (["day","kind","least","most"] : List Str) from by decide +kernel) rfl (Or.inl rfl)) (JB (Ju (i:=1) (show List.Nodup (["day","kind","least","most"] : List Str) from by decide +kernel) rfl (Or.inl rfl)) (JB (Ju (i:=2) (show List.Nodup (["day","kind","least","most"] : List Str) from by decide +kernel) rfl (Or.inl rfl)) (JB (Ju (i:=3) (show List.Nodup (["day","kind","least","most"] : List Str) from by decide +kernel) rfl (Or.inl rfl)) J1f))))) (fun _ _ _ _ _=>J0q) (fun _ _ _ _ _=>(J2O (Jy (J0w (l:=[110,101,101,100,32]) (by decide +kernel)) (Jy (J68 (pv 0)) (Jy (J0w (l:=[32]) (by decide +kernel)) (Jy (J1p (pv 1)) (Jy (J0w (l:=[32]) (by decide +kernel)) (Jy (J68 (pv 2)) (Jy (J0w (l:=[32]) (by decide +kernel)) (Jy (J68 (pv 3)) J2K))))))))))) J4O)
   (J6 (J4D (i:=3) J1V.nd rfl (Or.inl rfl) (J1L (osc:=J7 J24) (ON:=["house","days","kinds","rows"]) (N:=["person"]) (js:=[none]) ⟨rfl,by decide +kernel,by decide +kernel,by decide +kernel,rfl,by decide +kernel⟩ rfl rfl rfl (J02 (K:=K) rfl (JD (K:=K) rfl (pv 0) rfl)) (fun _ _ _ _ _=>Ju (i:=0) (show List.Nodup (["person"] : List Str) from by decide +kernel) rfl (Or.inl rfl)) (fun _ _ _ _ _=>J0q) (fun _ _ _ _ _=>(Jv J4y (hr.mono (by decide)) (J0 (pv 0) J2)))) J4O)
   (J6 (J4D (i:=3) J1V.nd rfl (Or.inl rfl) (J1L (osc:=J7 J24) (ON:=["house","days","kinds","rows"]) (N:=["name","day"]) (js:=[none,none]) ⟨rfl,by decide +kernel,by decide +kernel,by decide +kernel,rfl,by decide +kernel⟩ rfl rfl rfl (J02 (K:=K) rfl (JD (K:=K) rfl (pv 0) rfl)) (fun _ _ _ _ _=>Jel (K:=K) (i:=0) (j:=1) rfl rfl (show List.Nodup (["name","day"] : List Str) from by decide +kernel) rfl rfl (Or.inl rfl) (Or.inl rfl)) (fun _ _ _ _ _=>J0q) (fun _ _ _ _ _=>(J2O (Jy (J0w (l:=[108,101,97,118,101,32]) (by decide +kernel)) (Jy (J1p (pv 0)) (Jy (J0w (l:=[32]) (by decide +kernel)) (Jy (J68 (pv 1)) J2K))))))) J4O)
   (J6 (J4D (i:=3) J1V.nd rfl (Or.inl rfl) (J1L (osc:=J7 J24) (ON:=["house","days","kinds","rows"]) (N:=["name","day","marks"]) (js:=[none,none,none]) ⟨rfl,by decide +kernel,by decide +kernel,by decide +kernel,rfl,by decide +kernel⟩ rfl rfl rfl (J02 (K:=K) rfl (JD (K:=K) rfl (pv 0) rfl)) (fun _ _ _ _ _=>J9K (K:=K) (n:=3) rfl rfl (JB (Ju (i:=0) (show List.Nodup (["name","day","marks"] : List Str) from by decide +kernel) rfl (Or.inl rfl)) (JB (Ju (i:=1) (show List.Nodup (["name","day","marks"] : List Str) from by decide +kernel) rfl (Or.inl rfl)) (JB (Ju (i:=2) (show List.Nodup (["name","day","marks"] : List Str) from by decide +kernel) rfl (Or.inl rfl)) J1f)))) (fun _ _ _ _ _=>J0q) (fun _ _ _ _ _=>(J2O (Jy (J0w (l:=[119,105,115,104,32]) (by decide +kernel)) (Jy (J1p (pv 0)) (Jy (J0w (l:=[32]) (by decide +kernel)) (Jy (J68 (pv 1)) (Jy (J0w (l:=[32]) (by decide +kernel)) (Jy (J1p (pv 2)) J2K))))))))) J4O)
   (J6 (J4D (i:=3) J1V.nd rfl (Or.inl rfl) (J1L (osc:=J7 J24) (ON:=["house","days","kinds","rows"]) (N:=["name","rule"]) (js:=[none,none]) ⟨rfl,by decide +kernel,by decide +kernel,by decide +kernel,rfl,by decide +kernel⟩ rfl rfl rfl (J02 (K:=K) rfl (JD (K:=K) rfl (pv 0) rfl)) (fun _ _ _ _ _=>Jel (K:=K) (i:=0) (j:=1) rfl rfl (show List.Nodup (["name","rule"] : List Str) from by decide +kernel) rfl rfl (Or.inl rfl) (Or.inl rfl)) (fun _ _ _ _ _=>J0q) (fun _ _ _ _ _=>(Jv J5x (hr.mono (by decide)) (J0 (pv 0) (J0 (pv 1) J2))))) J4O)
   (J6 (J4D (i:=3) J1V.nd rfl (Or.inl rfl) (J1L (osc:=J7 J24) (ON:=["house","days","kinds","rows"]) (N:=["word","name","other"]) (js:=[none,none,none]) ⟨rfl,by decide +kernel,by decide +kernel,by decide +kernel,rfl,by decide +kernel⟩ rfl rfl rfl (J02 (K:=K) rfl (JD (K:=K) rfl (pv 0) rfl)) (fun _ _ _ _ _=>J9K (K:=K) (n:=3) rfl rfl (JB (Ju (i:=0) (show List.Nodup (["word","name","other"] : List Str) from by decide +kernel) rfl (Or.inl rfl)) (JB (Ju (i:=1) (show List.Nodup (["word","name","other"] : List Str) from by decide +kernel) rfl (Or.inl rfl)) (JB (Ju (i:=2) (show List.Nodup (["word","name","other"] : List Str) from by decide +kernel) rfl (Or.inl rfl)) J1f)))) (fun _ _ _ _ _=>J0q) (fun _ _ _ _ _=>(J2O (Jy (J1p (pv 0)) (Jy (J0w (l:=[32]) (by decide +kernel)) (Jy (J1p (pv 1)) (Jy (J0w (l:=[32]) (by decide +kernel)) (Jy (J1p (pv 2)) J2K)))))))) J4O)
   (Ja (Jl (J2L (K:=K) rfl (Jk (l:=[10]) (by decide +kernel)) (J0 (pv 3) J2))))))))))))),?_⟩
  walk_at "st"
  clear J4y J5x
  have cl:=tx.JW.cl
  have nf_days:=tx.J0V
  have nf_kinds:=tx.JU
  have nf_needs:=tx.J0H
  have nf_persons:=tx.J05
  have nf_leave:=tx.J0G
  have nf_wishes:=tx.J0p
  have nf_rules:=tx.J0j
  have nf_pairs:=tx.J0I
  have b:=g.b
  have bk:=b.k1
  have bd0 : 0 ≤ h.d:=by have:=b.d0; omega
  have bd1 : h.d < 10 ^ 41:=lt41 (by have:=b.d1; omega)
  have bd2:=num2 (i:=h.d) (by have:=b.d1; omega)
  have nml : ∀ v ∈ h.nms,v.length ≤ 8:=fun v hv=>by
   obtain ⟨m,hm,e⟩:=List.mem_map.mp hv
   rw [← e]
   exact (b.pg m hm).n1
  obtain ⟨q0,q1,q2,q3,q4,q5⟩:=JdL b 1
  have b1:=b.nl
  have b2:=b.pl
  have b3:=b.ll
  have b4:=b.wl
  have b5:=b.rl
  have b6:=b.ql
  obtain ⟨dx,hh1⟩:=hs.ho
  walk_at "rd"
  intro R nR
  obtain ⟨H0,e0,hR0,s0⟩:=newl (xs:=[T ([] ++ [100,97,121,115,32] ++ numN h.d.toNat),T ([] ++ [107,105,110,100,115,32] ++ h.ks)]) nR
  rw [← e0]
  have hR0' : H0 R = some (.lst ((ac0 h).map rT)):=by rw [hR0]; rfl
  have S0:=s0
  have hsk1:=hs.same S0
  obtain ⟨ys1,hy1,hA1⟩:=hsk1.e1
  have hhh1:=S0 _ _ hh1
  walk_at "rd"
  refine J0r h.nds (fun _=>true) (fun m y _=>y = rT (Rw.nd m).wds) (fun σ=>∃ v1 v2 v3 v4,σ = [v1,v2,v3,v4]) (J0L (SqL.of hy1)) hA1.len (by omega) ⟨_,_,_,_,rfl⟩ (fun _ _ _ _ _ z=>z) (fun j m v σ H' ha hv hσ s' Rf Rt _ hR=>?_) (fun D H4 zs hD s4 hzs hDD=>?_)
  ·obtain ⟨v1,v2,v3,v4,rfl⟩:=hσ
   obtain ⟨y,hy2,t,rfl,ht⟩:=hA1.get ha
   have hva : v = .ref t:=Option.some.inj (hv.symm.trans hy2)
   subst hva
   have gm:=g.ng m (List.mem_of_getElem? ha)
   have f1:=gm.d0
   have f2 : m.day < 10 ^ 41:=lt41 (by have:=gm.d1; have:=b.d1; omega)
   have f3:=gm.l0
   have f4 : m.least < 10 ^ 41:=lt41 (by have:=gm.l1; have:=gm.h; omega)
   have f5 : 0 ≤ m.most:=by have:=gm.l1; omega
   have f6 : m.most < 10 ^ 41:=lt41 (by have:=gm.h; omega)
   have f7:=num2 (i:=m.day) (by have:=gm.d1; have:=b.d1; omega)
   have f8:=num2 (i:=m.least) (by have:=gm.l1; have:=gm.h; omega)
   have f9:=num2 (i:=m.most) (by have:=gm.h; omega)
   have ht':=s' _ _ ht
   walk_at "rd"
   refine hR _ _ _ rfl ⟨_,_,_,_,rfl⟩ (Same.refl _) (congrArg T ?_)
   simp [rowT,JV,Rw.wds]
  rw [List.filter_eq_self.mpr fun _ _=>rfl] at hzs
  have ez1:=hzs.eqmap (f:=fun m=>rT (Rw.nd m).wds) (fun a y e=>e)
  have hRa1:=s4 _ _ hR0'
  have hzl1:=hzs.len
  have bl1 : ((ac0 h).map rT).length + zs.length ≤ 1000:=by
   rw [List.length_map]
   omega
  refine ⟨R,D,_,zs,rfl,rfl,hRa1,hDD,by have : (1000 : Nat) ≤ sizeLine:=(by decide); omega,?_⟩
  obtain ⟨Hn1,en1⟩ : ∃ Hn,Hn = upd H4 R (.lst ((ac0 h).map rT ++ zs)):=⟨_,rfl⟩
  rw [← en1]
  have hRn1 : Hn1 R = some (.lst ((ac1 h).map rT)):=by
   rw [en1,Je,ez1]
   refine congrArg (fun z=>some (HO.lst z)) ?_
   show _ = ((ac0 h) ++ h.nds.map fun m=>(Rw.nd m).wds).map rT
   rw [List.map_append,List.map_map]
   rfl
  have S1 : Same H Hn1:=by rw [en1]; exact (S0.trans s4).upd nR
  clear en1 hzs hDD hD
  have hsk2:=hs.same S1
  obtain ⟨ys2,hy2,hA2⟩:=hsk2.e2
  have hhh2:=S1 _ _ hh1
  walk_at "rd"
  refine J0r h.ps (fun _=>true) (fun m y _=>y = rT (Rw.ps m).wds) (fun σ=>∃ v1,σ = [v1]) (J0L (SqL.of hy2)) hA2.len (by omega) ⟨_,rfl⟩ (fun _ _ _ _ _ z=>z) (fun j m v σ H' ha hv hσ s' Rf Rt _ hR=>?_) (fun D H4 zs hD s4 hzs hDD=>?_)
  ·obtain ⟨v1,rfl⟩:=hσ
   obtain ⟨y,hy2,t,rfl,ht⟩:=hA2.get ha
   have hva : v = .ref t:=Option.some.inj (hv.symm.trans hy2)
   subst hva
   have gm:=b.pg m (List.mem_of_getElem? ha)
   have ht':=ht.keeps s'.keeps
   walk_at "rd"
   exact fun H5 s5=>hR _ _ _ rfl ⟨_,rfl⟩ s5 rfl
  rw [List.filter_eq_self.mpr fun _ _=>rfl] at hzs
  have ez2:=hzs.eqmap (f:=fun m=>rT (Rw.ps m).wds) (fun a y e=>e)
  have hRa2:=s4 _ _ hRn1
  have hzl2:=hzs.len
  have bl2 : ((ac1 h).map rT).length + zs.length ≤ 1000:=by
   rw [List.length_map]
   omega
  refine ⟨R,D,_,zs,rfl,rfl,hRa2,hDD,by have : (1000 : Nat) ≤ sizeLine:=(by decide); omega,?_⟩
  obtain ⟨Hn2,en2⟩ : ∃ Hn,Hn = upd H4 R (.lst ((ac1 h).map rT ++ zs)):=⟨_,rfl⟩
  rw [← en2]
  have hRn2 : Hn2 R = some (.lst ((ac2 h).map rT)):=by
   rw [en2,Je,ez2]
   refine congrArg (fun z=>some (HO.lst z)) ?_
   show _ = ((ac1 h) ++ h.ps.map fun m=>(Rw.ps m).wds).map rT
   rw [List.map_append,List.map_map]
   rfl
  have S2 : Same H Hn2:=by rw [en2]; exact (S1.trans s4).upd nR
  clear en2 hzs hDD hD
  have hsk3:=hs.same S2
  obtain ⟨ys3,hy3,hA3⟩:=hsk3.e3
  have hhh3:=S2 _ _ hh1
  walk_at "rd"
  refine J0r h.ls (fun _=>true) (fun m y _=>y = rT (Rw.lv m).wds) (fun σ=>∃ v1 v2,σ = [v1,v2]) (J0L (SqL.of hy3)) hA3.len (by omega) ⟨_,_,rfl⟩ (fun _ _ _ _ _ z=>z) (fun j m v σ H' ha hv hσ s' Rf Rt _ hR=>?_) (fun D H4 zs hD s4 hzs hDD=>?_)
  ·obtain ⟨v1,v2,rfl⟩:=hσ
   obtain ⟨y,hy2,t,rfl,ht⟩:=hA3.get ha
   have hva : v = .ref t:=Option.some.inj (hv.symm.trans hy2)
   subst hva
   have gm:=g.lg m (List.mem_of_getElem? ha)
   have f1:=gm.d0
   have f2 : m.2 < 10 ^ 41:=lt41 (by have:=gm.d1; have:=b.d1; omega)
   have f3:=nml _ gm.nm
   have f7:=num2 (i:=m.2) (by have:=gm.d1; have:=b.d1; omega)
   have ht':=s' _ _ ht
   walk_at "rd"
   refine hR _ _ _ rfl ⟨_,_,rfl⟩ (Same.refl _) (congrArg T ?_)
   simp [rowT,JV,Rw.wds]
  rw [List.filter_eq_self.mpr fun _ _=>rfl] at hzs
  have ez3:=hzs.eqmap (f:=fun m=>rT (Rw.lv m).wds) (fun a y e=>e)
  have hRa3:=s4 _ _ hRn2
  have hzl3:=hzs.len
  have bl3 : ((ac2 h).map rT).length + zs.length ≤ 1000:=by
   rw [List.length_map]
   omega
  refine ⟨R,D,_,zs,rfl,rfl,hRa3,hDD,by have : (1000 : Nat) ≤ sizeLine:=(by decide); omega,?_⟩
  obtain ⟨Hn3,en3⟩ : ∃ Hn,Hn = upd H4 R (.lst ((ac2 h).map rT ++ zs)):=⟨_,rfl⟩
  rw [← en3]
  have hRn3 : Hn3 R = some (.lst ((ac3 h).map rT)):=by
   rw [en3,Je,ez3]
   refine congrArg (fun z=>some (HO.lst z)) ?_
   show _ = ((ac2 h) ++ h.ls.map fun m=>(Rw.lv m).wds).map rT
   rw [List.map_append,List.map_map]
   rfl
  have S3 : Same H Hn3:=by rw [en3]; exact (S2.trans s4).upd nR
  clear en3 hzs hDD hD
  have hsk4:=hs.same S3
  obtain ⟨ys4,hy4,hA4⟩:=hsk4.e4
  have hhh4:=S3 _ _ hh1
  walk_at "rd"
  refine J0r h.ws (fun _=>true) (fun m y _=>y = rT (Rw.ws m).wds) (fun σ=>∃ v1 v2 v3,σ = [v1,v2,v3]) (J0L (SqL.of hy4)) hA4.len (by omega) ⟨_,_,_,rfl⟩ (fun _ _ _ _ _ z=>z) (fun j m v σ H' ha hv hσ s' Rf Rt _ hR=>?_) (fun D H4 zs hD s4 hzs hDD=>?_)
  ·obtain ⟨v1,v2,v3,rfl⟩:=hσ
   obtain ⟨y,hy2,t,rfl,ht⟩:=hA4.get ha
   have hva : v = .ref t:=Option.some.inj (hv.symm.trans hy2)
   subst hva
   have gm:=g.wg m (List.mem_of_getElem? ha)
   have f1:=gm.d0
   have f2 : m.day < 10 ^ 41:=lt41 (by have:=gm.d1; have:=b.d1; omega)
   have f3:=nml _ gm.nm
   have f7:=num2 (i:=m.day) (by have:=gm.d1; have:=b.d1; omega)
   have f8 : m.ms.length ≤ 5:=by
    have:=J2r gm.mn gm.ms
    rw [List.length_append,List.length_singleton] at this
    omega
   have ht':=s' _ _ ht
   walk_at "rd"
   refine hR _ _ _ rfl ⟨_,_,_,rfl⟩ (Same.refl _) (congrArg T ?_)
   simp [rowT,JV,Rw.wds]
  rw [List.filter_eq_self.mpr fun _ _=>rfl] at hzs
  have ez4:=hzs.eqmap (f:=fun m=>rT (Rw.ws m).wds) (fun a y e=>e)
  have hRa4:=s4 _ _ hRn3
  have hzl4:=hzs.len
  have bl4 : ((ac3 h).map rT).length + zs.length ≤ 1000:=by
   rw [List.length_map]
   omega
  refine ⟨R,D,_,zs,rfl,rfl,hRa4,hDD,by have : (1000 : Nat) ≤ sizeLine:=(by decide); omega,?_⟩
  obtain ⟨Hn4,en4⟩ : ∃ Hn,Hn = upd H4 R (.lst ((ac3 h).map rT ++ zs)):=⟨_,rfl⟩
  rw [← en4]
  have hRn4 : Hn4 R = some (.lst ((ac4 h).map rT)):=by
   rw [en4,Je,ez4]
   refine congrArg (fun z=>some (HO.lst z)) ?_
   show _ = ((ac3 h) ++ h.ws.map fun m=>(Rw.ws m).wds).map rT
   rw [List.map_append,List.map_map]
   rfl
  have S4 : Same H Hn4:=by rw [en4]; exact (S3.trans s4).upd nR
  clear en4 hzs hDD hD
  have hsk5:=hs.same S4
  obtain ⟨ys5,hy5,hA5⟩:=hsk5.e5
  have hhh5:=S4 _ _ hh1
  walk_at "rd"
  refine J0r h.rts (fun _=>true) (fun m y _=>y = rT (Rw.rt (J1r 1 m)).wds) (fun σ=>∃ v1 v2,σ = [v1,v2]) (J0L (SqL.of hy5)) hA5.len (by omega) ⟨_,_,rfl⟩ (fun _ _ _ _ _ z=>z) (fun j m v σ H' ha hv hσ s' Rf Rt _ hR=>?_) (fun D H4 zs hD s4 hzs hDD=>?_)
  ·obtain ⟨v1,v2,rfl⟩:=hσ
   obtain ⟨y,hy2,t,pr,rfl,ht,hpr⟩:=hA5.get ha
   have hva : v = .ref t:=Option.some.inj (hv.symm.trans hy2)
   subst hva
   have gm:=g.rg m (List.mem_of_getElem? ha)
   have gx:=hx m (List.mem_of_getElem? ha)
   have f3 : m.nm.length ≤ 8:=by
    rcases gm.nm with e | e
    ·rw [e]; decide
    ·exact nml _ e
   have ht':=s' _ _ ht
   have hpr':=JH.keeps s'.keeps hpr
   walk_at "rd"
   exact hR _ _ _ rfl ⟨_,_,rfl⟩ (Same.refl _) rfl
  rw [List.filter_eq_self.mpr fun _ _=>rfl] at hzs
  have ez5:=hzs.eqmap (f:=fun m=>rT (Rw.rt (J1r 1 m)).wds) (fun a y e=>e)
  have hRa5:=s4 _ _ hRn4
  have hzl5:=hzs.len
  have bl5 : ((ac4 h).map rT).length + zs.length ≤ 1000:=by
   rw [List.length_map]
   omega
  refine ⟨R,D,_,zs,rfl,rfl,hRa5,hDD,by have : (1000 : Nat) ≤ sizeLine:=(by decide); omega,?_⟩
  obtain ⟨Hn5,en5⟩ : ∃ Hn,Hn = upd H4 R (.lst ((ac4 h).map rT ++ zs)):=⟨_,rfl⟩
  rw [← en5]
  have hRn5 : Hn5 R = some (.lst ((ac5 1 h).map rT)):=by
   rw [en5,Je,ez5]
   refine congrArg (fun z=>some (HO.lst z)) ?_
   show _ = ((ac4 h) ++ h.rts.map fun m=>(Rw.rt (J1r 1 m)).wds).map rT
   rw [List.map_append,List.map_map]
   rfl
  have S5 : Same H Hn5:=by rw [en5]; exact (S4.trans s4).upd nR
  clear en5 hzs hDD hD
  have hsk6:=hs.same S5
  obtain ⟨ys6,hy6,hA6⟩:=hsk6.e6
  have hhh6:=S5 _ _ hh1
  walk_at "rd"
  refine J0r h.prs (fun _=>true) (fun m y _=>y = rT (Rw.pq m).wds) (fun σ=>∃ v1 v2 v3,σ = [v1,v2,v3]) (J0L (SqL.of hy6)) hA6.len (by omega) ⟨_,_,_,rfl⟩ (fun _ _ _ _ _ z=>z) (fun j m v σ H' ha hv hσ s' Rf Rt _ hR=>?_) (fun D H4 zs hD s4 hzs hDD=>?_)
  ·obtain ⟨v1,v2,v3,rfl⟩:=hσ
   obtain ⟨y,hy2,t,rfl,ht⟩:=hA6.get ha
   have hva : v = .ref t:=Option.some.inj (hv.symm.trans hy2)
   subst hva
   have gm:=g.qg m (List.mem_of_getElem? ha)
   have f1:=nml _ gm.one
   have f2:=nml _ gm.two
   have f3 : m.wd.length ≤ 5:=by rcases gm.wd with e | e <;> rw [e] <;> decide
   have ht':=s' _ _ ht
   walk_at "rd"
   refine hR _ _ _ rfl ⟨_,_,_,rfl⟩ (Same.refl _) (congrArg T ?_)
   simp [rowT,JV,Rw.wds]
  rw [List.filter_eq_self.mpr fun _ _=>rfl] at hzs
  have ez6:=hzs.eqmap (f:=fun m=>rT (Rw.pq m).wds) (fun a y e=>e)
  have hRa6:=s4 _ _ hRn5
  have hzl6:=hzs.len
  have bl6 : ((ac5 1 h).map rT).length + zs.length ≤ 1000:=by
   rw [List.length_map]
   omega
  refine ⟨R,D,_,zs,rfl,rfl,hRa6,hDD,by have : (1000 : Nat) ≤ sizeLine:=(by decide); omega,?_⟩
  obtain ⟨Hn6,en6⟩ : ∃ Hn,Hn = upd H4 R (.lst ((ac5 1 h).map rT ++ zs)):=⟨_,rfl⟩
  rw [← en6]
  have hRn6 : Hn6 R = some (.lst ((ac6 1 h).map rT)):=by
   rw [en6,Je,ez6]
   refine congrArg (fun z=>some (HO.lst z)) ?_
   show _ = ((ac5 1 h) ++ h.prs.map fun m=>(Rw.pq m).wds).map rT
   rw [List.map_append,List.map_map]
   rfl
  have S6 : Same H Hn6:=by rw [en6]; exact (S5.trans s4).upd nR
  clear en6 hzs hDD hD
  rw [JeP] at hRn6
  have gp:=J6f g hx 1
  obtain ⟨ll,lr⟩:=J4V gp
  have hD2 : SqL K Hn6 R (((JN (h.pick 1)).map rowT).map T):=by refine SqL.of ?_; rw [hRn6,List.map_map]; rfl
  have hjl:=J6e gp
  walk_at "rd"
  exact q Hn6 S6
end
theorem Jhb (h : Hs) : h.pick 0 = h:=by
 have e : h.rts.map (J1r 0) = h.rts:=by
  have e0 : J1r 0 = id:=funext fun a=>by simp [J1r]
  rw [e0,List.map_id]
 show ({ h with rts:=h.rts.map (J1r 0) } : Hs) = h
 rw [e]
theorem Jgm (h : Hs) : (h.pick 1).pick 1 = h.pick 1:=by
 show ({ h with rts:=(h.rts.map (J1r 1)).map (J1r 1) } : Hs) = { h with rts:=h.rts.map (J1r 1) }
 rw [List.map_map]
 have e0 : J1r 1 ∘ J1r 1 = J1r 1:=funext fun a=>by simp [J1r]
 rw [e0]
theorem Jfm {h : Hs} (hx : ∀ a ∈ h.rts,TxR a.r a.r.tx) : ∀ a ∈ (h.pick 1).rts,TxR a.r a.r.tx:=fun a ha=>by
 obtain ⟨b,hb,rfl⟩:=List.mem_map.mp ha
 exact hx b hb
theorem at8' (a b c d e f g i : V) : atI [a,b,c,d,e,f,g,i] 0 = some a ∧ atI [a,b,c,d,e,f,g,i] 1 = some b ∧ atI [a,b,c,d,e,f,g,i] 2 = some c ∧ atI [a,b,c,d,e,f,g,i] 3 = some d ∧ atI [a,b,c,d,e,f,g,i] 4 = some e ∧ atI [a,b,c,d,e,f,g,i] 5 = some f ∧ atI [a,b,c,d,e,f,g,i] 6 = some g ∧ atI [a,b,c,d,e,f,g,i] 7 = some i:=by simp [atI,ixN]
theorem LsA.mv {α : Type} {P : α → V → Hp → Prop} (hk : ∀ a y Ha Hb,L2.Keeps Ha Hb → P a y Ha → P a y Hb) {H H' : Hp} {a : Addr} {xs : List α} (x : LsA P H a xs) (k : L2.Keeps H H') (e : H' a = H a) : LsA P H' a xs:=let ⟨ys,h1,h2⟩:=x; ⟨ys,e.trans h1,h2.imp fun a y=>hk a y _ _ k⟩
theorem HSt.mv {C1 C2 : Addr} {c : Cs} {H H' : Hp} {h : Addr} {a : Ad} {x : Hs} (q : HSt C1 C2 c H h a x) (k : L2.Keeps H H') (e1 : H' a.a1 = H a.a1) (e2 : H' a.a2 = H a.a2) (e3 : H' a.a3 = H a.a3) (e4 : H' a.a4 = H a.a4) (e5 : H' a.a5 = H a.a5) (e6 : H' a.a6 = H a.a6) : HSt C1 C2 c H' h a x :=
 ⟨q.ho.keeps k,q.ds,q.e1.mv NdAt.keeps k e1,q.e2.mv PsO.keeps k e2,q.e3.mv LvT.keeps k e3,q.e4.mv WsT.keeps k e4,q.e5.mv RuO.keeps k e5,q.e6.mv PqT.keeps k e6⟩
structure Clr (six : List Addr) (H H' : Hp) : Prop where
 ls : ∀ l ∈ six,∃ xs,H' l = some (.lst xs)
 ot : ∀ c,c ∉ six → H' c = H c
theorem Clr.step {six : List Addr} {H H' : Hp} (q : Clr six H H') {l : Addr} (hl : l ∈ six) {zs : List V} : Clr six H (upd H' l (.lst zs)):=by
 refine ⟨fun m hm=>?_,fun c hc=>?_⟩
 ·by_cases e : m = l
  ·subst e
   exact ⟨zs,Je⟩
  ·rw [Jj e]
   exact q.ls m hm
 ·rw [Jj (fun e=>hc (by rw [e]; exact hl))]
  exact q.ot c hc
theorem Clr.keeps {six : List Addr} {H H' : Hp} (q : Clr six H H') (h0 : ∀ l ∈ six,∃ xs,H l = some (.lst xs)) : L2.Keeps H H':=fun c o e hn=>by
 rw [q.ot c fun hc=>by
  obtain ⟨xs,hx⟩:=h0 c hc
  rw [e] at hx
  exact hn xs (Option.some.inj hx)]
 exact e
section
variable {P : Program} {w : World} {K : PySem.W.Frag} {mg : Str → Option Value} {base : Heap} {J9 Jd J8 Jb J5 Ji J4 J1 : Addr}
local macro_rules | `(tactic| walk_at "lk")=>`(tactic| first | exact Or.inl (SqL.of (by with_reducible assumption)) | exact J4T _ _ _ _ _ _ _ _ | exact J42 _ _ _ _ _ _ _ _ | exact J48 _ _ _ _ _ _ _ _ | exact J31 _ _ _ _ _ _ _ _ | exact J40 _ _ _ _ _ _ _ _ | exact J3w _ _ _ _ _ _ _ _ | exact J4a _ _ _ _ _ _ _ _ | exact J4c _ _ _ _ _ _ _ _)
theorem JgB {f : Addr} {fd : FuncData} (tx : Tx K mg J9 Jd J8 Jb J5 Ji J4 J1) (F : Fun K "law" "law" J4q f fd) : FnOk P w K mg base CX0 90 f fd ["_law_script"] (sp_law K):=by
 have J6k:=Ja1 (P:=P) (w:=w) (base:=base) tx
 have J4w:=Jag (P:=P) (w:=w) (base:=base) tx
 have J4h:=J9i (P:=P) (w:=w) (base:=base) tx
 have J8T:=Jf0 (P:=P) (w:=w) (base:=base) tx
 have J4u:=tx.J1Z.g (J4X (P:=P) (w:=w) (base:=base) tx)
 have J5y:=tx.JW.g (J5q (P:=P) (w:=w) (base:=base) tx)
 refine F.ok J3Q (fun vs H Q E h=>?_) (fun cdv A outer s H vs Q E hr h=>?_)
 ·obtain ⟨a,ns,rfl,_⟩:=h
  rfl
 ·obtain ⟨sc,ns,rfl,hS,hns,q⟩:=h
  refine ⟨_,(J6 (Jw (i:=1) J3Q.nd rfl (Or.inl rfl) (Jv J6k (hr.mono (by decide)) (J0 (pv 0) J2)))
   (J6 (Jw (i:=2) J3Q.nd rfl (Or.inl rfl) (J2L (K:=K) rfl (Jk (l:=[10]) (by decide +kernel)) (J0 (Jv J4w (hr.mono (by decide)) (J0 (pv 1) (J0 J3 J2))) J2)))
   (J6 (Jw (i:=3) J3Q.nd rfl (Or.inl rfl) (Jv J4h (hr.mono (by decide)) (J0 (J2L (K:=K) rfl (Jk (l:=[10]) (by decide +kernel)) (J0 (Jv J4w (hr.mono (by decide)) (J0 (pv 1) (J0 J3 J2))) J2)) J2)))
   (J6 (J9G (k:=4) (osc:=J7 J4q) (ON:=["_law_script","_law_parts_here","_law_due","_law_read","_law_persons","_law_lists","_law_made","_law_one","_law_house","_law_found"]) (N:=["_law_one"]) (js:=[none]) J3Q.nd rfl (Or.inl rfl) ⟨rfl,by decide +kernel,by decide +kernel,by decide +kernel,rfl,by decide +kernel⟩ rfl rfl rfl (J02 (K:=K) rfl (Jr (J0E (K:=K) rfl) (pv 1) J3 (fun _ _=>rfl))) (fun _ _ _ _ _=>Ju (i:=0) (show List.Nodup (["_law_one"] : List Str) from by decide +kernel) rfl (Or.inl rfl)) (fun _ _ _ _ _=>J0q) (fun _ _ _ _ _=>(J3U (r:=rPer J4) J4u (hr.mono (by decide)) JdE (J0 (Jr (J0E (K:=K) rfl) (pv 0) J3 (fun _ _=>rfl)) (J0 (Jr (J0E (K:=K) rfl) (pv 0) J3 (fun _ _=>rfl)) (J0 (Jr (J0E (K:=K) rfl) (pv 0) J3 (fun _ _=>rfl)) (J0 (Jr (J0E (K:=K) rfl) (pv 0) J3 (fun _ _=>rfl)) (J0 (Jr (J0E (K:=K) rfl) (pv 0) J3 (fun _ _=>rfl)) J2))))))))
   (J6 (Jw (i:=5) J3Q.nd rfl (Or.inl rfl) (J0d (J0 (JG J03 rfl tx.J26 J0s (J0 (Jr (J0E (K:=K) rfl) (pv 1) J3 (fun _ _=>rfl)) J2)) (J0 (pv 4) (J0 (JG J03 rfl tx.J26 J0s (J0 (Jr (J0E (K:=K) rfl) (pv 1) J3 (fun _ _=>rfl)) J2)) (J0 (JG J03 rfl tx.J26 J0s (J0 (Jr (J0E (K:=K) rfl) (pv 1) J3 (fun _ _=>rfl)) J2)) (J0 (JG J03 rfl tx.J26 J0s (J0 (JD (K:=K) rfl (pv 3) rfl) J2)) (J0 (JG J03 rfl tx.J26 J0s (J0 (Jr (J0E (K:=K) rfl) (pv 1) J3 (fun _ _=>rfl)) J2)) J2))))))))
   (J6 (Jw (i:=6) J3Q.nd rfl (Or.inl rfl) (J3U (r:=rHou J1) J5y (hr.mono (by decide)) Jet (J0 (Jr (J0E (K:=K) rfl) (pv 1) J3 (fun _ _=>rfl)) (J0 (Jr (J0E (K:=K) rfl) (pv 1) J3 (fun _ _=>rfl)) (J0 (Jr (Jg (K:=K) rfl) (pv 5) J3 (fun _ _=>rfl)) (J0 (Jr (Jg (K:=K) rfl) (pv 5) J3 (fun _ _=>rfl)) (J0 (Jr (Jg (K:=K) rfl) (pv 5) J3 (fun _ _=>rfl)) (J0 (Jr (Jg (K:=K) rfl) (pv 5) J3 (fun _ _=>rfl)) (J0 (Jr (Jg (K:=K) rfl) (pv 5) J3 (fun _ _=>rfl)) (J0 (Jr (Jg (K:=K) rfl) (pv 5) J3 (fun _ _=>rfl)) J2))))))))))
   (J6 (J2J PassesOwn.never rfl (J02 (K:=K) rfl (pv 5)) (Ju (i:=7) J3Q.nd rfl (Or.inl rfl)) (Ja (J0i (Jga PySem.F.plainAttrs_list PySem.F.slot_list_clear PySem.F.type_list_clear Jec (pv 7)))))
   (J6 (J2J PassesOwn.never rfl (J02 (K:=K) rfl (J0d (J0 (pv 3) (J0 (pv 6) J2)))) (Ju (i:=8) J3Q.nd rfl (Or.inl rfl)) (J6 (Jw (i:=9) J3Q.nd rfl (Or.inl rfl) (Jv J8T (hr.mono (by decide)) (J0 (pv 8) J2)))
   (Ja (JK (PW.pt (J1O (J0t (J0u (Jx JcW rfl tx.J0g J22 (J0 (pv 9) (J0 (JgW tx.J3f J0o) J2))))) (J1q (Jp J3O (pv 9) (pv 2) (Js _))))) (Ja (Jl J1c)) Jz))))
   (Ja (Jl (J0v JO (Jv J8T (hr.mono (by decide)) (J0 (Jv J4h (hr.mono (by decide)) (J0 (pv 2) J2)) J2)) (pv 2) (Js _)))))))))))),?_⟩
  walk_at "st"
  clear J6k J4w J4h J8T J4u J5y
  walk_at "rd"
  intro pt H1 h s1 hp g hx
  have z1 : (1 : Int) = 0 ∨ (1 : Int) = 1:=.inr rfl
  have z0 : (0 : Int) = 0 ∨ (0 : Int) = 1:=.inl rfl
  walk_at "rd"
  intro D1 H2 s2 hD1
  have gp1:=J6f g hx 1
  have gp0:=J6f g hx 0
  have hD1' : SqL K H2 D1 (((JN (h.pick 1)).map rowT).map T):=by refine SqL.of ?_; rw [hD1,List.map_map]; rfl
  have hjl1:=J6e gp1
  have hjl0:=J6e gp0
  have hp2:=hp.same s2
  walk_at "rd"
  intro D2 H3 s3 hD2
  have hD2' : SqL K H3 D2 (((JN (h.pick 0)).map rowT).map T):=by refine SqL.of ?_; rw [hD2,List.map_map]; rfl
  walk_at "rd"
  intro hR aR H4 s4 hst
  rw [Jhb] at hst
  obtain ⟨dxr,hhr⟩:=hst.ho
  obtain ⟨b1,b2,b3,b4,b5,b6,xs,ys,zs,us,rs,qs,htp,p1,A1,p2,A2,p3,A3,p4,A4,p5,A5,p6,A6⟩:=hp.same ((s2.trans s3).trans s4)
  obtain ⟨k0,k1,k2,k3,k4,k5,k6,k7⟩:=at8' (.int h.d) (T h.ks) (.ref b1) (.ref b2) (.ref b3) (.ref b4) (.ref b5) (.ref b6)
  obtain ⟨y5,f5,B5⟩:=hst.e5
  have cl:=tx.JW.cl
  have nf_rules:=tx.J0j
  have pl:=g.b.pl
  walk_at "rd"
  refine J0r h.ps (fun _=>true) (PsO J4) (fun σ=>∃ v,σ = [v]) (J0L (SqL.of p2)) A2.len (by omega) ⟨_,rfl⟩ PsO.keeps (fun j n v σ H' ha hv hσ s' Rf Rt _ hR=>?_) (fun DP H5 yp nDP s5 hyp hDP=>?_)
  ·obtain ⟨u,rfl⟩:=hσ
   obtain ⟨y,hy2,t,rfl,ht⟩:=A2.get ha
   have hva : v = .ref t:=Option.some.inj (hv.symm.trans hy2)
   subst hva
   have ht':=s' _ _ ht
   obtain ⟨i0,i1,i2,i3,i4⟩:=at5 (T n.nm) (T n.sk) (.int n.most) (.int n.car) (T n.past)
   walk_at "rd"
   exact fun pp H6 s6 _ hpp=>hR _ _ _ rfl ⟨_,rfl⟩ s6 ⟨pp,rfl,hpp⟩
  rw [List.filter_eq_self.mpr fun _ _=>rfl] at hyp
  have htp5:=s5 _ _ htp
  have p15:=s5 _ _ p1
  have p35:=s5 _ _ p3
  have p45:=s5 _ _ p4
  have p65:=s5 _ _ p6
  have f55:=s5 _ _ f5
  have hhr5:=s5 _ _ hhr
  walk_at "rd"
  intro l1 nl1
  obtain ⟨Ha,ea,hl1,sa⟩:=newl (xs:=xs) nl1
  rw [← ea]
  have htpa:=sa _ _ htp5
  have p3a:=sa _ _ p35
  walk_at "rd"
  intro l3 nl3
  obtain ⟨Hb,eb,hl3,sb⟩:=newl (xs:=zs) nl3
  rw [← eb]
  have tb:=sa.trans sb
  have htpb:=tb _ _ htp5
  have p4b:=tb _ _ p45
  walk_at "rd"
  intro l4 nl4
  obtain ⟨Hc,ec,hl4,sc4⟩:=newl (xs:=us) nl4
  rw [← ec]
  have tc:=tb.trans sc4
  have hhrc:=tc _ _ hhr5
  have f5c:=tc _ _ f55
  walk_at "rd"
  intro l5 nl5
  obtain ⟨Hd,ed,hl5,sd⟩:=newl (xs:=y5) nl5
  rw [← ed]
  have td:=tc.trans sd
  have htpd:=td _ _ htp5
  have p6d:=td _ _ p65
  walk_at "rd"
  intro l6 nl6
  obtain ⟨He,ee,hl6,se⟩:=newl (xs:=qs) nl6
  rw [← ee]
  have te:=td.trans se
  walk_at "rd"
  intro LL nLL
  obtain ⟨Hf,ef,hLL,sf⟩:=newl (xs:=[.ref l1,.ref DP,.ref l3,.ref l4,.ref l5,.ref l6]) nLL
  rw [← ef]
  have tf:=te.trans sf
  have g1:=((((sb.trans sc4).trans sd).trans se).trans sf) _ _ hl1
  have g2:=tf _ _ hDP
  have g3:=(((sc4.trans sd).trans se).trans sf) _ _ hl3
  have g4:=((sd.trans se).trans sf) _ _ hl4
  have g5:=(se.trans sf) _ _ hl5
  have g6:=sf _ _ hl6
  have htpf:=tf _ _ htp5
  obtain ⟨j0,j1,j2,j3,j4,j5⟩:=at6' (.ref l1) (.ref DP) (.ref l3) (.ref l4) (.ref l5) (.ref l6)
  have nL : ∀ l ∈ [l1,DP,l3,l4,l5,l6],LL ≠ l:=fun l hl=>by
   simp only [List.mem_cons,List.not_mem_nil,or_false] at hl
   rcases hl with rfl | rfl | rfl | rfl | rfl | rfl
   ·exact (Jc ((((sb.trans sc4).trans sd).trans se) _ _ hl1) nLL).symm
   ·exact (Jc (te _ _ hDP) nLL).symm
   ·exact (Jc (((sc4.trans sd).trans se) _ _ hl3) nLL).symm
   ·exact (Jc ((sd.trans se) _ _ hl4) nLL).symm
   ·exact (Jc (se _ _ hl5) nLL).symm
   ·exact (Jc hl6 nLL).symm
  have nR : ∀ {c : Addr} {o : HO},H4 c = some o → c ∉ [l1,DP,l3,l4,l5,l6]:=fun {c o} e hl=>by
   simp only [List.mem_cons,List.not_mem_nil,or_false] at hl
   have e5:=s5 _ _ e
   rcases hl with rfl | rfl | rfl | rfl | rfl | rfl
   ·rw [e5] at nl1; cases nl1
   ·rw [e] at nDP; cases nDP
   ·rw [sa _ _ e5] at nl3; cases nl3
   ·rw [tb _ _ e5] at nl4; cases nl4
   ·rw [tc _ _ e5] at nl5; cases nl5
   ·rw [td _ _ e5] at nl6; cases nl6
  have hstf:=(hst.same s5).same tf
  have x1:=(A1.imp fun a y=>NdAt.keeps a y _ _ s5.keeps).imp fun a y=>NdAt.keeps a y _ _ tf.keeps
  have x2:=hyp.imp fun a y=>PsO.keeps a y _ _ tf.keeps
  have x3:=(A3.imp fun a y=>LvT.keeps a y _ _ s5.keeps).imp fun a y=>LvT.keeps a y _ _ tf.keeps
  have x4:=(A4.imp fun a y=>WsT.keeps a y _ _ s5.keeps).imp fun a y=>WsT.keeps a y _ _ tf.keeps
  have x5:=(B5.imp fun a y=>RuO.keeps a y _ _ s5.keeps).imp fun a y=>RuO.keeps a y _ _ tf.keeps
  have x6:=(A6.imp fun a y=>PqT.keeps a y _ _ s5.keeps).imp fun a y=>PqT.keeps a y _ _ tf.keeps
  walk_at "rd"
  intro hm Hg m1 m2 m3 m4 m5 m6 sg hou c1 c2 c3 c4 c5 c6 n1 n2 n3 n4 n5 n6 ds
  have hstm : HSt J4 J1 (cs6 J9 Jd J8 Jb J5 Ji J4 J1) Hg hm ⟨m1,m2,m3,m4,m5,m6⟩ h:=⟨hou,ds,⟨_,c1,x1.imp fun a y=>NdAt.keeps a y _ _ sg.keeps⟩,⟨_,c2,x2.imp fun a y=>PsO.keeps a y _ _ sg.keeps⟩,⟨_,c3,x3.imp fun a y=>LvT.keeps a y _ _ sg.keeps⟩,⟨_,c4,x4.imp fun a y=>WsT.keeps a y _ _ sg.keeps⟩,⟨_,c5,x5.imp fun a y=>RuO.keeps a y _ _ sg.keeps⟩,⟨_,c6,x6.imp fun a y=>PqT.keeps a y _ _ sg.keeps⟩⟩
  have hstr:=hstf.same sg
  have hLLg:=sg _ _ hLL
  have six0 : ∀ l ∈ [l1,DP,l3,l4,l5,l6],∃ xs,Hg l = some (.lst xs):=fun l hl=>by
   simp only [List.mem_cons,List.not_mem_nil,or_false] at hl
   rcases hl with rfl | rfl | rfl | rfl | rfl | rfl
   ·exact ⟨_,sg _ _ g1⟩
   ·exact ⟨_,sg _ _ g2⟩
   ·exact ⟨_,sg _ _ g3⟩
   ·exact ⟨_,sg _ _ g4⟩
   ·exact ⟨_,sg _ _ g5⟩
   ·exact ⟨_,sg _ _ g6⟩
  have nM : ∀ {c : Addr},Hf c = none → c ∉ [l1,DP,l3,l4,l5,l6]:=fun {c} e hl=>by
   simp only [List.mem_cons,List.not_mem_nil,or_false] at hl
   rcases hl with rfl | rfl | rfl | rfl | rfl | rfl
   ·rw [g1] at e; cases e
   ·rw [g2] at e; cases e
   ·rw [g3] at e; cases e
   ·rw [g4] at e; cases e
   ·rw [g5] at e; cases e
   ·rw [g6] at e; cases e
  have nLm : LL ∉ [l1,DP,l3,l4,l5,l6]:=fun hl=>nL LL hl rfl
  have rl1:=hst.e1
  have rl2:=hst.e2
  have rl3:=hst.e3
  have rl4:=hst.e4
  have rl6:=hst.e6
  walk_at "rd"
  refine J2I (K:=K) (xs:=[.ref l1,.ref DP,.ref l3,.ref l4,.ref l5,.ref l6]) (fun i σ H8=>Here (∃ v7,σ = [some (.ref sc),some (.ref pt),some (T (JV [10] ((JN (h.pick 1)).map rowT))),some (.ref hR),some (.ref DP),some (.ref LL),some (.ref hm),v7,none,none] ∧ Clr [l1,DP,l3,l4,l5,l6] Hg H8)) (Here.mk ⟨_,rfl,⟨six0,fun _ _=>rfl⟩⟩) (fun i σ H8 _ hv=>by obtain ⟨_,_,c8⟩:=hv.out; exact SqL.of ((c8.ot LL nLm).trans hLLg)) ?_ ?_
  ·rintro i x σ H8 hi hv
   obtain ⟨v7,rfl,c8⟩:=hv.out
   obtain ⟨l,hl,rfl⟩ : ∃ l ∈ [l1,DP,l3,l4,l5,l6],x = V.ref l:=by
    have:=List.mem_of_getElem? hi
    simp only [List.mem_cons,List.not_mem_nil,or_false] at this
    rcases this with e | e | e | e | e | e
    ·exact ⟨l1,by simp,e⟩
    ·exact ⟨DP,by simp,e⟩
    ·exact ⟨l3,by simp,e⟩
    ·exact ⟨l4,by simp,e⟩
    ·exact ⟨l5,by simp,e⟩
    ·exact ⟨l6,by simp,e⟩
   obtain ⟨zs8,hz8⟩:=c8.ls l hl
   walk_at "rd"
   exact Here.mk ⟨_,rfl,c8.step hl⟩
  rintro σ H8 hv
  obtain ⟨v7,rfl,c8⟩:=hv.out
  have kp:=c8.keeps six0
  have hr8 : HSt J4 J1 (cs6 J9 Jd J8 Jb J5 Ji J4 J1) H8 hR aR h:=by
   obtain ⟨_,e1,_⟩:=hst.e1
   obtain ⟨_,e2,_⟩:=hst.e2
   obtain ⟨_,e3,_⟩:=hst.e3
   obtain ⟨_,e4,_⟩:=hst.e4
   obtain ⟨_,e6,_⟩:=hst.e6
   exact hstr.mv kp (c8.ot _ (nR e1)) (c8.ot _ (nR e2)) (c8.ot _ (nR e3)) (c8.ot _ (nR e4)) (c8.ot _ (nR f5)) (c8.ot _ (nR e6))
  have hm8 : HSt J4 J1 (cs6 J9 Jd J8 Jb J5 Ji J4 J1) H8 hm ⟨m1,m2,m3,m4,m5,m6⟩ h:=hstm.mv kp (c8.ot _ (nM n1)) (c8.ot _ (nM n2)) (c8.ot _ (nM n3)) (c8.ot _ (nM n4)) (c8.ot _ (nM n5)) (c8.ot _ (nM n6))
  clear hstr hstm hstf kp six0 nR nM nL x1 x2 x3 x4 x5 x6 g1 g2 g3 g4 g5 g6 c1 c2 c3 c4 c5 c6 hp hp2 hS rl1 rl2 rl3 rl4 rl6 A1 A2 A3 A4 A5 A6
  have dm : decide (T (J6u (h.pick 1)) = T (JV [10] ((JN (h.pick 1)).map rowT))) = true:=decide_eq_true rfl
  have dm2 : decide (T (J6u ((h.pick 1).pick 1)) = T (JV [10] ((JN (h.pick 1)).map rowT))) = true:=decide_eq_true (by rw [Jgm]; rfl)
  have hx1:=Jfm hx
  walk_at "rd"
  intro L2 nL2
  obtain ⟨H9,e9,hL9,s9⟩:=newl (xs:=[.ref hR,.ref hm]) nL2
  rw [← e9]
  have hr9:=hr8.same s9
  have hm9:=hm8.same s9
  walk_at "rd"
  refine J2I (K:=K) (xs:=[.ref hR,.ref hm]) (fun i σ H10=>Here (∃ v8 v9,σ = [some (.ref sc),some (.ref pt),some (T (JV [10] ((JN (h.pick 1)).map rowT))),some (.ref hR),some (.ref DP),some (.ref LL),some (.ref hm),v7,v8,v9] ∧ Same H9 H10)) (Here.mk ⟨none,none,rfl,Same.refl _⟩) (fun i σ H10 _ hv=>by obtain ⟨_,_,_,s10⟩:=hv.out; exact SqL.of (s10 _ _ hL9)) ?_ ?_
  ·rintro i x σ H10 hi hv
   obtain ⟨v8,v9,rfl,s10⟩:=hv.out
   obtain ⟨ho,ao,rfl,hso⟩ : ∃ ho ao,x = V.ref ho ∧ HSt J4 J1 (cs6 J9 Jd J8 Jb J5 Ji J4 J1) H10 ho ao h:=by
    have:=List.mem_of_getElem? hi
    simp only [List.mem_cons,List.not_mem_nil,or_false] at this
    rcases this with e | e
    ·exact ⟨hR,_,e,hr9.same s10⟩
    ·exact ⟨hm,_,e,hm9.same s10⟩
   walk_at "rd"
   intro H11 s11
   walk_at "rd"
   rw [dm]
   walk_at "rd"
   exact Here.mk ⟨_,_,rfl,s10.trans s11⟩
  rintro σ H10 hv
  obtain ⟨v8,v9,rfl,s10⟩:=hv.out
  walk_at "rd"
  intro h3 a3 H12 s12 hst3
  walk_at "rd"
  intro H13 s13
  walk_at "rd"
  rw [dm2]
  exact q _
end
open PySem.W in
theorem all_mk {l : OpenLaw} {w : World} {K : Frag} {h : Heap} {mg : Str → Option Value} {fa J9 Jd J8 Jb J5 Ji J4 J1 q1 q2 q3 q4 q5 q6 q7 q8 q9 q10 q11 q12 q13 q14 q15 q16 q17 q18 q19 q20 q21 q22 q23 q24 q25 q26 q27 q28 q29 q30 q31 q32 q33 q34 q35 q36 q37 q38 q39 q40 q41 q42 q43 q44 q45 q46 q47 q48 q49 q50 q51 q52 q53 q54 q55 q56 q57 q58 q59 q60 q61 q62 q63 q64 ga_PLACES : Addr} (X : K.In h) (G : h.Ns mainGlobals mg) (hfa : mg "law" = some (.ref fa))
  {od1 an1 od2 an2 od3 an3 od4 an4 od5 an5 od6 an6 od7 an7 od8 an8 od9 an9 od10 an10 od11 an11 od12 an12 od13 an13 od14 an14 od15 an15 od16 an16 od17 an17 od18 an18 od19 an19 od20 an20 od21 an21 od22 an22 od23 an23 od24 an24 od25 an25 od26 an26 od27 an27 od28 an28 od29 an29 od30 an30 od31 an31 od32 an32 od33 an33 od34 an34 od35 an35 od36 an36 od37 an37 od38 an38 od39 an39 od40 an40 od41 an41 od42 an42 od43 an43 od44 an44 od45 an45 od46 an46 od47 an47 od48 an48 od49 an49 od50 an50 od51 an51 od52 an52 od53 an53 od54 an54 od55 an55 od56 an56 od57 an57 od58 an58 od59 an59 od60 an60 od61 an61 od62 an62 od63 an63 od64 an64 : Option Addr} {sl1 sl2 sl3 sl4 sl5 sl6 sl7 sl8 sl9 sl10 sl11 sl12 sl13 sl14 sl15 sl16 sl17 sl18 sl19 sl20 sl21 sl22 sl23 sl24 sl25 sl26 sl27 sl28 sl29 sl30 sl31 sl32 sl33 sl34 sl35 sl36 sl37 sl38 sl39 sl40 sl41 sl42 sl43 sl44 sl45 sl46 sl47 sl48 sl49 sl50 sl51 sl52 sl53 sl54 sl55 sl56 sl57 sl58 sl59 sl60 sl61 sl62 sl63 sl64 : Array (Option Value)} {oc1 kV1 dc1 pm1 cd1 ct1 oc2 kV2 dc2 pm2 cd2 ct2 oc3 kV3 dc3 pm3 cd3 ct3 oc4 kV4 dc4 pm4 cd4 ct4 oc5 kV5 dc5 pm5 cd5 ct5 oc6 kV6 dc6 pm6 cd6 ct6 oc7 kV7 dc7 pm7 cd7 ct7 oc8 kV8 dc8 pm8 cd8 ct8 oc9 kV9 dc9 pm9 cd9 ct9 oc10 kV10 dc10 pm10 cd10 ct10 oc11 kV11 dc11 pm11 cd11 ct11 oc12 kV12 dc12 pm12 cd12 ct12 oc13 kV13 dc13 pm13 cd13 ct13 oc14 kV14 dc14 pm14 cd14 ct14 oc15 kV15 dc15 pm15 cd15 ct15 oc16 kV16 dc16 pm16 cd16 ct16 oc17 kV17 dc17 pm17 cd17 ct17 oc18 kV18 dc18 pm18 cd18 ct18 oc19 kV19 dc19 pm19 cd19 ct19 oc20 kV20 dc20 pm20 cd20 ct20 oc21 kV21 dc21 pm21 cd21 ct21 oc22 kV22 dc22 pm22 cd22 ct22 oc23 kV23 dc23 pm23 cd23 ct23 oc24 kV24 dc24 pm24 cd24 ct24 oc25 kV25 dc25 pm25 cd25 ct25 oc26 kV26 dc26 pm26 cd26 ct26 oc27 kV27 dc27 pm27 cd27 ct27 oc28 kV28 dc28 pm28 cd28 ct28 oc29 kV29 dc29 pm29 cd29 ct29 oc30 kV30 dc30 pm30 cd30 ct30 oc31 kV31 dc31 pm31 cd31 ct31 oc32 kV32 dc32 pm32 cd32 ct32 oc33 kV33 dc33 pm33 cd33 ct33 oc34 kV34 dc34 pm34 cd34 ct34 oc35 kV35 dc35 pm35 cd35 ct35 oc36 kV36 dc36 pm36 cd36 ct36 oc37 kV37 dc37 pm37 cd37 ct37 oc38 kV38 dc38 pm38 cd38 ct38 oc39 kV39 dc39 pm39 cd39 ct39 oc40 kV40 dc40 pm40 cd40 ct40 oc41 kV41 dc41 pm41 cd41 ct41 oc42 kV42 dc42 pm42 cd42 ct42 oc43 kV43 dc43 pm43 cd43 ct43 oc44 kV44 dc44 pm44 cd44 ct44 oc45 kV45 dc45 pm45 cd45 ct45 oc46 kV46 dc46 pm46 cd46 ct46 oc47 kV47 dc47 pm47 cd47 ct47 oc48 kV48 dc48 pm48 cd48 ct48 oc49 kV49 dc49 pm49 cd49 ct49 oc50 kV50 dc50 pm50 cd50 ct50 oc51 kV51 dc51 pm51 cd51 ct51 oc52 kV52 dc52 pm52 cd52 ct52 oc53 kV53 dc53 pm53 cd53 ct53 oc54 kV54 dc54 pm54 cd54 ct54 oc55 kV55 dc55 pm55 cd55 ct55 oc56 kV56 dc56 pm56 cd56 ct56 oc57 kV57 dc57 pm57 cd57 ct57 oc58 kV58 dc58 pm58 cd58 ct58 oc59 kV59 dc59 pm59 cd59 ct59 oc60 kV60 dc60 pm60 cd60 ct60 oc61 kV61 dc61 pm61 cd61 ct61 oc62 kV62 dc62 pm62 cd62 ct62 oc63 kV63 dc63 pm63 cd63 ct63 oc64 kV64 dc64 pm64 cd64 ct64 : Value}
  {tk_MOST_DAYS tk_MOST_DUTIES tk_MOST_FIGURES tk_MOST_KINDS tk_MOST_LEAVE tk_MOST_NEED tk_MOST_PAIRS tk_MOST_PERSONS tk_MOST_RULES tk_MOST_SIGNS_OF_A_NAME tk_MOST_WISHES tk_MOST_WORDS tk_PAST_MARKS tk_CAPITALS tk_DAYS_FIGURES tk_FIGURES tk_MANY_FIGURES tk_MARK_SIGNS tk_SMALL tk_WORD_SIGNS : Tok}
  (J95 : nsIn K mainGlobals "Never" = some (some (.ref J9)))
  (Jb6 : nsIn K mainGlobals "Most" = some (some (.ref Jd)))
  (J9h : nsIn K mainGlobals "Least" = some (some (.ref J8)))
  (Jbk : nsIn K mainGlobals "Both" = some (some (.ref Jb)))
  (J7i : nsIn K mainGlobals "Either" = some (some (.ref J5)))
  (Jdo : nsIn K mainGlobals "Not" = some (some (.ref Ji)))
  (J7g : nsIn K mainGlobals "Person" = some (some (.ref J4)))
  (J9l : nsIn K mainGlobals "House" = some (some (.ref J1)))
  (a1 : findIn K (.ref J9) "__init__" = some (some (.ref q1)))
  (i1 : isFn K (.ref q1) = true)
  (l1 : K.lookup q1 = some ⟨oc1,od1,.func (fnOf "__init__" "Never.__init__" (Jo J1B) (Jm J1B) (J7 J1B) .none kV1 dc1 pm1 an1 cd1 ct1),sl1⟩)
  (c1 : codeIn K cd1 "Never.__init__" = true)
  (k1 : keepIn K (.ref q1) = true)
  (a2 : findIn K (.ref Jd) "__init__" = some (some (.ref q2)))
  (i2 : isFn K (.ref q2) = true)
  (l2 : K.lookup q2 = some ⟨oc2,od2,.func (fnOf "__init__" "Most.__init__" (Jo J2k) (Jm J2k) (J7 J2k) .none kV2 dc2 pm2 an2 cd2 ct2),sl2⟩)
  (c2 : codeIn K cd2 "Most.__init__" = true)
  (k2 : keepIn K (.ref q2) = true)
  (a3 : findIn K (.ref J8) "__init__" = some (some (.ref q3)))
  (i3 : isFn K (.ref q3) = true)
  (l3 : K.lookup q3 = some ⟨oc3,od3,.func (fnOf "__init__" "Least.__init__" (Jo J1s) (Jm J1s) (J7 J1s) .none kV3 dc3 pm3 an3 cd3 ct3),sl3⟩)
  (c3 : codeIn K cd3 "Least.__init__" = true)
  (k3 : keepIn K (.ref q3) = true)
  (a4 : findIn K (.ref Jb) "__init__" = some (some (.ref q4)))
  (i4 : isFn K (.ref q4) = true)
  (l4 : K.lookup q4 = some ⟨oc4,od4,.func (fnOf "__init__" "Both.__init__" (Jo J2m) (Jm J2m) (J7 J2m) .none kV4 dc4 pm4 an4 cd4 ct4),sl4⟩)
  (c4 : codeIn K cd4 "Both.__init__" = true)
  (k4 : keepIn K (.ref q4) = true)
  (a5 : findIn K (.ref J5) "__init__" = some (some (.ref q5)))
  (i5 : isFn K (.ref q5) = true)
  (l5 : K.lookup q5 = some ⟨oc5,od5,.func (fnOf "__init__" "Either.__init__" (Jo J0Z) (Jm J0Z) (J7 J0Z) .none kV5 dc5 pm5 an5 cd5 ct5),sl5⟩)
  (c5 : codeIn K cd5 "Either.__init__" = true)
  (k5 : keepIn K (.ref q5) = true)
  (a6 : findIn K (.ref Ji) "__init__" = some (some (.ref q6)))
  (i6 : isFn K (.ref q6) = true)
  (l6 : K.lookup q6 = some ⟨oc6,od6,.func (fnOf "__init__" "Not.__init__" (Jo J2Y) (Jm J2Y) (J7 J2Y) .none kV6 dc6 pm6 an6 cd6 ct6),sl6⟩)
  (c6 : codeIn K cd6 "Not.__init__" = true)
  (k6 : keepIn K (.ref q6) = true)
  (a7 : findIn K (.ref J4) "__init__" = some (some (.ref q7)))
  (i7 : isFn K (.ref q7) = true)
  (l7 : K.lookup q7 = some ⟨oc7,od7,.func (fnOf "__init__" "Person.__init__" (Jo J12) (Jm J12) (J7 J12) .none kV7 dc7 pm7 an7 cd7 ct7),sl7⟩)
  (c7 : codeIn K cd7 "Person.__init__" = true)
  (k7 : keepIn K (.ref q7) = true)
  (a8 : findIn K (.ref J1) "__init__" = some (some (.ref q8)))
  (i8 : isFn K (.ref q8) = true)
  (l8 : K.lookup q8 = some ⟨oc8,od8,.func (fnOf "__init__" "House.__init__" (Jo J1D) (Jm J1D) (J7 J1D) .none kV8 dc8 pm8 an8 cd8 ct8),sl8⟩)
  (c8 : codeIn K cd8 "House.__init__" = true)
  (k8 : keepIn K (.ref q8) = true)
  (a9 : nsIn K mainGlobals "made_of" = some (some (.ref q9)))
  (l9 : K.lookup q9 = some ⟨oc9,od9,.func (fnOf "made_of" "made_of" (Jo J2W) (Jm J2W) (J7 J2W) .none kV9 dc9 pm9 an9 cd9 ct9),sl9⟩)
  (c9 : codeIn K cd9 "made_of" = true)
  (k9 : keepIn K (.ref q9) = true)
  (a10 : nsIn K mainGlobals "is_figure" = some (some (.ref q10)))
  (l10 : K.lookup q10 = some ⟨oc10,od10,.func (fnOf "is_figure" "is_figure" (Jo J2a) (Jm J2a) (J7 J2a) .none kV10 dc10 pm10 an10 cd10 ct10),sl10⟩)
  (c10 : codeIn K cd10 "is_figure" = true)
  (k10 : keepIn K (.ref q10) = true)
  (a11 : nsIn K mainGlobals "is_word" = some (some (.ref q11)))
  (l11 : K.lookup q11 = some ⟨oc11,od11,.func (fnOf "is_word" "is_word" (Jo J3r) (Jm J3r) (J7 J3r) .none kV11 dc11 pm11 an11 cd11 ct11),sl11⟩)
  (c11 : codeIn K cd11 "is_word" = true)
  (k11 : keepIn K (.ref q11) = true)
  (a12 : nsIn K mainGlobals "are_marks" = some (some (.ref q12)))
  (l12 : K.lookup q12 = some ⟨oc12,od12,.func (fnOf "are_marks" "are_marks" (Jo J2n) (Jm J2n) (J7 J2n) .none kV12 dc12 pm12 an12 cd12 ct12),sl12⟩)
  (c12 : codeIn K cd12 "are_marks" = true)
  (k12 : keepIn K (.ref q12) = true)
  (a13 : nsIn K mainGlobals "last_outside" = some (some (.ref q13)))
  (l13 : K.lookup q13 = some ⟨oc13,od13,.func (fnOf "last_outside" "last_outside" (Jo J0R) (Jm J0R) (J7 J0R) .none kV13 dc13 pm13 an13 cd13 ct13),sl13⟩)
  (c13 : codeIn K cd13 "last_outside" = true)
  (k13 : keepIn K (.ref q13) = true)
  (a14 : nsIn K mainGlobals "is_count" = some (some (.ref q14)))
  (l14 : K.lookup q14 = some ⟨oc14,od14,.func (fnOf "is_count" "is_count" (Jo J2R) (Jm J2R) (J7 J2R) .none kV14 dc14 pm14 an14 cd14 ct14),sl14⟩)
  (c14 : codeIn K cd14 "is_count" = true)
  (k14 : keepIn K (.ref q14) = true)
  (a15 : nsIn K mainGlobals "read_plain" = some (some (.ref q15)))
  (l15 : K.lookup q15 = some ⟨oc15,od15,.func (fnOf "read_plain" "read_plain" (Jo J1H) (Jm J1H) (J7 J1H) .none kV15 dc15 pm15 an15 cd15 ct15),sl15⟩)
  (c15 : codeIn K cd15 "read_plain" = true)
  (k15 : keepIn K (.ref q15) = true)
  (a16 : nsIn K mainGlobals "read_words" = some (some (.ref q16)))
  (l16 : K.lookup q16 = some ⟨oc16,od16,.func (fnOf "read_words" "read_words" (Jo J1t) (Jm J1t) (J7 J1t) .none kV16 dc16 pm16 an16 cd16 ct16),sl16⟩)
  (c16 : codeIn K cd16 "read_words" = true)
  (k16 : keepIn K (.ref q16) = true)
  (a17 : nsIn K mainGlobals "read_rule" = some (some (.ref q17)))
  (l17 : K.lookup q17 = some ⟨oc17,od17,.func (fnOf "read_rule" "read_rule" (Jo J2f) (Jm J2f) (J7 J2f) .none kV17 dc17 pm17 an17 cd17 ct17),sl17⟩)
  (c17 : codeIn K cd17 "read_rule" = true)
  (k17 : keepIn K (.ref q17) = true)
  (a18 : nsIn K mainGlobals "count_text" = some (some (.ref q18)))
  (l18 : K.lookup q18 = some ⟨oc18,od18,.func (fnOf "count_text" "count_text" (Jo J1E) (Jm J1E) (J7 J1E) .none kV18 dc18 pm18 an18 cd18 ct18),sl18⟩)
  (c18 : codeIn K cd18 "count_text" = true)
  (k18 : keepIn K (.ref q18) = true)
  (a19 : findIn K (.ref J9) "text" = some (some (.ref q19)))
  (i19 : isFn K (.ref q19) = true)
  (l19 : K.lookup q19 = some ⟨oc19,od19,.func (fnOf "text" "Never.text" (Jo J1z) (Jm J1z) (J7 J1z) .none kV19 dc19 pm19 an19 cd19 ct19),sl19⟩)
  (c19 : codeIn K cd19 "Never.text" = true)
  (k19 : keepIn K (.ref q19) = true)
  (a20 : findIn K (.ref Jd) "text" = some (some (.ref q20)))
  (i20 : isFn K (.ref q20) = true)
  (l20 : K.lookup q20 = some ⟨oc20,od20,.func (fnOf "text" "Most.text" (Jo J2o) (Jm J2o) (J7 J2o) .none kV20 dc20 pm20 an20 cd20 ct20),sl20⟩)
  (c20 : codeIn K cd20 "Most.text" = true)
  (k20 : keepIn K (.ref q20) = true)
  (a21 : findIn K (.ref J8) "text" = some (some (.ref q21)))
  (i21 : isFn K (.ref q21) = true)
  (l21 : K.lookup q21 = some ⟨oc21,od21,.func (fnOf "text" "Least.text" (Jo J1C) (Jm J1C) (J7 J1C) .none kV21 dc21 pm21 an21 cd21 ct21),sl21⟩)
  (c21 : codeIn K cd21 "Least.text" = true)
  (k21 : keepIn K (.ref q21) = true)
  (a22 : nsIn K mainGlobals "is_joined" = some (some (.ref q22)))
  (l22 : K.lookup q22 = some ⟨oc22,od22,.func (fnOf "is_joined" "is_joined" (Jo J2e) (Jm J2e) (J7 J2e) .none kV22 dc22 pm22 an22 cd22 ct22),sl22⟩)
  (c22 : codeIn K cd22 "is_joined" = true)
  (k22 : keepIn K (.ref q22) = true)
  (a23 : nsIn K mainGlobals "part_text" = some (some (.ref q23)))
  (l23 : K.lookup q23 = some ⟨oc23,od23,.func (fnOf "part_text" "part_text" (Jo J2j) (Jm J2j) (J7 J2j) .none kV23 dc23 pm23 an23 cd23 ct23),sl23⟩)
  (c23 : codeIn K cd23 "part_text" = true)
  (k23 : keepIn K (.ref q23) = true)
  (a24 : findIn K (.ref Jb) "text" = some (some (.ref q24)))
  (i24 : isFn K (.ref q24) = true)
  (l24 : K.lookup q24 = some ⟨oc24,od24,.func (fnOf "text" "Both.text" (Jo J2b) (Jm J2b) (J7 J2b) .none kV24 dc24 pm24 an24 cd24 ct24),sl24⟩)
  (c24 : codeIn K cd24 "Both.text" = true)
  (k24 : keepIn K (.ref q24) = true)
  (a25 : findIn K (.ref J5) "text" = some (some (.ref q25)))
  (i25 : isFn K (.ref q25) = true)
  (l25 : K.lookup q25 = some ⟨oc25,od25,.func (fnOf "text" "Either.text" (Jo J11) (Jm J11) (J7 J11) .none kV25 dc25 pm25 an25 cd25 ct25),sl25⟩)
  (c25 : codeIn K cd25 "Either.text" = true)
  (k25 : keepIn K (.ref q25) = true)
  (a26 : findIn K (.ref Ji) "text" = some (some (.ref q26)))
  (i26 : isFn K (.ref q26) = true)
  (l26 : K.lookup q26 = some ⟨oc26,od26,.func (fnOf "text" "Not.text" (Jo J2X) (Jm J2X) (J7 J2X) .none kV26 dc26 pm26 an26 cd26 ct26),sl26⟩)
  (c26 : codeIn K cd26 "Not.text" = true)
  (k26 : keepIn K (.ref q26) = true)
  (a27 : nsIn K mainGlobals "_law_cell_at" = some (some (.ref q27)))
  (l27 : K.lookup q27 = some ⟨oc27,od27,.func (fnOf "_law_cell_at" "_law_cell_at" (Jo J13) (Jm J13) (J7 J13) .none kV27 dc27 pm27 an27 cd27 ct27),sl27⟩)
  (c27 : codeIn K cd27 "_law_cell_at" = true)
  (k27 : keepIn K (.ref q27) = true)
  (a28 : nsIn K mainGlobals "_law_stream" = some (some (.ref q28)))
  (l28 : K.lookup q28 = some ⟨oc28,od28,.func (fnOf "_law_stream" "_law_stream" (Jo J1v) (Jm J1v) (J7 J1v) .none kV28 dc28 pm28 an28 cd28 ct28),sl28⟩)
  (c28 : codeIn K cd28 "_law_stream" = true)
  (k28 : keepIn K (.ref q28) = true)
  (a29 : nsIn K mainGlobals "_law_kinds" = some (some (.ref q29)))
  (l29 : K.lookup q29 = some ⟨oc29,od29,.func (fnOf "_law_kinds" "_law_kinds" (Jo J1j) (Jm J1j) (J7 J1j) .none kV29 dc29 pm29 an29 cd29 ct29),sl29⟩)
  (c29 : codeIn K cd29 "_law_kinds" = true)
  (k29 : keepIn K (.ref q29) = true)
  (a30 : nsIn K mainGlobals "_law_name" = some (some (.ref q30)))
  (l30 : K.lookup q30 = some ⟨oc30,od30,.func (fnOf "_law_name" "_law_name" (Jo J27) (Jm J27) (J7 J27) .none kV30 dc30 pm30 an30 cd30 ct30),sl30⟩)
  (c30 : codeIn K cd30 "_law_name" = true)
  (k30 : keepIn K (.ref q30) = true)
  (a31 : nsIn K mainGlobals "_law_plain_rule" = some (some (.ref q31)))
  (l31 : K.lookup q31 = some ⟨oc31,od31,.func (fnOf "_law_plain_rule" "_law_plain_rule" (Jo J0n) (Jm J0n) (J7 J0n) .none kV31 dc31 pm31 an31 cd31 ct31),sl31⟩)
  (c31 : codeIn K cd31 "_law_plain_rule" = true)
  (k31 : keepIn K (.ref q31) = true)
  (a32 : nsIn K mainGlobals "_law_rule" = some (some (.ref q32)))
  (l32 : K.lookup q32 = some ⟨oc32,od32,.func (fnOf "_law_rule" "_law_rule" (Jo J28) (Jm J28) (J7 J28) .none kV32 dc32 pm32 an32 cd32 ct32),sl32⟩)
  (c32 : codeIn K cd32 "_law_rule" = true)
  (k32 : keepIn K (.ref q32) = true)
  (a33 : nsIn K mainGlobals "_law_some" = some (some (.ref q33)))
  (l33 : K.lookup q33 = some ⟨oc33,od33,.func (fnOf "_law_some" "_law_some" (Jo J25) (Jm J25) (J7 J25) .none kV33 dc33 pm33 an33 cd33 ct33),sl33⟩)
  (c33 : codeIn K cd33 "_law_some" = true)
  (k33 : keepIn K (.ref q33) = true)
  (a34 : nsIn K mainGlobals "_law_needs" = some (some (.ref q34)))
  (l34 : K.lookup q34 = some ⟨oc34,od34,.func (fnOf "_law_needs" "_law_needs" (Jo J2d) (Jm J2d) (J7 J2d) .none kV34 dc34 pm34 an34 cd34 ct34),sl34⟩)
  (c34 : codeIn K cd34 "_law_needs" = true)
  (k34 : keepIn K (.ref q34) = true)
  (a35 : nsIn K mainGlobals "_law_wish" = some (some (.ref q35)))
  (l35 : K.lookup q35 = some ⟨oc35,od35,.func (fnOf "_law_wish" "_law_wish" (Jo J30) (Jm J30) (J7 J30) .none kV35 dc35 pm35 an35 cd35 ct35),sl35⟩)
  (c35 : codeIn K cd35 "_law_wish" = true)
  (k35 : keepIn K (.ref q35) = true)
  (a36 : nsIn K mainGlobals "_law_person" = some (some (.ref q36)))
  (l36 : K.lookup q36 = some ⟨oc36,od36,.func (fnOf "_law_person" "_law_person" (Jo J0U) (Jm J0U) (J7 J0U) .none kV36 dc36 pm36 an36 cd36 ct36),sl36⟩)
  (c36 : codeIn K cd36 "_law_person" = true)
  (k36 : keepIn K (.ref q36) = true)
  (a37 : nsIn K mainGlobals "_law_parts" = some (some (.ref q37)))
  (l37 : K.lookup q37 = some ⟨oc37,od37,.func (fnOf "_law_parts" "_law_parts" (Jo J1k) (Jm J1k) (J7 J1k) .none kV37 dc37 pm37 an37 cd37 ct37),sl37⟩)
  (c37 : codeIn K cd37 "_law_parts" = true)
  (k37 : keepIn K (.ref q37) = true)
  (a38 : nsIn K mainGlobals "read_number" = some (some (.ref q38)))
  (l38 : K.lookup q38 = some ⟨oc38,od38,.func (fnOf "read_number" "read_number" (Jo J17) (Jm J17) (J7 J17) .none kV38 dc38 pm38 an38 cd38 ct38),sl38⟩)
  (c38 : codeIn K cd38 "read_number" = true)
  (k38 : keepIn K (.ref q38) = true)
  (a39 : nsIn K mainGlobals "are_unlike" = some (some (.ref q39)))
  (l39 : K.lookup q39 = some ⟨oc39,od39,.func (fnOf "are_unlike" "are_unlike" (Jo J1I) (Jm J1I) (J7 J1I) .none kV39 dc39 pm39 an39 cd39 ct39),sl39⟩)
  (c39 : codeIn K cd39 "are_unlike" = true)
  (k39 : keepIn K (.ref q39) = true)
  (a40 : nsIn K mainGlobals "is_day" = some (some (.ref q40)))
  (l40 : K.lookup q40 = some ⟨oc40,od40,.func (fnOf "is_day" "is_day" (Jo J3W) (Jm J3W) (J7 J3W) .none kV40 dc40 pm40 an40 cd40 ct40),sl40⟩)
  (c40 : codeIn K cd40 "is_day" = true)
  (k40 : keepIn K (.ref q40) = true)
  (a41 : nsIn K mainGlobals "is_kind" = some (some (.ref q41)))
  (l41 : K.lookup q41 = some ⟨oc41,od41,.func (fnOf "is_kind" "is_kind" (Jo J3s) (Jm J3s) (J7 J3s) .none kV41 dc41 pm41 an41 cd41 ct41),sl41⟩)
  (c41 : codeIn K cd41 "is_kind" = true)
  (k41 : keepIn K (.ref q41) = true)
  (a42 : nsIn K mainGlobals "is_person" = some (some (.ref q42)))
  (l42 : K.lookup q42 = some ⟨oc42,od42,.func (fnOf "is_person" "is_person" (Jo J1o) (Jm J1o) (J7 J1o) .none kV42 dc42 pm42 an42 cd42 ct42),sl42⟩)
  (c42 : codeIn K cd42 "is_person" = true)
  (k42 : keepIn K (.ref q42) = true)
  (a43 : nsIn K mainGlobals "is_new_name" = some (some (.ref q43)))
  (l43 : K.lookup q43 = some ⟨oc43,od43,.func (fnOf "is_new_name" "is_new_name" (Jo J15) (Jm J15) (J7 J15) .none kV43 dc43 pm43 an43 cd43 ct43),sl43⟩)
  (c43 : codeIn K cd43 "is_new_name" = true)
  (k43 : keepIn K (.ref q43) = true)
  (a44 : nsIn K mainGlobals "undotted" = some (some (.ref q44)))
  (l44 : K.lookup q44 = some ⟨oc44,od44,.func (fnOf "undotted" "undotted" (Jo J2Z) (Jm J2Z) (J7 J2Z) .none kV44 dc44 pm44 an44 cd44 ct44),sl44⟩)
  (c44 : codeIn K cd44 "undotted" = true)
  (k44 : keepIn K (.ref q44) = true)
  (a45 : nsIn K mainGlobals "are_skills" = some (some (.ref q45)))
  (l45 : K.lookup q45 = some ⟨oc45,od45,.func (fnOf "are_skills" "are_skills" (Jo J1G) (Jm J1G) (J7 J1G) .none kV45 dc45 pm45 an45 cd45 ct45),sl45⟩)
  (c45 : codeIn K cd45 "are_skills" = true)
  (k45 : keepIn K (.ref q45) = true)
  (a46 : nsIn K mainGlobals "is_past" = some (some (.ref q46)))
  (l46 : K.lookup q46 = some ⟨oc46,od46,.func (fnOf "is_past" "is_past" (Jo J3v) (Jm J3v) (J7 J3v) .none kV46 dc46 pm46 an46 cd46 ct46),sl46⟩)
  (c46 : codeIn K cd46 "is_past" = true)
  (k46 : keepIn K (.ref q46) = true)
  (a47 : nsIn K mainGlobals "place_of_need" = some (some (.ref q47)))
  (l47 : K.lookup q47 = some ⟨oc47,od47,.func (fnOf "place_of_need" "place_of_need" (Jo J0x) (Jm J0x) (J7 J0x) .none kV47 dc47 pm47 an47 cd47 ct47),sl47⟩)
  (c47 : codeIn K cd47 "place_of_need" = true)
  (k47 : keepIn K (.ref q47) = true)
  (a48 : nsIn K mainGlobals "is_days_row" = some (some (.ref q48)))
  (l48 : K.lookup q48 = some ⟨oc48,od48,.func (fnOf "is_days_row" "is_days_row" (Jo J14) (Jm J14) (J7 J14) .none kV48 dc48 pm48 an48 cd48 ct48),sl48⟩)
  (c48 : codeIn K cd48 "is_days_row" = true)
  (k48 : keepIn K (.ref q48) = true)
  (a49 : nsIn K mainGlobals "is_kinds_row" = some (some (.ref q49)))
  (l49 : K.lookup q49 = some ⟨oc49,od49,.func (fnOf "is_kinds_row" "is_kinds_row" (Jo J0O) (Jm J0O) (J7 J0O) .none kV49 dc49 pm49 an49 cd49 ct49),sl49⟩)
  (c49 : codeIn K cd49 "is_kinds_row" = true)
  (k49 : keepIn K (.ref q49) = true)
  (a50 : nsIn K mainGlobals "put_need" = some (some (.ref q50)))
  (l50 : K.lookup q50 = some ⟨oc50,od50,.func (fnOf "put_need" "put_need" (Jo J2V) (Jm J2V) (J7 J2V) .none kV50 dc50 pm50 an50 cd50 ct50),sl50⟩)
  (c50 : codeIn K cd50 "put_need" = true)
  (k50 : keepIn K (.ref q50) = true)
  (a51 : nsIn K mainGlobals "put_person" = some (some (.ref q51)))
  (l51 : K.lookup q51 = some ⟨oc51,od51,.func (fnOf "put_person" "put_person" (Jo J1K) (Jm J1K) (J7 J1K) .none kV51 dc51 pm51 an51 cd51 ct51),sl51⟩)
  (c51 : codeIn K cd51 "put_person" = true)
  (k51 : keepIn K (.ref q51) = true)
  (a52 : nsIn K mainGlobals "put_leave" = some (some (.ref q52)))
  (l52 : K.lookup q52 = some ⟨oc52,od52,.func (fnOf "put_leave" "put_leave" (Jo J2p) (Jm J2p) (J7 J2p) .none kV52 dc52 pm52 an52 cd52 ct52),sl52⟩)
  (c52 : codeIn K cd52 "put_leave" = true)
  (k52 : keepIn K (.ref q52) = true)
  (a53 : nsIn K mainGlobals "put_wish" = some (some (.ref q53)))
  (l53 : K.lookup q53 = some ⟨oc53,od53,.func (fnOf "put_wish" "put_wish" (Jo J2S) (Jm J2S) (J7 J2S) .none kV53 dc53 pm53 an53 cd53 ct53),sl53⟩)
  (c53 : codeIn K cd53 "put_wish" = true)
  (k53 : keepIn K (.ref q53) = true)
  (a54 : nsIn K mainGlobals "put_rule" = some (some (.ref q54)))
  (l54 : K.lookup q54 = some ⟨oc54,od54,.func (fnOf "put_rule" "put_rule" (Jo J2T) (Jm J2T) (J7 J2T) .none kV54 dc54 pm54 an54 cd54 ct54),sl54⟩)
  (c54 : codeIn K cd54 "put_rule" = true)
  (k54 : keepIn K (.ref q54) = true)
  (a55 : nsIn K mainGlobals "put_pair" = some (some (.ref q55)))
  (l55 : K.lookup q55 = some ⟨oc55,od55,.func (fnOf "put_pair" "put_pair" (Jo J2U) (Jm J2U) (J7 J2U) .none kV55 dc55 pm55 an55 cd55 ct55),sl55⟩)
  (c55 : codeIn K cd55 "put_pair" = true)
  (k55 : keepIn K (.ref q55) = true)
  (a56 : nsIn K mainGlobals "put_row" = some (some (.ref q56)))
  (l56 : K.lookup q56 = some ⟨oc56,od56,.func (fnOf "put_row" "put_row" (Jo J3t) (Jm J3t) (J7 J3t) .none kV56 dc56 pm56 an56 cd56 ct56),sl56⟩)
  (c56 : codeIn K cd56 "put_row" = true)
  (k56 : keepIn K (.ref q56) = true)
  (a57 : nsIn K mainGlobals "read_house" = some (some (.ref q57)))
  (l57 : K.lookup q57 = some ⟨oc57,od57,.func (fnOf "read_house" "read_house" (Jo J0X) (Jm J0X) (J7 J0X) .none kV57 dc57 pm57 an57 cd57 ct57),sl57⟩)
  (c57 : codeIn K cd57 "read_house" = true)
  (k57 : keepIn K (.ref q57) = true)
  (a58 : nsIn K mainGlobals "_law_or_point" = some (some (.ref q58)))
  (l58 : K.lookup q58 = some ⟨oc58,od58,.func (fnOf "_law_or_point" "_law_or_point" (Jo J0Q) (Jm J0Q) (J7 J0Q) .none kV58 dc58 pm58 an58 cd58 ct58),sl58⟩)
  (c58 : codeIn K cd58 "_law_or_point" = true)
  (k58 : keepIn K (.ref q58) = true)
  (a59 : nsIn K mainGlobals "_law_lines" = some (some (.ref q59)))
  (l59 : K.lookup q59 = some ⟨oc59,od59,.func (fnOf "_law_lines" "_law_lines" (Jo J2i) (Jm J2i) (J7 J2i) .none kV59 dc59 pm59 an59 cd59 ct59),sl59⟩)
  (c59 : codeIn K cd59 "_law_lines" = true)
  (k59 : keepIn K (.ref q59) = true)
  (a60 : nsIn K mainGlobals "dotted" = some (some (.ref q60)))
  (l60 : K.lookup q60 = some ⟨oc60,od60,.func (fnOf "dotted" "dotted" (Jo J3Y) (Jm J3Y) (J7 J3Y) .none kV60 dc60 pm60 an60 cd60 ct60),sl60⟩)
  (c60 : codeIn K cd60 "dotted" = true)
  (k60 : keepIn K (.ref q60) = true)
  (a61 : nsIn K mainGlobals "shown_person" = some (some (.ref q61)))
  (l61 : K.lookup q61 = some ⟨oc61,od61,.func (fnOf "shown_person" "shown_person" (Jo J0N) (Jm J0N) (J7 J0N) .none kV61 dc61 pm61 an61 cd61 ct61),sl61⟩)
  (c61 : codeIn K cd61 "shown_person" = true)
  (k61 : keepIn K (.ref q61) = true)
  (a62 : nsIn K mainGlobals "shown_rule" = some (some (.ref q62)))
  (l62 : K.lookup q62 = some ⟨oc62,od62,.func (fnOf "shown_rule" "shown_rule" (Jo J1J) (Jm J1J) (J7 J1J) .none kV62 dc62 pm62 an62 cd62 ct62),sl62⟩)
  (c62 : codeIn K cd62 "shown_rule" = true)
  (k62 : keepIn K (.ref q62) = true)
  (a63 : nsIn K mainGlobals "shown" = some (some (.ref q63)))
  (l63 : K.lookup q63 = some ⟨oc63,od63,.func (fnOf "shown" "shown" (Jo J24) (Jm J24) (J7 J24) .none kV63 dc63 pm63 an63 cd63 ct63),sl63⟩)
  (c63 : codeIn K cd63 "shown" = true)
  (k63 : keepIn K (.ref q63) = true)
  (a64 : nsIn K mainGlobals "law" = some (some (.ref q64)))
  (l64 : K.lookup q64 = some ⟨oc64,od64,.func (fnOf "law" "law" (Jo J4q) (Jm J4q) (J7 J4q) .none kV64 dc64 pm64 an64 cd64 ct64),sl64⟩)
  (c64 : codeIn K cd64 "law" = true)
  (k64 : keepIn K (.ref q64) = true)
  (J5p : plainGet K J9 Str.empty = true)
  (J5B : hasDictIn K J9 = true)
  (J5z : plainOver K J9 = true)
  (J5w : findIn K (.ref J9) "__setattr__" = some (some (.builtin "object.__setattr__")))
  (J7h : makesIn K J9 = true)
  (J6W : keepIn K (.ref J9) = true)
  (J6M : plainGet K Jd Str.empty = true)
  (J6K : hasDictIn K Jd = true)
  (J6G : plainOver K Jd = true)
  (J6J : findIn K (.ref Jd) "__setattr__" = some (some (.builtin "object.__setattr__")))
  (J8J : makesIn K Jd = true)
  (J90 : keepIn K (.ref Jd) = true)
  (J5e : plainGet K J8 Str.empty = true)
  (J5f : hasDictIn K J8 = true)
  (J5i : plainOver K J8 = true)
  (J5o : findIn K (.ref J8) "__setattr__" = some (some (.builtin "object.__setattr__")))
  (J79 : makesIn K J8 = true)
  (J6U : keepIn K (.ref J8) = true)
  (J6F : plainGet K Jb Str.empty = true)
  (J6I : hasDictIn K Jb = true)
  (J6H : plainOver K Jb = true)
  (J6L : findIn K (.ref Jb) "__setattr__" = some (some (.builtin "object.__setattr__")))
  (J9n : makesIn K Jb = true)
  (J8O : keepIn K (.ref Jb) = true)
  (J4N : plainGet K J5 Str.empty = true)
  (J4M : hasDictIn K J5 = true)
  (J4K : plainOver K J5 = true)
  (J4L : findIn K (.ref J5) "__setattr__" = some (some (.builtin "object.__setattr__")))
  (J64 : makesIn K J5 = true)
  (J5X : keepIn K (.ref J5) = true)
  (J8P : plainGet K Ji Str.empty = true)
  (J97 : hasDictIn K Ji = true)
  (J8V : plainOver K Ji = true)
  (J99 : findIn K (.ref Ji) "__setattr__" = some (some (.builtin "object.__setattr__")))
  (Jbq : makesIn K Ji = true)
  (Jbe : keepIn K (.ref Ji) = true)
  (J65 : plainGet K J4 Str.empty = true)
  (J5S : hasDictIn K J4 = true)
  (J63 : plainOver K J4 = true)
  (J5Y : findIn K (.ref J4) "__setattr__" = some (some (.builtin "object.__setattr__")))
  (J5R : makesIn K J4 = true)
  (J5V : keepIn K (.ref J4) = true)
  (J6V : plainGet K J1 Str.empty = true)
  (J7d : hasDictIn K J1 = true)
  (J70 : plainOver K J1 = true)
  (J77 : findIn K (.ref J1) "__setattr__" = some (some (.builtin "object.__setattr__")))
  (J75 : makesIn K J1 = true)
  (J7j : keepIn K (.ref J1) = true)
  (yn : specialIn K (.builtin "object.__class__") "__get__" = some (some (.builtin "getset_descriptor.__get__")))
  (yt : takesIn K (.builtin "object.__class__") = some true)
  (J7u : findIn K (.ref J9) "__class__" = some (some (.builtin "object.__class__")))
  (J7f : mroIn K J9 (.type "object") = some true)
  (J2B : kitOne K (.ref J9) (.ref Jb) = some false)
  (J1n : kitOne K (.ref J9) (.ref J5) = some false)
  (J98 : findIn K (.ref Jd) "__class__" = some (some (.builtin "object.__class__")))
  (J8R : mroIn K Jd (.type "object") = some true)
  (J3g : kitOne K (.ref Jd) (.ref Jb) = some false)
  (J1Y : kitOne K (.ref Jd) (.ref J5) = some false)
  (J7p : findIn K (.ref J8) "__class__" = some (some (.builtin "object.__class__")))
  (J74 : mroIn K J8 (.type "object") = some true)
  (J2v : kitOne K (.ref J8) (.ref Jb) = some false)
  (J1g : kitOne K (.ref J8) (.ref J5) = some false)
  (J94 : findIn K (.ref Jb) "__class__" = some (some (.builtin "object.__class__")))
  (J9e : mroIn K Jb (.type "object") = some true)
  (J38 : kitOne K (.ref Jb) (.ref Jb) = some true)
  (J1W : kitOne K (.ref Jb) (.ref J5) = some false)
  (J5T : findIn K (.ref J5) "__class__" = some (some (.builtin "object.__class__")))
  (J5U : mroIn K J5 (.type "object") = some true)
  (J1X : kitOne K (.ref J5) (.ref Jb) = some false)
  (J0Y : kitOne K (.ref J5) (.ref J5) = some true)
  (Jbg : findIn K (.ref Ji) "__class__" = some (some (.builtin "object.__class__")))
  (JaW : mroIn K Ji (.type "object") = some true)
  (J3C : kitOne K (.ref Ji) (.ref Jb) = some false)
  (J2H : kitOne K (.ref Ji) (.ref J5) = some false)
  (J2g : findIn K (.ref Jb) "left" = some none)
  (J1F : findIn K (.ref Jb) "right" = some none)
  (J18 : findIn K (.ref J5) "left" = some none)
  (J0P : findIn K (.ref J5) "right" = some none)
  (J0V : findIn K (.ref J1) "days" = some none)
  (JU : findIn K (.ref J1) "kinds" = some none)
  (J0H : findIn K (.ref J1) "needs" = some none)
  (J05 : findIn K (.ref J1) "persons" = some none)
  (J0G : findIn K (.ref J1) "leave" = some none)
  (J0p : findIn K (.ref J1) "wishes" = some none)
  (J0j : findIn K (.ref J1) "rules" = some none)
  (J0I : findIn K (.ref J1) "pairs" = some none)
  (J1A : findIn K (.ref J8) "many" = some none)
  (J16 : findIn K (.ref J8) "marks" = some none)
  (J1y : findIn K (.ref J8) "days" = some none)
  (J2l : findIn K (.ref Jd) "many" = some none)
  (J1u : findIn K (.ref Jd) "marks" = some none)
  (J2c : findIn K (.ref Jd) "days" = some none)
  (J1w : findIn K (.ref J9) "word" = some none)
  (J2h : findIn K (.ref Ji) "inner" = some none)
  (J0J : findIn K (.ref J4) "name" = some none)
  (J0y : findIn K (.ref J4) "skills" = some none)
  (J19 : findIn K (.ref J4) "most" = some none)
  (J0m : findIn K (.ref J4) "carried" = some none)
  (J10 : findIn K (.ref J4) "past" = some none)
  (Jao : nsIn K mainGlobals "all" = some none)
  (J9S : nsIn K mainGlobals "any" = some none)
  (J3e : nsIn K mainGlobals "enumerate" = some none)
  (J5g : nsIn K mainGlobals "int" = some none)
  (J0g : nsIn K mainGlobals "isinstance" = some none)
  (JS : nsIn K mainGlobals "len" = some none)
  (J26 : nsIn K mainGlobals "list" = some none)
  (J1x : nsIn K mainGlobals "range" = some none)
  (J8j : nsIn K mainGlobals "set" = some none)
  (J3f : nsIn K mainGlobals "str" = some none)
  (J3c : nsIn K mainGlobals "MOST_DAYS" = some (some (.int 14 tk_MOST_DAYS)))
  (J1T : nsIn K mainGlobals "MOST_DUTIES" = some (some (.int 14 tk_MOST_DUTIES)))
  (J1l : nsIn K mainGlobals "MOST_FIGURES" = some (some (.int 40 tk_MOST_FIGURES)))
  (J2C : nsIn K mainGlobals "MOST_KINDS" = some (some (.int 4 tk_MOST_KINDS)))
  (J2E : nsIn K mainGlobals "MOST_LEAVE" = some (some (.int 60 tk_MOST_LEAVE)))
  (J3b : nsIn K mainGlobals "MOST_NEED" = some (some (.int 8 tk_MOST_NEED)))
  (J2x : nsIn K mainGlobals "MOST_PAIRS" = some (some (.int 8 tk_MOST_PAIRS)))
  (J1h : nsIn K mainGlobals "MOST_PERSONS" = some (some (.int 8 tk_MOST_PERSONS)))
  (J2F : nsIn K mainGlobals "MOST_RULES" = some (some (.int 8 tk_MOST_RULES)))
  (J01 : nsIn K mainGlobals "MOST_SIGNS_OF_A_NAME" = some (some (.int 8 tk_MOST_SIGNS_OF_A_NAME)))
  (J1U : nsIn K mainGlobals "MOST_WISHES" = some (some (.int 60 tk_MOST_WISHES)))
  (J2D : nsIn K mainGlobals "MOST_WORDS" = some (some (.int 60 tk_MOST_WORDS)))
  (J2y : nsIn K mainGlobals "PAST_MARKS" = some (some (.int 6 tk_PAST_MARKS)))
  (J3E : nsIn K mainGlobals "CAPITALS" = some (some (.str ⟨[65,66,67,68,69,70,71,72,73,74,75,76,77,78,79,80,81,82,83,84,85,86,87,88,89,90].toArray⟩ tk_CAPITALS)))
  (J1m : nsIn K mainGlobals "DAYS_FIGURES" = some (some (.str ⟨[49,50,51,52,53,54,55].toArray⟩ tk_DAYS_FIGURES)))
  (J3X : nsIn K mainGlobals "FIGURES" = some (some (.str ⟨[48,49,50,51,52,53,54,55,56,57].toArray⟩ tk_FIGURES)))
  (J1i : nsIn K mainGlobals "MANY_FIGURES" = some (some (.str ⟨[48,49,50,51,52,53,54,55].toArray⟩ tk_MANY_FIGURES)))
  (J2G : nsIn K mainGlobals "MARK_SIGNS" = some (some (.str ⟨[65,66,67,68,69,70,71,72,73,74,75,76,77,78,79,80,81,82,83,84,85,86,87,88,89,90,45,35].toArray⟩ tk_MARK_SIGNS)))
  (J5m : nsIn K mainGlobals "SMALL" = some (some (.str ⟨[97,98,99,100,101,102,103,104,105,106,107,108,109,110,111,112,113,114,115,116,117,118,119,120,121,122].toArray⟩ tk_SMALL)))
  (J2z : nsIn K mainGlobals "WORD_SIGNS" = some (some (.str ⟨[65,66,67,68,69,70,71,72,73,74,75,76,77,78,79,80,81,82,83,84,85,86,87,88,89,90,45,35,63].toArray⟩ tk_WORD_SIGNS)))
  (J62 : nsIn K mainGlobals "PLACES" = some (some (.ref ga_PLACES)))
  (J5W : JaH K ga_PLACES [([110,101,101,100],0),([112,101,114,115,111,110],1),([108,101,97,118,101],2),([119,105,115,104],3),([114,117,108,101],4),([97,112,97,114,116],5),([119,105,116,104],5)] = true)
  : ∃ fd : FuncData,(∀ (s : Shared) (v : Value),BindsTo s fd ⟨[v],[]⟩ [("_law_script",v)]) ∧ ∀ base : Heap,K.In base → base.Ns mainGlobals mg → FnOk l.prog w K mg base CX0 90 fa fd ["_law_script"] (sp_law K):=by
 have e:=hfa.symm.trans (mg_of X G a64)
 cases e
 have T : Tx K mg J9 Jd J8 Jb J5 Ji J4 J1:=⟨⟨_,_,JC (st:=J1B) l1 c1 k1,⟨a1,i1,k1⟩⟩,
  ⟨_,_,JC (st:=J2k) l2 c2 k2,⟨a2,i2,k2⟩⟩,
  ⟨_,_,JC (st:=J1s) l3 c3 k3,⟨a3,i3,k3⟩⟩,
  ⟨_,_,JC (st:=J2m) l4 c4 k4,⟨a4,i4,k4⟩⟩,
  ⟨_,_,JC (st:=J0Z) l5 c5 k5,⟨a5,i5,k5⟩⟩,
  ⟨_,_,JC (st:=J2Y) l6 c6 k6,⟨a6,i6,k6⟩⟩,
  ⟨_,_,JC (st:=J12) l7 c7 k7,⟨a7,i7,k7⟩⟩,
  ⟨_,_,JC (st:=J1D) l8 c8 k8,⟨a8,i8,k8⟩⟩,
  ⟨_,_,JC (st:=J2W) l9 c9 k9,mg_of X G a9⟩,
  ⟨_,_,JC (st:=J2a) l10 c10 k10,mg_of X G a10⟩,
  ⟨_,_,JC (st:=J3r) l11 c11 k11,mg_of X G a11⟩,
  ⟨_,_,JC (st:=J2n) l12 c12 k12,mg_of X G a12⟩,
  ⟨_,_,JC (st:=J0R) l13 c13 k13,mg_of X G a13⟩,
  ⟨_,_,JC (st:=J2R) l14 c14 k14,mg_of X G a14⟩,
  ⟨_,_,JC (st:=J1H) l15 c15 k15,mg_of X G a15⟩,
  ⟨_,_,JC (st:=J1t) l16 c16 k16,mg_of X G a16⟩,
  ⟨_,_,JC (st:=J2f) l17 c17 k17,mg_of X G a17⟩,
  ⟨_,_,JC (st:=J1E) l18 c18 k18,mg_of X G a18⟩,
  ⟨_,_,JC (st:=J1z) l19 c19 k19,⟨a19,i19,k19⟩⟩,
  ⟨_,_,JC (st:=J2o) l20 c20 k20,⟨a20,i20,k20⟩⟩,
  ⟨_,_,JC (st:=J1C) l21 c21 k21,⟨a21,i21,k21⟩⟩,
  ⟨_,_,JC (st:=J2e) l22 c22 k22,mg_of X G a22⟩,
  ⟨_,_,JC (st:=J2j) l23 c23 k23,mg_of X G a23⟩,
  ⟨_,_,JC (st:=J2b) l24 c24 k24,⟨a24,i24,k24⟩⟩,
  ⟨_,_,JC (st:=J11) l25 c25 k25,⟨a25,i25,k25⟩⟩,
  ⟨_,_,JC (st:=J2X) l26 c26 k26,⟨a26,i26,k26⟩⟩,
  ⟨_,_,JC (st:=J13) l27 c27 k27,mg_of X G a27⟩,
  ⟨_,_,JC (st:=J1v) l28 c28 k28,mg_of X G a28⟩,
  ⟨_,_,JC (st:=J1j) l29 c29 k29,mg_of X G a29⟩,
  ⟨_,_,JC (st:=J27) l30 c30 k30,mg_of X G a30⟩,
  ⟨_,_,JC (st:=J0n) l31 c31 k31,mg_of X G a31⟩,
  ⟨_,_,JC (st:=J28) l32 c32 k32,mg_of X G a32⟩,
  ⟨_,_,JC (st:=J25) l33 c33 k33,mg_of X G a33⟩,
  ⟨_,_,JC (st:=J2d) l34 c34 k34,mg_of X G a34⟩,
  ⟨_,_,JC (st:=J30) l35 c35 k35,mg_of X G a35⟩,
  ⟨_,_,JC (st:=J0U) l36 c36 k36,mg_of X G a36⟩,
  ⟨_,_,JC (st:=J1k) l37 c37 k37,mg_of X G a37⟩,
  ⟨_,_,JC (st:=J17) l38 c38 k38,mg_of X G a38⟩,
  ⟨_,_,JC (st:=J1I) l39 c39 k39,mg_of X G a39⟩,
  ⟨_,_,JC (st:=J3W) l40 c40 k40,mg_of X G a40⟩,
  ⟨_,_,JC (st:=J3s) l41 c41 k41,mg_of X G a41⟩,
  ⟨_,_,JC (st:=J1o) l42 c42 k42,mg_of X G a42⟩,
  ⟨_,_,JC (st:=J15) l43 c43 k43,mg_of X G a43⟩,
  ⟨_,_,JC (st:=J2Z) l44 c44 k44,mg_of X G a44⟩,
  ⟨_,_,JC (st:=J1G) l45 c45 k45,mg_of X G a45⟩,
  ⟨_,_,JC (st:=J3v) l46 c46 k46,mg_of X G a46⟩,
  ⟨_,_,JC (st:=J0x) l47 c47 k47,mg_of X G a47⟩,
  ⟨_,_,JC (st:=J14) l48 c48 k48,mg_of X G a48⟩,
  ⟨_,_,JC (st:=J0O) l49 c49 k49,mg_of X G a49⟩,
  ⟨_,_,JC (st:=J2V) l50 c50 k50,mg_of X G a50⟩,
  ⟨_,_,JC (st:=J1K) l51 c51 k51,mg_of X G a51⟩,
  ⟨_,_,JC (st:=J2p) l52 c52 k52,mg_of X G a52⟩,
  ⟨_,_,JC (st:=J2S) l53 c53 k53,mg_of X G a53⟩,
  ⟨_,_,JC (st:=J2T) l54 c54 k54,mg_of X G a54⟩,
  ⟨_,_,JC (st:=J2U) l55 c55 k55,mg_of X G a55⟩,
  ⟨_,_,JC (st:=J3t) l56 c56 k56,mg_of X G a56⟩,
  ⟨_,_,JC (st:=J0X) l57 c57 k57,mg_of X G a57⟩,
  ⟨_,_,JC (st:=J0Q) l58 c58 k58,mg_of X G a58⟩,
  ⟨_,_,JC (st:=J2i) l59 c59 k59,mg_of X G a59⟩,
  ⟨_,_,JC (st:=J3Y) l60 c60 k60,mg_of X G a60⟩,
  ⟨_,_,JC (st:=J0N) l61 c61 k61,mg_of X G a61⟩,
  ⟨_,_,JC (st:=J1J) l62 c62 k62,mg_of X G a62⟩,
  ⟨_,_,JC (st:=J24) l63 c63 k63,mg_of X G a63⟩,
  ⟨_,_,JC (st:=J4q) l64 c64 k64,mg_of X G a64⟩,
  ⟨⟨J5p,J5B,J5z,J5w⟩,mg_of X G J95,J7h,J6W⟩,
  ⟨⟨J6M,J6K,J6G,J6J⟩,mg_of X G Jb6,J8J,J90⟩,
  ⟨⟨J5e,J5f,J5i,J5o⟩,mg_of X G J9h,J79,J6U⟩,
  ⟨⟨J6F,J6I,J6H,J6L⟩,mg_of X G Jbk,J9n,J8O⟩,
  ⟨⟨J4N,J4M,J4K,J4L⟩,mg_of X G J7i,J64,J5X⟩,
  ⟨⟨J8P,J97,J8V,J99⟩,mg_of X G Jdo,Jbq,Jbe⟩,
  ⟨⟨J65,J5S,J63,J5Y⟩,mg_of X G J7g,J5R,J5V⟩,
  ⟨⟨J6V,J7d,J70,J77⟩,mg_of X G J9l,J75,J7j⟩,
  ⟨⟨J5p,J5B,J5z,J5w⟩,J7u,yn,yt,J7f⟩,
  J2B,
  J1n,
  ⟨⟨J6M,J6K,J6G,J6J⟩,J98,yn,yt,J8R⟩,
  J3g,
  J1Y,
  ⟨⟨J5e,J5f,J5i,J5o⟩,J7p,yn,yt,J74⟩,
  J2v,
  J1g,
  ⟨⟨J6F,J6I,J6H,J6L⟩,J94,yn,yt,J9e⟩,
  J38,
  J1W,
  ⟨⟨J4N,J4M,J4K,J4L⟩,J5T,yn,yt,J5U⟩,
  J1X,
  J0Y,
  ⟨⟨J8P,J97,J8V,J99⟩,Jbg,yn,yt,JaW⟩,
  J3C,
  J2H,
  J2g,
  J1F,
  J18,
  J0P,
  J0V,
  JU,
  J0H,
  J05,
  J0G,
  J0p,
  J0j,
  J0I,
  J1A,
  J16,
  J1y,
  J2l,
  J1u,
  J2c,
  J1w,
  J2h,
  J0J,
  J0y,
  J19,
  J0m,
  J10,
  mg_none_of X G Jao,
  mg_none_of X G J9S,
  mg_none_of X G J3e,
  mg_none_of X G J5g,
  mg_none_of X G J0g,
  mg_none_of X G JS,
  mg_none_of X G J26,
  mg_none_of X G J1x,
  mg_none_of X G J8j,
  mg_none_of X G J3f,
  ⟨_,mg_of X G J3c⟩,
  ⟨_,mg_of X G J1T⟩,
  ⟨_,mg_of X G J1l⟩,
  ⟨_,mg_of X G J2C⟩,
  ⟨_,mg_of X G J2E⟩,
  ⟨_,mg_of X G J3b⟩,
  ⟨_,mg_of X G J2x⟩,
  ⟨_,mg_of X G J1h⟩,
  ⟨_,mg_of X G J2F⟩,
  ⟨_,mg_of X G J01⟩,
  ⟨_,mg_of X G J1U⟩,
  ⟨_,mg_of X G J2D⟩,
  ⟨_,mg_of X G J2y⟩,
  ⟨_,mg_of X G J3E⟩,
  ⟨_,mg_of X G J1m⟩,
  ⟨_,mg_of X G J3X⟩,
  ⟨_,mg_of X G J1i⟩,
  ⟨_,mg_of X G J2G⟩,
  ⟨_,mg_of X G J5m⟩,
  ⟨_,mg_of X G J2z⟩,
  ⟨_,mg_of X G J62,J5W⟩⟩
 refine ⟨fnOf "law" "law" (Jo J4q) (Jm J4q) (J7 J4q) .none kV64 dc64 pm64 an64 cd64 ct64,fun s v=>.of_eq rfl,fun base _ _=>?_⟩
 exact JgB T (JC (st:=J4q) l64 c64 k64)
theorem walk {l : PySem.W.OpenLaw} {q : Program} {loose : List Str} {XP : (Str → Option Value) → Heap → Prop} {YP : World → Heap → Prop} {d : DefRec} {K : Params → PySem.W.Frag} (hn : l.most = some 63) (hdf : d.params.defaults = [])
  (hY : ∀ (w : World) (h : Heap),YP w h → (K w.params).In h)
  (F : ∀ (w : World) (mg : Str → Option Value) (fa : Addr) (h : Heap),(K w.params).In h → h.Ns mainGlobals mg → mg d.name = some (.ref fa) →
   ∃ fd : FuncData,(∀ (s : Shared) (u : Value),BindsTo s fd ⟨[u],[]⟩ [("_law_script",u)]) ∧ ∀ base : Heap,(K w.params).In base → base.Ns mainGlobals mg → FnOk l.prog w (K w.params) mg base CX0 90 fa fd ["_law_script"] (sp_law (K w.params))) :
  PySem.W.WalkO q loose XP YP l.row.toRowW d [] (fun f vs=>PySem.call f vs) :=
 L2.walk_of (n:=63) (k:=90) (x:="_law_script") (CX:=fun _=>CX0) (sp:=fun w=>sp_law (K w.params)) hn (by decide) hdf ⟨rfl,by decide,by decide⟩ hY F (fun _ _ a ns hl _ hS=>⟨a,ns,rfl,hS,hl,fun _=>rfl⟩) fun _ _ _ _ _ z=>z
theorem walkX {q : Program} {loose : List Str} {XP : (Str → Option Value) → Heap → Prop} {K : Params → PySem.W.Frag} {as : List Addr} {n t : Nat} {r : PySem.W.RowW} {d : DefRec} {kwd : List (Str × Expr)} {run : Value → List Value → Sem Value} (e : ∀ P,as = (K P).map (·.1))
  (h : PySem.W.WalkO q loose XP (fun w hp=>(K w.params).In hp) r d kwd run) : PySem.W.WalkX q loose XP (PySem.W.X.obsZ as) (PySem.W.X.valZ K n t) r d kwd run:=by
 intro w s₀ s₁ mg mb G Y a o pm cd doc dV kV h1 h2 h3 h4 h5 h6 args vals as' L p1 p2 p3 p4 p5
 exact h w s₀ s₁ mg mb G (PySem.W.InK.keeps w _ _ (PySem.W.X.z_facts e Y).2.1 L.keeps) a o pm cd doc dV kV h1 h2 h3 h4 h5 h6 args vals as' p1 p2 p3 p4 p5
end K25
namespace PySem.W.Fast
def tw13845745480733636302:=()
def tw4329780301020311344:=()
def tw6051405821039391229:=()
def tw992735890002587806:=()
def tw14708426362223001677:=()
def tw17243937595028846494:=()
def tw379792821726769639:=()
def tw8595254354264151017:=()
def tw5566142785511167499:=()
def tw15712713250091054466:=()
def tw16672796912077706179:=()
def tw5010098558435287970:=()
def tw2766972900807658062:=()
def tw15549373287191543188:=()
def tw3618400857214716051:=()
def tw6651702504022308534:=()
def tw11298246806473215221:=()
def tw8799938313555436729:=()
def tw2500307445494987844:=()
def tw646031376355713175:=()
def tw11749780561654796169:=()
def tw12561831382897291251:=()
def tw3116560704740759389:=()
def tw14551856017056940451:=()
def tw12242267596459089821:=()
def tw636933025973064530:=()
def tw1167456127086886540:=()
def tw1256653847103685742:=()
def tw8294086966569078992:=()
def tw4570056008314551436:=()
def tw7192330932719225770:=()
def tw7476954992854871593:=()
def tw871304412252583628:=()
def tw10604082002200433863:=()
def tw18362867659438334702:=()
def tw12263685696051058262:=()
def tw9398466948434748692:=()
def tw17803731821573119608:=()
def tw9287668385822646712:=()
def tw12036979949850818389:=()
def tw2232354127968066369:=()
def tw3175949899823560369:=()
def tw4007522425782879824:=()
def tw14118937385538348696:=()
def tw145510634507563770:=()
def tw7841788532943264946:=()
def tw14078668874837425398:=()
def tw15484215692834965955:=()
def tw15357034623891050051:=()
def tw14269633286235895772:=()
def tw14348033862202162320:=()
def tw14728971024895736690:=()
def tw16365018645551397692:=()
def tw15848347054967313619:=()
def tw13389158825251468129:=()
def tw12402891269995375864:=()
def tw4952758824588547236:=()
def tw3250096724973447110:=()
def tw17907769824445534004:=()
def tw7078876467755194704:=()
def tw12642043319740266221:=()
def tw17046787664237660907:=()
def tw4433757262619722204:=()
def tw9622807953945779530:=()
def tw2241672246200209306:=()
def tw619183350801274777:=()
def tw18111607061303957325:=()
def tw16563952075225798338:=()
def tw11733899268105236832:=()
def tw10646774157818790259:=()
def tw7477674037361749642:=()
def tw6420781770894444446:=()
def tw4290015413157474641:=()
def tw17951591060270902716:=()
def tw10190721283394603453:=()
def tw17827856147378676641:=()
def tw10032428119632043571:=()
def tw16137037734221443499:=()
def tw6330581394356715294:=()
def tw17621142033277136381:=()
def tw15870798865828291794:=()
def tw15684901922409824346:=()
def tw11354259996019495316:=()
def tw17972186198135714069:=()
def tw13320316401386207554:=()
def tw12969238575995601670:=()
def tw17259004866903144636:=()
def tw15658529268229231267:=()
def tw18103196210569743784:=()
def tw15699184597337490674:=()
def tw16055323939093112893:=()
def tw14119436764409334330:=()
def tw7425991404268185883:=()
def tw6078846715594527224:=()
def tw12540798798533669960:=()
def tw3848668317566028404:=()
def tw2008010838314009210:=()
def tw11290705750049816926:=()
def tw2137209383732640979:=()
def tw1394137821842480344:=()
def tw9695126901692714388:=()
def tw4993040536434087912:=()
def tw2067106572271107641:=()
def tw12735159361769508974:=()
def tw306918488998725968:=()
def tw3268349655745988574:=()
def tw261992778416347978:=()
def tw6714976087070251647:=()
def tw17916562334934533222:=()
def tw13155303887792083321:=()
def tw3507948880233555243:=()
def tw12532841948528680420:=()
def tw3487516477857936694:=()
def tw1486155227261069090:=()
def tw12831899333148444510:=()
def tw6540089195441626446:=()
def tw9668156582943368801:=()
def tw8326271773454408004:=()
def tw8744757592493233482:=()
def tw13081310171679815830:=()
def tw13004845478390231445:=()
def tw10554189031271682485:=()
def tw8035087007995830752:=()
def tw11536029275332641010:=()
def tw16519838332000322506:=()
def tw11367872322774462129:=()
def tw1488850578841119738:=()
def tw5365567520398405955:=()
def tw2704720871109114559:=()
def tw11728144345432590025:=()
def tw12397111719110043702:=()
def tw4174768502400051664:=()
def tw8941651725410887677:=()
def tw13293107104441690117:=()
def tw8651478480398126433:=()
def tw9089056947675824537:=()
def tw13406460359550418325:=()
def tw13285256803490675266:=()
def tw2773921619770676695:=()
def tw4750331858678518986:=()
def tw2963736577119812262:=()
def tw12310481180650536614:=()
def tw2219043982582547788:=()
def tw8782727226984684781:=()
def tw16407736575881142250:=()
def tw15838748355833853901:=()
def tw6537578250842173156:=()
def tw2050783464773201966:=()
def tw12597278826586797622:=()
def tw16496451491624394464:=()
def tw9739158808679343462:=()
def tw15232400379453746966:=()
def tw390046802002206216:=()
def tw12091324192666578463:=()
def tw6789410925721558324:=()
def tw16587023819973395273:=()
def tw14578007095005387260:=()
def tw2292825029058669980:=()
def tw3221221003435468222:=()
def tw16456251582856630464:=()
def tw11324749791897277010:=()
def tw16945519194237878842:=()
def tw2273946595494447751:=()
def tw4950435237824272446:=()
def tw522831740964764032:=()
def tw1521132679244366680:=()
def tw1066453817504274222:=()
def tw14261966110108781732:=()
def tw14033895123567397038:=()
def tw9831963571892348163:=()
def tw2413405581893219044:=()
def tw11947859985987156701:=()
def tw8119875572448106313:=()
def tw9299654323737913028:=()
def tw8169245453562184386:=()
def tw7447482293805837173:=()
def tw13978876957892716439:=()
def tw9702371474643768273:=()
def tw5447736473125392119:=()
def tw13465891530721783962:=()
def tw13228391226620832925:=()
def tw1554683872874071416:=()
def tw15134330976999767320:=()
def tw5994432259008521161:=()
def tw15976601765024989735:=()
def tw11795858009070013174:=()
def tw6182583504040649789:=()
def tw6561116313628507184:=()
def tw10035655433599750998:=()
def tw11892014352639179993:=()
def tw1679369724471006353:=()
def tw11593278637957702854:=()
def tw1978970719953267654:=()
def tw13388603233957849216:=()
def tw2699044322185960418:=()
def tw1576343316294002068:=()
def tw12494203712498817768:=()
def tw11860456338435697694:=()
def tw1191472439588749487:=()
def tw17340193599871073750:=()
def tw1263696807583206223:=()
def tw14324188066089689265:=()
def tw6700876431798763381:=()
def tw12857899469828242278:=()
def tw1799894368167493367:=()
def tw4836445024872877061:=()
def tw18403894402587295684:=()
def tw9767429997809810994:=()
def tw13473078495526133792:=()
def tw10896066542080291182:=()
def tw16466407702450496836:=()
def tw13682636485358221535:=()
def tw16938350300007058703:=()
def tw2381565865259487200:=()
def tw7441018481576239824:=()
def tw10212382849642227464:=()
def tw4902773510252696299:=()
def tw3582282487449884733:=()
def tw12168993929118118774:=()
def tw5787413461846686719:=()
def tw10268445312473604735:=()
def tw15848706557105949523:=()
def tw7477446983397011382:=()
def tw5441174805190891402:=()
def tw15866190603921309784:=()
def tw9103359872039702527:=()
def tw17967370043069441703:=()
def tw808779313291721057:=()
def tw18214904937170085635:=()
def tw2430995200453519895:=()
def tw1116265590890266232:=()
def tw4738133023752901480:=()
def tw8023030050664611929:=()
def tw244505814047063603:=()
def tw6546828636513918351:=()
def tw14197007206859047378:=()
def tw3184045622871146152:=()
def tw7804194590645735555:=()
def tw1942083820669374584:=()
def tw9484212985648236401:=()
def tw10722226950678867299:=()
def tw10954096425173850971:=()
def tw8384922525077425456:=()
def tw10090129582831068440:=()
def tw2280843523753441245:=()
def tw7824750269506088982:=()
def tw5117384270838081684:=()
def tw315774148092249189:=()
def tw7529912116052034462:=()
def tw11102292692196277552:=()
def tw15020223998769140048:=()
def tw3453143769427800550:=()
def tw3118114780202689444:=()
def tw10456395948522435175:=()
def tw2934052108630109217:=()
def tw15338962158277508703:=()
def tw15036619733721684325:=()
def tw2233391792476382552:=()
def tw11578869250076580347:=()
def tw14951252604655313001:=()
def tw16365682386293241393:=()
def tw4459016683166329933:=()
def tw5540483406741141721:=()
def tw8267201976226365299:=()
def tw4287263296535693005:=()
def tw12741819003914666671:=()
def tw17434436151629732402:=()
def tw12539364887384407011:=()
def tw1910637966499439640:=()
def tw10409138765522918946:=()
def tw17390394492920994492:=()
def tw16528704012094193901:=()
def tw15352838409201328976:=()
def tw1172729004016415582:=()
def tw15167805759583975762:=()
def tw14492166653062773396:=()
def tw8479584783813048422:=()
def tw7709340416204147741:=()
def tw5768946731320985131:=()
def tw2473221725304949934:=()
def tw14945231503868642608:=()
def tw12229411657432442794:=()
def tw3734996039250780982:=()
def tw16960044816124054606:=()
def tw4738620377378433243:=()
def tw18129423095119574653:=()
def tw5962770175436596414:=()
def tw17063428903406439177:=()
def tw13683645762743841877:=()
def tw1157767161198757049:=()
def tw9251691430608712394:=()
def tw12233940128158282844:=()
def tw2758314155719297855:=()
def tw5200632285189007526:=()
def tw12334602373260394774:=()
def tw6528711234232111615:=()
def tw11023241014707275953:=()
def tw11051993973984855686:=()
def tw7941097500516540377:=()
def tw3301143379846360374:=()
def tw9440017846340298007:=()
def tw10273070340779592298:=()
def tw3692452728619171337:=()
def tw15077438857898882003:=()
def tw9486048315609225914:=()
def tw17845471622314190149:=()
def tw11134306990103309369:=()
def tw13022375423147862699:=()
def tw11167252339087459049:=()
def tw3373825223192583057:=()
def tw1845165486672096904:=()
def tw9573855856269148649:=()
def tw2151078384397162470:=()
def tw4567385810569021855:=()
def tw12531537722148510949:=()
def tw7073066342792056705:=()
def tw18115590372711317743:=()
def tw288585843741437216:=()
def tw13596529445185954616:=()
def tw6838802899843047109:=()
def tw7438079492808283492:=()
def tw17845097411511183898:=()
def tw14509492967432802085:=()
def tw5551572898299224236:=()
def tw8758549432246998325:=()
def tw2120658171507055542:=()
def tw18071921602634724424:=()
def tw1554862379231487796:=()
def tw16813262192905427236:=()
def tw247911041780840899:=()
def tw8402363788575069868:=()
def tw14971834414375170758:=()
def tw14880785931117910884:=()
def tw8184976006501490255:=()
def tw5266023461289889568:=()
def tw12815057182092040329:=()
def tw3116551206991042953:=()
def tw8793667253975666572:=()
def tw6496476686479825028:=()
def tw10669148858174769565:=()
def tw12370380590169499515:=()
def tw2888928428633778419:=()
def tw12094731340376891149:=()
def tw153694667528786712:=()
def tw11622915919096162999:=()
def tw16664357781955033490:=()
def tw10613872335218802560:=()
def tw9105918752239075101:=()
def tw14708063398477597973:=()
def tw5412090277172269031:=()
def tw6370512431239222138:=()
def tw8373686521829690193:=()
def tw8665882628375160964:=()
def tw6256548972024769054:=()
def tw3044591748947115524:=()
def tw4309514085637320750:=()
def tw3639612720070234507:=()
def tw3040472226539655892:=()
def tw16117646178159333292:=()
def tw16353442159336030900:=()
def tw5068311293948470609:=()
def tw14208840210424511141:=()
def tw13335175927367333258:=()
def tw7740450105762185668:=()
def tw6021105491620695014:=()
def tw9459167151844196756:=()
def tw18312542948291862716:=()
def tw8718767283875886836:=()
def tw716491838606721451:=()
def tw6113042742409360497:=()
def tw10290803539038997865:=()
def tw13104932452167118802:=()
def tw5110730178308241893:=()
def tw3709594772512409554:=()
def tw18274001333497534100:=()
def tw10844006094337330859:=()
def tw7221610026317139777:=()
def tw2404303710144436311:=()
def tw15017376782733532977:=()
def tw6962684756517611289:=()
def tw6521282461782049817:=()
def tw17896699457565612140:=()
def tw14408287017978859473:=()
def tw8471109413642969196:=()
def tw8885294865412854871:=()
def tw12486476701772848934:=()
def tw7029191652373655642:=()
def tw14261540679150144912:=()
def tw9316932118034481813:=()
def tw6672610177404993117:=()
def tw5017923006742241290:=()
def tw10578892352079537254:=()
def tw9960835212213686704:=()
def tw8496792184865378447:=()
def tw8181493317372879923:=()
def tw11005919356789988526:=()
def tw10129545337205386294:=()
def tw13955384981520608977:=()
def tw2933633025704125903:=()
def tw18185309617311425369:=()
def tw9566289869081970057:=()
def tw4985431051987034006:=()
def tw9020372092932094744:=()
def tw3311618756246662852:=()
def tw7521917223365040764:=()
def tw16730997269312791201:=()
def tw11919949938773576547:=()
def tw6065052911922356940:=()
def tw474572165081178346:=()
def tw5849521508476337270:=()
def tw7127336025762848885:=()
def tw656838345935456363:=()
def tw420631017452983564:=()
def tw12585191928303061528:=()
def tw4494378112497142287:=()
def tw4277062586617101027:=()
def tw5307285611163494986:=()
def tw15690950832172967974:=()
def tw17486048698112077592:=()
def tw18007410445916964916:=()
def tw7702937420934798432:=()
def tw6728213345646360493:=()
def tw15509352039750052205:=()
def tw11447552412529657377:=()
def tw13591830393498145686:=()
def tw12135526269527398235:=()
def tw7667331170024381768:=()
def tw11758908028407662883:=()
def tw8204311557416147857:=()
def tw905328161089023748:=()
def tw6338375581433048665:=()
def tw951286937578539057:=()
def tw4783767671754220423:=()
def tw5318799762777237889:=()
def tw14339451707736014856:=()
def tw17671676895005235736:=()
def tw14734745828292118089:=()
def tw16003722991651913935:=()
def tw3695080080773607364:=()
def tw2208457249030731686:=()
def tw15805479924936292104:=()
def tw10693449320240372969:=()
def tw13143702538449523727:=()
def tw5325766146858054122:=()
def tw16335460064896305307:=()
def tw14160159472210244104:=()
def tw12099546525254853403:=()
def tw9380097664501834219:=()
def tw16173640334205636003:=()
def tw8379203482443600569:=()
def tw13395956255536751408:=()
def tw5352767554914108337:=()
def tw900894262306875375:=()
def tw14739458293812806945:=()
def tw11422916702240665866:=()
def tw12015743659172073308:=()
def tw18333741385186080152:=()
def tw4109980568524104480:=()
def tw2042097724236938822:=()
def tw8536856267572831031:=()
def tw3461830205726654656:=()
def tw15561545994734153748:=()
def tw5438974431705613349:=()
def tw8140354206618266318:=()
def tw12983150174617538068:=()
def tw8704007641189165405:=()
def tw14280956488048472926:=()
def tw18439049962023582675:=()
def tw1109970564180813777:=()
def tw4392890365714703469:=()
def tw13772529192372472424:=()
def tw8071712901012034017:=()
def tw11605078390706219393:=()
def tw15623983341910881987:=()
def tw9294607724226487133:=()
def tw16067308861991144938:=()
def tw8509214695700717401:=()
def tw4371922262613867563:=()
def tw7718463538243306336:=()
def tw1541736257988028011:=()
def tw14997636017516635338:=()
def tw9369352353273633758:=()
def tw8519927863675993406:=()
def tw3400559715071433786:=()
def tw14488224106826247675:=()
def tw2241730625398279003:=()
def tw6814670481282548352:=()
def tw13398216547840896316:=()
def tw8295702057517270488:=()
def tw393591887531626068:=()
def tw495897239268392830:=()
def tw6649437429262386732:=()
def tw7326079930253358847:=()
def tw13608983488881614290:=()
def tw4388660461890631695:=()
def tw12729344530266140125:=()
def tw5316204303353820620:=()
def tw16554516786094255425:=()
def tw3006776054177278386:=()
def tw5331047324481030608:=()
def tw6122320376385724566:=()
def tw77135710365861051:=()
def tw15006832107840768046:=()
def tw10406787060154033204:=()
def tw8731273714938259902:=()
def tw7383705828020162544:=()
def tw15393041639656034865:=()
def tw10820901583666086981:=()
def tw12318015474607377295:=()
def tw4010439728780409939:=()
def tw10271514441337517135:=()
def tw17817945735271366094:=()
def tw13902857889533709725:=()
def tw8031068914600304801:=()
def tw14581192473833753612:=()
def tw8929730899161430526:=()
def tw11267284638980793171:=()
def tw17376599298547956529:=()
def tw2555374248637260140:=()
def tw17386882186975459382:=()
def tw5409829017597310775:=()
def tw9308075331896184808:=()
def tw11753639999722405860:=()
def tw12489594892954227986:=()
def tw998259030436181535:=()
def tw5052118466410144540:=()
def tw742469352087563188:=()
def tw12690739595822172774:=()
def tw15138151138329997807:=()
def tw8423388800005774699:=()
def tw16753983510155910607:=()
def tw16986930410094962009:=()
def tw16432594374428608436:=()
def tw7243452690436745787:=()
def tw13529094490085719379:=()
def tw754848257814202181:=()
def tw14732125482977867657:=()
def tw15912067229685896398:=()
def tw6194114412131083162:=()
def tw4207679836561633171:=()
def tw11880639863636760453:=()
def tw81587889561149124:=()
def tw11920220885402819449:=()
def tw8986285451856544002:=()
def tw2454495019539784856:=()
def tw14748844143082097726:=()
def tw550379049761412526:=()
def tw14701184619450872329:=()
def tw8127060936287396871:=()
def tw11914700866035230443:=()
def tw10661650351808619214:=()
def tw15619345750331000802:=()
def tw8471826660672457584:=()
def tw14177154340633247547:=()
def tw5425110393628127647:=()
def tw9481758951598838482:=()
def tw18167812155938150937:=()
def tw9511106831558892476:=()
def tw14854752688249986230:=()
def tw3040497543327854002:=()
def tw4454509939437319968:=()
def tw1757290363504293508:=()
def tw9569322666425132518:=()
def tw12320554590007219124:=()
def tw8231152735182900494:=()
def tw8000207112760922715:=()
def tw11420682279292941265:=()
def tw12279929199183541469:=()
def tw13833583198800058890:=()
def tw567587039047328022:=()
def tw3435613936147316629:=()
def tw1603493135213222819:=()
def tw1384888691591317472:=()
def tw3257045956677217849:=()
def tw12249741962602203408:=()
def tw3645675244723608441:=()
def tw14972000615108391085:=()
def tw10394814390625404307:=()
def tw11724789316664848785:=()
def tw1398650188784639468:=()
def tw3609641720875211062:=()
def tw9679111204243720638:=()
def tw7263342434254251994:=()
def tw2952211377138846204:=()
def tw5926732036926734208:=()
def tw2992465377804747398:=()
def tw11749435830912536577:=()
def tw11519600317033476406:=()
def tw15290893734878128789:=()
def tw7898380340714270203:=()
def tw9964630493025425964:=()
def tw1476778764959343825:=()
def tw12431702039730877612:=()
def tw16077706255814827303:=()
def tw16642817744110833155:=()
def tw12969952696204402256:=()
def tw15859852694598695803:=()
def tw9341243477205750184:=()
def tw11521337337079643452:=()
def tw1361572196665624889:=()
def tw128941206612317920:=()
def tw3345799120166210139:=()
def tw5520350646426691008:=()
def tw3306035156849872107:=()
def tw13615132483998844274:=()
def tw14739767706074659610:=()
def tw6116291796003689049:=()
def tw4035309898563160123:=()
def tw953437951230417872:=()
def tw490664963933828986:=()
def tw5343278161963294238:=()
def tw15358910358612738544:=()
def tw7657665591133129862:=()
def tw5257418953711043783:=()
def tw18372820466744164506:=()
def tw11047195731203028861:=()
def tw17953651312190622357:=()
def tw11728436986285616386:=()
def tw8204401477587688714:=()
def tw5127196352604279214:=()
def tw12627481542979089161:=()
def tw6573306830726416766:=()
def tw17224046628889891619:=()
def tw10676685550691853186:=()
def tw2415547398156794408:=()
def tw8793453208961614867:=()
def tw3186623867903744428:=()
def tw17025853476682584656:=()
def tw18339164108285274802:=()
def tw12380865079944992949:=()
def tw12643107380156761141:=()
def tw7212593058703421932:=()
def tw14936805278218973808:=()
def tw3977551921603847624:=()
def tw7342488104576042764:=()
def tw6685820181288407919:=()
def tw952410501389567622:=()
def tw12510242149836180469:=()
def tw14362715080124943571:=()
def tw1055950499904323943:=()
def tw16824979881051510251:=()
def tw8720819667333454294:=()
def tw8945838474559923021:=()
def tw992896793798940834:=()
def tw16066179534470685489:=()
def tw16706510232547972719:=()
def tw5857535992402234512:=()
def tw13667680277224622104:=()
def tw7511720503809670291:=()
def tw2385107567153153365:=()
def tw12170703488231638029:=()
def tw6402076105297790242:=()
def tw10622838423942044445:=()
def tw2289849491046296573:=()
def tw7008368219172070117:=()
def tw3211039640459419904:=()
def tw2633480864031723059:=()
def tw9646451213203541547:=()
def tw17022799117475105932:=()
def tw9161753239102981130:=()
def tw10855022840231526024:=()
def tw5006765525258342685:=()
def tw8697896647547980518:=()
def tw16249963026926881481:=()
def tw743888024594631055:=()
def tw1083535512364811570:=()
def tw10316653234116129342:=()
def tw1870158151509539837:=()
def tw13646549126716465311:=()
def tw463212338787041348:=()
def tw12229564864457358306:=()
def tw13986831576213645367:=()
def tw7803385420513160367:=()
def tw364529965957863359:=()
def tw16900560793875918390:=()
def tw2842349685869902412:=()
def tw14868231110871301244:=()
def tw10255054486360928645:=()
def tw10581570746012538485:=()
def tw13487875771390469403:=()
def tw3990192213771850466:=()
def tw16831973089667564261:=()
def tw7996075675594630213:=()
def tw14196754835663157305:=()
def tw6709343074980077907:=()
def tw2150977726420998888:=()
def tw1479044511324834919:=()
def tw14373139830241474811:=()
def tw14109534548114733941:=()
def tw10654481212221683734:=()
def tw2193746736056707410:=()
def tw10557212218443187751:=()
def tw15129994098387770720:=()
def tw15889021717153493988:=()
def tw8742736704747463819:=()
def tw16571964265919226931:=()
def tw9795600275884146453:=()
def tw2901691870987057716:=()
def tw5403738699126503128:=()
def tw8948261461167519340:=()
def tw6041968273991667846:=()
def tw13046325262676062233:=()
def tw8904568298650849031:=()
def tw13852435491023774380:=()
def tw11615656176274357380:=()
def tw4836782575239253653:=()
def tw5070921965955360459:=()
def tw5985487784701597930:=()
def tw15710750410729160899:=()
end PySem.W.Fast
open PySem PySem.W PyProof.Rows
set_option maxRecDepth 100000 in
set_option maxHeartbeats 0 in
theorem PySem.Challenge.cw_rotafair_k25_a_house_shown_holds : PySem.Challenge.rw_rotafair_k25_a_house_shown.Holds := by
 w_on; o_law; z_head; (case hw=>w_witness2)
 k_fill
 refine K25.walkX (fun _=>rfl) ?_
 refine K25.walk (l:=PySem.Challenge.rw_rotafair_k25_a_house_shown) rfl rfl (fun w h Y=>Y) ?F
 case F =>
  intro w mg fa h KX G hmg
  refine' K25.all_mk KX G hmg ?J95 ?Jb6 ?J9h ?Jbk ?J7i ?Jdo ?J7g ?J9l ?a1 ?i1 ?l1 ?c1 ?k1 ?a2 ?i2 ?l2 ?c2 ?k2 ?a3 ?i3 ?l3 ?c3 ?k3 ?a4 ?i4 ?l4 ?c4 ?k4 ?a5 ?i5 ?l5 ?c5 ?k5 ?a6 ?i6 ?l6 ?c6 ?k6 ?a7 ?i7 ?l7 ?c7 ?k7 ?a8 ?i8 ?l8 ?c8 ?k8 ?a9 ?l9 ?c9 ?k9 ?a10 ?l10 ?c10 ?k10 ?a11 ?l11 ?c11 ?k11 ?a12 ?l12 ?c12 ?k12 ?a13 ?l13 ?c13 ?k13 ?a14 ?l14 ?c14 ?k14 ?a15 ?l15 ?c15 ?k15 ?a16 ?l16 ?c16 ?k16 ?a17 ?l17 ?c17 ?k17 ?a18 ?l18 ?c18 ?k18 ?a19 ?i19 ?l19 ?c19 ?k19 ?a20 ?i20 ?l20 ?c20 ?k20 ?a21 ?i21 ?l21 ?c21 ?k21 ?a22 ?l22 ?c22 ?k22 ?a23 ?l23 ?c23 ?k23 ?a24 ?i24 ?l24 ?c24 ?k24 ?a25 ?i25 ?l25 ?c25 ?k25 ?a26 ?i26 ?l26 ?c26 ?k26 ?a27 ?l27 ?c27 ?k27 ?a28 ?l28 ?c28 ?k28 ?a29 ?l29 ?c29 ?k29 ?a30 ?l30 ?c30 ?k30 ?a31 ?l31 ?c31 ?k31 ?a32 ?l32 ?c32 ?k32 ?a33 ?l33 ?c33 ?k33 ?a34 ?l34 ?c34 ?k34 ?a35 ?l35 ?c35 ?k35 ?a36 ?l36 ?c36 ?k36 ?a37 ?l37 ?c37 ?k37 ?a38 ?l38 ?c38 ?k38 ?a39 ?l39 ?c39 ?k39 ?a40 ?l40 ?c40 ?k40 ?a41 ?l41 ?c41 ?k41 ?a42 ?l42 ?c42 ?k42 ?a43 ?l43 ?c43 ?k43 ?a44 ?l44 ?c44 ?k44 ?a45 ?l45 ?c45 ?k45 ?a46 ?l46 ?c46 ?k46 ?a47 ?l47 ?c47 ?k47 ?a48 ?l48 ?c48 ?k48 ?a49 ?l49 ?c49 ?k49 ?a50 ?l50 ?c50 ?k50 ?a51 ?l51 ?c51 ?k51 ?a52 ?l52 ?c52 ?k52 ?a53 ?l53 ?c53 ?k53 ?a54 ?l54 ?c54 ?k54 ?a55 ?l55 ?c55 ?k55 ?a56 ?l56 ?c56 ?k56 ?a57 ?l57 ?c57 ?k57 ?a58 ?l58 ?c58 ?k58 ?a59 ?l59 ?c59 ?k59 ?a60 ?l60 ?c60 ?k60 ?a61 ?l61 ?c61 ?k61 ?a62 ?l62 ?c62 ?k62 ?a63 ?l63 ?c63 ?k63 ?a64 ?l64 ?c64 ?k64 ?J5p ?J5B ?J5z ?J5w ?J7h ?J6W ?J6M ?J6K ?J6G ?J6J ?J8J ?J90 ?J5e ?J5f ?J5i ?J5o ?J79 ?J6U ?J6F ?J6I ?J6H ?J6L ?J9n ?J8O ?J4N ?J4M ?J4K ?J4L ?J64 ?J5X ?J8P ?J97 ?J8V ?J99 ?Jbq ?Jbe ?J65 ?J5S ?J63 ?J5Y ?J5R ?J5V ?J6V ?J7d ?J70 ?J77 ?J75 ?J7j ?yn ?yt ?J7u ?J7f ?J2B ?J1n ?J98 ?J8R ?J3g ?J1Y ?J7p ?J74 ?J2v ?J1g ?J94 ?J9e ?J38 ?J1W ?J5T ?J5U ?J1X ?J0Y ?Jbg ?JaW ?J3C ?J2H ?J2g ?J1F ?J18 ?J0P ?J0V ?JU ?J0H ?J05 ?J0G ?J0p ?J0j ?J0I ?J1A ?J16 ?J1y ?J2l ?J1u ?J2c ?J1w ?J2h ?J0J ?J0y ?J19 ?J0m ?J10 ?Jao ?J9S ?J3e ?J5g ?J0g ?JS ?J26 ?J1x ?J8j ?J3f ?J3c ?J1T ?J1l ?J2C ?J2E ?J3b ?J2x ?J1h ?J2F ?J01 ?J1U ?J2D ?J2y ?J3E ?J1m ?J3X ?J1i ?J2G ?J5m ?J2z ?J62 ?J5W
  (case J95=>k_is)
  (case Jb6=>k_is)
  (case J9h=>k_is)
  (case Jbk=>k_is)
  (case J7i=>k_is)
  (case Jdo=>k_is)
  (case J7g=>k_is)
  (case J9l=>k_is)
  (case a1=>k_is)
  (case i1=>k_is)
  (case l1=>k_is)
  (case c1=>k_is)
  (case k1=>k_is)
  (case a2=>k_is)
  (case i2=>k_is)
  (case l2=>k_is)
  (case c2=>k_is)
  (case k2=>k_is)
  (case a3=>k_is)
  (case i3=>k_is)
  (case l3=>k_is)
  (case c3=>k_is)
  (case k3=>k_is)
  (case a4=>k_is)
  (case i4=>k_is)
  (case l4=>k_is)
  (case c4=>k_is)
  (case k4=>k_is)
  (case a5=>k_is)
  (case i5=>k_is)
  (case l5=>k_is)
  (case c5=>k_is)
  (case k5=>k_is)
  (case a6=>k_is)
  (case i6=>k_is)
  (case l6=>k_is)
  (case c6=>k_is)
  (case k6=>k_is)
  (case a7=>k_is)
  (case i7=>k_is)
  (case l7=>k_is)
  (case c7=>k_is)
  (case k7=>k_is)
  (case a8=>k_is)
  (case i8=>k_is)
  (case l8=>k_is)
  (case c8=>k_is)
  (case k8=>k_is)
  (case a9=>k_is)
  (case l9=>k_is)
  (case c9=>k_is)
  (case k9=>k_is)
  (case a10=>k_is)
  (case l10=>k_is)
  (case c10=>k_is)
  (case k10=>k_is)
  (case a11=>k_is)
  (case l11=>k_is)
  (case c11=>k_is)
  (case k11=>k_is)
  (case a12=>k_is)
  (case l12=>k_is)
  (case c12=>k_is)
  (case k12=>k_is)
  (case a13=>k_is)
  (case l13=>k_is)
  (case c13=>k_is)
  (case k13=>k_is)
  (case a14=>k_is)
  (case l14=>k_is)
  (case c14=>k_is)
  (case k14=>k_is)
  (case a15=>k_is)
  (case l15=>k_is)
  (case c15=>k_is)
  (case k15=>k_is)
  (case a16=>k_is)
  (case l16=>k_is)
  (case c16=>k_is)
  (case k16=>k_is)
  (case a17=>k_is)
  (case l17=>k_is)
  (case c17=>k_is)
  (case k17=>k_is)
  (case a18=>k_is)
  (case l18=>k_is)
  (case c18=>k_is)
  (case k18=>k_is)
  (case a19=>k_is)
  (case i19=>k_is)
  (case l19=>k_is)
  (case c19=>k_is)
  (case k19=>k_is)
  (case a20=>k_is)
  (case i20=>k_is)
  (case l20=>k_is)
  (case c20=>k_is)
  (case k20=>k_is)
  (case a21=>k_is)
  (case i21=>k_is)
  (case l21=>k_is)
  (case c21=>k_is)
  (case k21=>k_is)
  (case a22=>k_is)
  (case l22=>k_is)
  (case c22=>k_is)
  (case k22=>k_is)
  (case a23=>k_is)
  (case l23=>k_is)
  (case c23=>k_is)
  (case k23=>k_is)
  (case a24=>k_is)
  (case i24=>k_is)
  (case l24=>k_is)
  (case c24=>k_is)
  (case k24=>k_is)
  (case a25=>k_is)
  (case i25=>k_is)
  (case l25=>k_is)
  (case c25=>k_is)
  (case k25=>k_is)
  (case a26=>k_is)
  (case i26=>k_is)
  (case l26=>k_is)
  (case c26=>k_is)
  (case k26=>k_is)
  (case a27=>k_is)
  (case l27=>k_is)
  (case c27=>k_is)
  (case k27=>k_is)
  (case a28=>k_is)
  (case l28=>k_is)
  (case c28=>k_is)
  (case k28=>k_is)
  (case a29=>k_is)
  (case l29=>k_is)
  (case c29=>k_is)
  (case k29=>k_is)
  (case a30=>k_is)
  (case l30=>k_is)
  (case c30=>k_is)
  (case k30=>k_is)
  (case a31=>k_is)
  (case l31=>k_is)
  (case c31=>k_is)
  (case k31=>k_is)
  (case a32=>k_is)
  (case l32=>k_is)
  (case c32=>k_is)
  (case k32=>k_is)
  (case a33=>k_is)
  (case l33=>k_is)
  (case c33=>k_is)
  (case k33=>k_is)
  (case a34=>k_is)
  (case l34=>k_is)
  (case c34=>k_is)
  (case k34=>k_is)
  (case a35=>k_is)
  (case l35=>k_is)
  (case c35=>k_is)
  (case k35=>k_is)
  (case a36=>k_is)
  (case l36=>k_is)
  (case c36=>k_is)
  (case k36=>k_is)
  (case a37=>k_is)
  (case l37=>k_is)
  (case c37=>k_is)
  (case k37=>k_is)
  (case a38=>k_is)
  (case l38=>k_is)
  (case c38=>k_is)
  (case k38=>k_is)
  (case a39=>k_is)
  (case l39=>k_is)
  (case c39=>k_is)
  (case k39=>k_is)
  (case a40=>k_is)
  (case l40=>k_is)
  (case c40=>k_is)
  (case k40=>k_is)
  (case a41=>k_is)
  (case l41=>k_is)
  (case c41=>k_is)
  (case k41=>k_is)
  (case a42=>k_is)
  (case l42=>k_is)
  (case c42=>k_is)
  (case k42=>k_is)
  (case a43=>k_is)
  (case l43=>k_is)
  (case c43=>k_is)
  (case k43=>k_is)
  (case a44=>k_is)
  (case l44=>k_is)
  (case c44=>k_is)
  (case k44=>k_is)
  (case a45=>k_is)
  (case l45=>k_is)
  (case c45=>k_is)
  (case k45=>k_is)
  (case a46=>k_is)
  (case l46=>k_is)
  (case c46=>k_is)
  (case k46=>k_is)
  (case a47=>k_is)
  (case l47=>k_is)
  (case c47=>k_is)
  (case k47=>k_is)
  (case a48=>k_is)
  (case l48=>k_is)
  (case c48=>k_is)
  (case k48=>k_is)
  (case a49=>k_is)
  (case l49=>k_is)
  (case c49=>k_is)
  (case k49=>k_is)
  (case a50=>k_is)
  (case l50=>k_is)
  (case c50=>k_is)
  (case k50=>k_is)
  (case a51=>k_is)
  (case l51=>k_is)
  (case c51=>k_is)
  (case k51=>k_is)
  (case a52=>k_is)
  (case l52=>k_is)
  (case c52=>k_is)
  (case k52=>k_is)
  (case a53=>k_is)
  (case l53=>k_is)
  (case c53=>k_is)
  (case k53=>k_is)
  (case a54=>k_is)
  (case l54=>k_is)
  (case c54=>k_is)
  (case k54=>k_is)
  (case a55=>k_is)
  (case l55=>k_is)
  (case c55=>k_is)
  (case k55=>k_is)
  (case a56=>k_is)
  (case l56=>k_is)
  (case c56=>k_is)
  (case k56=>k_is)
  (case a57=>k_is)
  (case l57=>k_is)
  (case c57=>k_is)
  (case k57=>k_is)
  (case a58=>k_is)
  (case l58=>k_is)
  (case c58=>k_is)
  (case k58=>k_is)
  (case a59=>k_is)
  (case l59=>k_is)
  (case c59=>k_is)
  (case k59=>k_is)
  (case a60=>k_is)
  (case l60=>k_is)
  (case c60=>k_is)
  (case k60=>k_is)
  (case a61=>k_is)
  (case l61=>k_is)
  (case c61=>k_is)
  (case k61=>k_is)
  (case a62=>k_is)
  (case l62=>k_is)
  (case c62=>k_is)
  (case k62=>k_is)
  (case a63=>k_is)
  (case l63=>k_is)
  (case c63=>k_is)
  (case k63=>k_is)
  (case a64=>k_is)
  (case l64=>k_is)
  (case c64=>k_is)
  (case k64=>k_is)
  (case J5p=>k_is)
  (case J5B=>k_is)
  (case J5z=>k_is)
  (case J5w=>k_is)
  (case J7h=>k_is)
  (case J6W=>k_is)
  (case J6M=>k_is)
  (case J6K=>k_is)
  (case J6G=>k_is)
  (case J6J=>k_is)
  (case J8J=>k_is)
  (case J90=>k_is)
  (case J5e=>k_is)
  (case J5f=>k_is)
  (case J5i=>k_is)
  (case J5o=>k_is)
  (case J79=>k_is)
  (case J6U=>k_is)
  (case J6F=>k_is)
  (case J6I=>k_is)
  (case J6H=>k_is)
  (case J6L=>k_is)
  (case J9n=>k_is)
  (case J8O=>k_is)
  (case J4N=>k_is)
  (case J4M=>k_is)
  (case J4K=>k_is)
  (case J4L=>k_is)
  (case J64=>k_is)
  (case J5X=>k_is)
  (case J8P=>k_is)
  (case J97=>k_is)
  (case J8V=>k_is)
  (case J99=>k_is)
  (case Jbq=>k_is)
  (case Jbe=>k_is)
  (case J65=>k_is)
  (case J5S=>k_is)
  (case J63=>k_is)
  (case J5Y=>k_is)
  (case J5R=>k_is)
  (case J5V=>k_is)
  (case J6V=>k_is)
  (case J7d=>k_is)
  (case J70=>k_is)
  (case J77=>k_is)
  (case J75=>k_is)
  (case J7j=>k_is)
  (case yn=>k_is)
  (case yt=>k_is)
  (case J7u=>k_is)
  (case J7f=>k_is)
  (case J2B=>kit_is)
  (case J1n=>kit_is)
  (case J98=>k_is)
  (case J8R=>k_is)
  (case J3g=>kit_is)
  (case J1Y=>kit_is)
  (case J7p=>k_is)
  (case J74=>k_is)
  (case J2v=>kit_is)
  (case J1g=>kit_is)
  (case J94=>k_is)
  (case J9e=>k_is)
  (case J38=>kit_is)
  (case J1W=>kit_is)
  (case J5T=>k_is)
  (case J5U=>k_is)
  (case J1X=>kit_is)
  (case J0Y=>kit_is)
  (case Jbg=>k_is)
  (case JaW=>k_is)
  (case J3C=>kit_is)
  (case J2H=>kit_is)
  (case J2g=>k_is)
  (case J1F=>k_is)
  (case J18=>k_is)
  (case J0P=>k_is)
  (case J0V=>k_is)
  (case JU=>k_is)
  (case J0H=>k_is)
  (case J05=>k_is)
  (case J0G=>k_is)
  (case J0p=>k_is)
  (case J0j=>k_is)
  (case J0I=>k_is)
  (case J1A=>k_is)
  (case J16=>k_is)
  (case J1y=>k_is)
  (case J2l=>k_is)
  (case J1u=>k_is)
  (case J2c=>k_is)
  (case J1w=>k_is)
  (case J2h=>k_is)
  (case J0J=>k_is)
  (case J0y=>k_is)
  (case J19=>k_is)
  (case J0m=>k_is)
  (case J10=>k_is)
  (case Jao=>k_is)
  (case J9S=>k_is)
  (case J3e=>k_is)
  (case J5g=>k_is)
  (case J0g=>k_is)
  (case JS=>k_is)
  (case J26=>k_is)
  (case J1x=>k_is)
  (case J8j=>k_is)
  (case J3f=>k_is)
  (case J3c=>k_is)
  (case J1T=>k_is)
  (case J1l=>k_is)
  (case J2C=>k_is)
  (case J2E=>k_is)
  (case J3b=>k_is)
  (case J2x=>k_is)
  (case J1h=>k_is)
  (case J2F=>k_is)
  (case J01=>k_is)
  (case J1U=>k_is)
  (case J2D=>k_is)
  (case J2y=>k_is)
  (case J3E=>k_is)
  (case J1m=>k_is)
  (case J3X=>k_is)
  (case J1i=>k_is)
  (case J2G=>k_is)
  (case J5m=>k_is)
  (case J2z=>k_is)
  (case J62=>k_is)
  (case J5W=>kernel_rfl)
#print axioms PySem.Challenge.cw_rotafair_k25_a_house_shown_holds
