import PyProof.Rows.All
import Wide.All
import OpenK.AllK
import Wide.FinOn
import Lean
import PyProof.EqAt
import PyProof.EqKinds
import PyProof.TupleCall
import KE.KIntText
import PyProof.ListRange
import PyProof.Rows.StrMul
import PyProof.Rows.StrCountLaw
import PyProof.Rows.StrLen
import PyProof.ToksMono
import PyProof.Rows.StrJoinRep
import PySem.Challenge.RW_rotafair_k11_tails_or_a_row
set_option Elab.async false
set_option linter.all false
set_option maxRecDepth 100000
namespace L2
open PySem PySem.Spec PyProof.Rows
noncomputable abbrev Key:=Sum Int Str
noncomputable def J57 : Key → Value → Bool
 | .inl k,v=>Value.isInt k v
 | .inr x,v=>Value.isStrOf x v
noncomputable def keyH (w : World) : Key → Int
 | .inl k=>hashInt k
 | .inr x=>hashStr w x
theorem JT : ∀ {k : Key} {v : Value},J57 k v = true → (∃ i t,k = Sum.inl i ∧ v = Value.int i t) ∨ (∃ x t,k = Sum.inr x ∧ v = Value.str x t)
 | .inl i,v,h=>by
  obtain ⟨t,e⟩:=Value.isInt_shape (k:=i) (v:=v) h
  exact .inl ⟨i,t,rfl,e⟩
 | .inr x,v,h=>by
  obtain ⟨t,e⟩:=Value.isStrOf_shape (x:=x) (v:=v) h
  exact .inr ⟨x,t,rfl,e⟩
theorem J96 (i : Int) (t : Tok) : J57 (.inl i) (.int i t) = true:=by simp [J57,Value.isInt]
theorem J8I (x : Str) (t : Tok) : J57 (.inr x) (.str x t) = true:=by simp [J57,Value.isStrOf]
theorem Jb0 (a b : Int) : decide ((Sum.inl a : Key) = Sum.inl b) = (a == b):=by
 by_cases e : a = b
 ·subst e; simp
 ·have h : ¬ (Sum.inl a : Key) = Sum.inl b:=fun q=>e (Sum.inl.inj q)
  rw [decide_eq_false h]
  exact (beq_eq_false_iff_ne.mpr e).symm
theorem Jb1 (a b : Str) : decide ((Sum.inr a : Key) = Sum.inr b) = decide (a = b):=by
 by_cases e : a = b
 ·subst e; simp
 ·have h : ¬ (Sum.inr a : Key) = Sum.inr b:=fun q=>e (Sum.inr.inj q)
  rw [decide_eq_false h,decide_eq_false e]
theorem JaW (a : Int) (b : Str) : decide ((Sum.inl a : Key) = Sum.inr b) = false:=decide_eq_false (fun q=>nomatch q)
theorem Jbj (a : Str) (b : Int) : decide ((Sum.inr a : Key) = Sum.inl b) = false:=decide_eq_false (fun q=>nomatch q)
noncomputable def JZ (prog : Program) (w : World) : PySem.KeyKind prog w Key where
 is:=J57
 hash:=keyH w
 inj:=fun v a b ha hb=>by
  rcases JT ha with ⟨i,t,rfl,rfl⟩ | ⟨x,t,rfl,rfl⟩
  ·rcases JT hb with ⟨j,u,rfl,e⟩ | ⟨y,u,rfl,e⟩
   ·injection e with e1 _; rw [e1]
   ·exact nomatch e
  ·rcases JT hb with ⟨j,u,rfl,e⟩ | ⟨y,u,rfl,e⟩
   ·exact nomatch e
   ·injection e with e1 _; rw [e1]
 byValue:=fun k v h=>by
  rcases JT h with ⟨i,t,rfl,rfl⟩ | ⟨x,t,rfl,rfl⟩ <;> rfl
 pyHash:=fun hv h=>by
  rcases JT hv with ⟨i,t,rfl,rfl⟩ | ⟨x,t,rfl,rfl⟩
  ·exact wpAny_pyHash_int h
  ·exact wpAny_pyHash_str h
 eqBool:=fun hu hv h=>by
  rcases JT hu with ⟨i,t,rfl,rfl⟩ | ⟨x,t,rfl,rfl⟩
  ·rcases JT hv with ⟨j,u,rfl,rfl⟩ | ⟨y,u,rfl,rfl⟩
   ·rw [Jb0] at h; exact wpAny_eqBool_int h
   ·rw [JaW] at h; exact SeqAt.EqAt.int_str i t y u _ _ _ _ h
  ·rcases JT hv with ⟨j,u,rfl,rfl⟩ | ⟨y,u,rfl,rfl⟩
   ·rw [Jbj] at h; exact SeqAt.EqAt.str_int x t j u _ _ _ _ h
   ·rw [Jb1] at h; exact wpAny_eqBool_str h
 «strs»:=fun k x t v h=>by
  rcases JT h with ⟨i,u,rfl,e⟩ | ⟨y,u,rfl,e⟩
  ·exact nomatch e
  ·injection e with e1 _
   subst e1
   cases v <;> rfl
theorem J6X (prog : Program) (w : World) (i : Int) (t : Tok) : (JZ prog w).is (.inl i) (.int i t) = true:=J96 i t
theorem J6R (prog : Program) (w : World) (x : Str) (t : Tok) : (JZ prog w).is (.inr x) (.str x t) = true:=J8I x t
end L2
namespace L2
open PySem PySem.Spec PyProof.Rows
inductive V where
 | non | bl (b : Bool) | int (i : Int) | str (x : Str) | byt (b : Array UInt8) | flt (b : UInt64) | ref (a : Addr) | ty (n : String)
 deriving DecidableEq
noncomputable def RelV : V → Value → Prop
 | .non,u=>u = Value.none
 | .bl b,u=>u = Value.bool b
 | .int i,u=>∃ t,u = Value.int i t
 | .str x,u=>∃ t,u = Value.str x t
 | .byt b,u=>∃ t,u = Value.bytes b t
 | .flt b,u=>∃ t,u = Value.float b t
 | .ref a,u=>u = Value.ref a
 | .ty n,u=>u = Value.type n
noncomputable abbrev Vals : List V → List Value → Prop:=Paired RelV
theorem Vals.length {xs : List V} {us : List Value} (r : Vals xs us) : xs.length = us.length:=Paired.length r
theorem Vals.get : ∀ {xs : List V} {us : List Value} {i : Nat} {x : V},Vals xs us → xs[i]? = some x → ∃ u,us[i]? = some u ∧ RelV x u
 | _,_,_,_,.nil,e=>by simp at e
 | _,_,0,_,.cons r _,e=>by simp at e; subst e; exact ⟨_,rfl,r⟩
 | _,_,i + 1,x,.cons _ t,e=>by
  obtain ⟨u,h1,h2⟩:=Vals.get (i:=i) (x:=x) t (by simpa using e)
  exact ⟨u,by simpa using h1,h2⟩
theorem Vals.append : ∀ {xs ys : List V} {us ws : List Value},Vals xs us → Vals ys ws → Vals (xs ++ ys) (us ++ ws)
 | _,_,_,_,.nil,s=>s
 | _,_,_,_,.cons r t,s=>.cons r (Vals.append t s)
theorem Vals.take : ∀ {xs : List V} {us : List Value} (n : Nat),Vals xs us → Vals (xs.take n) (us.take n)
 | _,_,0,_=>.nil
 | _,_,_ + 1,.nil=>.nil
 | _,_,n + 1,.cons r t=>.cons r (Vals.take n t)
theorem Vals.drop : ∀ {xs : List V} {us : List Value} (n : Nat),Vals xs us → Vals (xs.drop n) (us.drop n)
 | _,_,0,r=>r
 | _,_,_ + 1,.nil=>.nil
 | _,_,n + 1,.cons _ t=>Vals.drop n t
noncomputable def RelO : Option V → Option Value → Prop
 | some v,some u=>RelV v u
 | none,none=>True
 | _,_=>False
noncomputable def KV {κ : Type} : List (κ × V) → List (κ × Value) → Prop:=Paired fun (p : κ × V) (q : κ × Value)=>p.1 = q.1 ∧ RelV p.2 q.2
noncomputable def kV : Key → V
 | .inl i=>.int i
 | .inr x=>.str x
inductive HO where
 | lst (xs : List V)
 | tup (xs : List V)
 | dK (kvs : List (Key × V)) | dT (kvs : List (List Key × V))
 | set (S : Int → Bool) (n : Nat)
 | ins (C dx : Addr) (fs : List (Str × V))
 | own (x : Addr)
 | xd (fs : List (Str × V))
 | met (f x : Addr)
 | rng (lo hi : Int)
 | frz (o : Obj) (u : HO)
 | tbl (ps : Array Value)
 | ext (φ : Heap → Prop)
noncomputable abbrev Hp:=Addr → Option HO
noncomputable def upd (H : Hp) (a : Addr) (o : HO) : Hp:=fun b=>if b = a then some o else H b
theorem Jb {H : Hp} {a : Addr} {o : HO} : upd H a o a = some o:=by unfold upd; rw [if_pos rfl]
theorem Jr {H : Hp} {a b : Addr} {o : HO} (h : b ≠ a) : upd H a o b = H b:=by unfold upd; rw [if_neg h]
theorem J9q {H : Hp} {a b : Addr} {o u : HO} (h : H a = some o) (h' : H b = some u) (d : o ≠ u) : a ≠ b:=by
 intro e; subst e; rw [h] at h'; exact d (Option.some.inj h')
theorem Jp {H : Hp} {a b : Addr} {o : HO} (h : H a = some o) (h' : H b = none) : a ≠ b:=by
 intro e; subst e; rw [h] at h'; cases h'
section
variable (P : Program) (w : World)
noncomputable def J0H (H : Hp) (h : Heap) (a : Addr) : HO → Prop
 | .lst xs=>xs.length ≤ sizeLine ∧ ∃ (its : List Value) (n : Nat),Vals xs its ∧ h.get? a = some { cls:=.type "list",data:=.seq its.toArray n }
 | .tup xs=>xs.length ≤ sizeLine ∧ ∃ its : List Value,Vals xs its ∧ IsTup h a its.toArray
 | .dK kvs=>kvs.length ≤ sizeLine ∧ (a == sysModules) = false ∧ ∃ vs,KV kvs vs ∧ h.DictOf (JZ P w) a vs
 | .dT kvs=>kvs.length ≤ sizeLine ∧ (a == sysModules) = false ∧ ∃ xs : List (List Key × Addr × Value),
   Paired (fun (p : List Key × V) (q : List Key × Addr × Value)=>p.1 = q.1 ∧ H q.2.1 = some (.tup (p.1.map kV)) ∧ RelV p.2 q.2.2) kvs xs ∧
   ∃ o es ep,h.get? a = some o ∧ o.ExactDict ∧ o.data = .dict es ep ∧ es.toList = xs.map (entryOfKey (tupleKind (JZ P w))) ∧ (xs.map (·.1)).Nodup
 | .set S n=>h.SetOf (intKind P w) a S n
 | .ins C dx fs=>H dx = some (.own a) ∧ fs.length ≤ 1000 ∧ dx ≠ a ∧ h.get? a = some (PySem.W.instObj C dx) ∧
   ∃ mA,h.Ns1 dx mA ∧ (∀ f,RelO (fs.lookup f) (mA f)) ∧ PySem.Within mA (fs.map (·.1))
 | .own _=>∃ o,h.get? a = some o
 | .xd fs=>∃ mA,h.Ns1 a mA ∧ ∀ f,RelO (fs.lookup f) (mA f)
 | .rng lo hi=>∃ t u v,h.get? a = some { cls:=.type "range",data:=.fields #[.int lo t,.int hi u,.int 1 v] }
 | .frz o u=>h.get? a = some o ∧ J0H H h a u
 | .tbl ps=>h.get? a = some { cls:=.none,data:=.fields ps }
 | .met f x=>h.get? a = some (PySem.W.methodObj (.ref f) (.ref x))
 | .ext φ=>φ h ∧ (∃ o,h.get? a = some o) ∧ ∀ h1 h2 : Heap,φ h1 → (∀ o,h1.get? a = some o → h2.get? a = some o) → φ h2
noncomputable def HOk (H : Hp) (h : Heap) : Prop:=∀ a o,H a = some o → J0H P w H h a o
end
section
variable {P : Program} {w : World} {H H' : Hp} {h h' : Heap} {a : Addr} {o : HO}
theorem J0H.lt (x : J0H P w H h a o) : a < h.objs.size:=by
 cases o with
 | lst xs=>obtain ⟨_,_,_,_,e⟩:=x; exact Heap.lt_size e
 | tup xs=>obtain ⟨_,_,_,p⟩:=x; exact p.lt
 | dK kvs=>obtain ⟨_,_,_,_,o,_,_,e,_⟩:=x; exact Heap.lt_size e
 | dT kvs=>obtain ⟨_,_,_,_,o,_,_,e,_⟩:=x; exact Heap.lt_size e
 | set S n=>obtain ⟨o,_,_,_,e,_⟩:=x; exact Heap.lt_size e
 | ins C dx fs=>obtain ⟨_,_,_,e,_⟩:=x; exact Heap.lt_size e
 | own y=>obtain ⟨_,e⟩:=x; exact Heap.lt_size e
 | xd fs=>obtain ⟨_,⟨_,_,_,e,_⟩,_⟩:=x; exact Heap.lt_size e
 | rng lo hi=>obtain ⟨_,_,_,e⟩:=x; exact Heap.lt_size e
 | frz ob u=>obtain ⟨e,_⟩:=x; exact Heap.lt_size e
 | tbl ps=>exact Heap.lt_size (show h.get? a = some _ from x)
 | met f y=>exact Heap.lt_size (show h.get? a = some _ from x)
 | ext φ=>obtain ⟨_,⟨_,e⟩,_⟩:=x; exact Heap.lt_size e
theorem Paired.mapP {α β : Type} {F G : α → β → Prop} : ∀ {l₁ : List α} {l₂ : List β},Paired F l₁ l₂ → (∀ a b,F a b → G a b) → Paired G l₁ l₂
 | _,_,.nil,_=>.nil
 | _,_,.cons r t,f=>.cons (f _ _ r) (Paired.mapP t f)
theorem J0H.stay (x : J0H P w H h a o) (k : ∀ b u,(b = a ∨ H b = some (.own a)) → h.get? b = some u → h'.get? b = some u)
  (ho : ∀ b,H b = some (.own a) → H' b = some (.own a)) (ht : ∀ b xs,H b = some (.tup xs) → H' b = some (.tup xs)) : J0H P w H' h' a o:=by
 induction o with
 | lst xs=>obtain ⟨z,its,n,r,e⟩:=x; exact ⟨z,its,n,r,k _ _ (.inl rfl) e⟩
 | tup xs=>obtain ⟨z,its,r,ob,e,c⟩:=x; exact ⟨z,its,r,ob,k _ _ (.inl rfl) e,c⟩
 | dK kvs=>obtain ⟨z,y,vs,r,ob,es,ep,e,c⟩:=x; exact ⟨z,y,vs,r,ob,es,ep,k _ _ (.inl rfl) e,c⟩
 | dT kvs =>
  obtain ⟨z,y,xs,r,ob,es,ep,e,c⟩:=x
  exact ⟨z,y,xs,Paired.mapP r fun p q z=>⟨z.1,ht _ _ z.2.1,z.2.2⟩,ob,es,ep,k _ _ (.inl rfl) e,c⟩
 | set S n=>obtain ⟨ob,es,ep,t,e,c⟩:=x; exact ⟨ob,es,ep,t,k _ _ (.inl rfl) e,c⟩
 | ins C dx fs =>
  obtain ⟨d,z,ne,e,mA,⟨od,es,ep,e2,c⟩,r⟩:=x
  exact ⟨ho _ d,z,ne,k _ _ (.inl rfl) e,mA,⟨od,es,ep,k _ _ (.inr d) e2,c⟩,r⟩
 | own y=>obtain ⟨ob,e⟩:=x; exact ⟨ob,k _ _ (.inl rfl) e⟩
 | xd fs=>obtain ⟨mA,⟨od,es,ep,e,c⟩,r⟩:=x; exact ⟨mA,⟨od,es,ep,k _ _ (.inl rfl) e,c⟩,r⟩
 | rng lo hi=>obtain ⟨t,u,v,e⟩:=x; exact ⟨t,u,v,k _ _ (.inl rfl) e⟩
 | frz ob u ih=>obtain ⟨e,q⟩:=x; exact ⟨k _ _ (.inl rfl) e,ih q⟩
 | tbl ps =>
  have e : h.get? a = some { cls:=.none,data:=.fields ps }:=x
  show h'.get? a = some { cls:=.none,data:=.fields ps }
  exact k a _ (.inl rfl) e
 | met f y =>
  have e : h.get? a = some (PySem.W.methodObj (.ref f) (.ref y)):=x
  show h'.get? a = some (PySem.W.methodObj (.ref f) (.ref y))
  exact k a _ (.inl rfl) e
 | ext φ=>obtain ⟨p,⟨o,e⟩,st⟩:=x; exact ⟨st _ _ p fun o q=>k _ _ (.inl rfl) q,⟨o,k _ _ (.inl rfl) e⟩,st⟩
theorem HOk.lt (x : HOk P w H h) (e : H a = some o) : a < h.objs.size:=(x a o e).lt
theorem HOk.fresh (x : HOk P w H h) (e : h.objs.size ≤ a) : H a = none:=by
 cases q : H a with
 | none=>rfl
 | some u=>exact absurd (Nat.lt_of_lt_of_le (x.lt q) e) (Nat.lt_irrefl _)
theorem HOk.kept (x : HOk P w H h) (k : ∀ b u,h.get? b = some u → h'.get? b = some u) : HOk P w H h':=fun a o e =>
 (x a o e).stay (fun b u _ q=>k b u q) (fun _ q=>q) fun _ _ q=>q
theorem HOk.laid (x : HOk P w H h) (k : ∀ b u,h.get? b = some u → h'.get? b = some u) (hp : h.objs.size ≤ a) (new : J0H P w (upd H a o) h' a o) : HOk P w (upd H a o) h':=fun b u e=>by
 have hn:=x.fresh hp
 by_cases hb : b = a
 ·subst hb; rw [Jb] at e; cases e; exact new
 ·rw [Jr hb] at e
  exact (x b u e).stay (fun c v _ q=>k c v q) (fun c q=>by rw [Jr (Jp q hn)]; exact q) fun c xs q=>by rw [Jr (Jp q hn)]; exact q
end
noncomputable def Rd (H : Hp) (a : Addr) (u : HO) : Prop:=H a = some u ∨ ∃ o,H a = some (.frz o u)
theorem Rd.ok {P : Program} {w : World} {H : Hp} {h : Heap} {a : Addr} {u : HO} (r : Rd H a u) (x : HOk P w H h) : J0H P w H h a u:=by
 rcases r with r | ⟨o,r⟩
 ·exact x a u r
 ·obtain ⟨_,q⟩:=x a _ r
  exact q
noncomputable def Mut : Option HO → Prop
 | some (.lst _)=>True
 | some (.dK _)=>True
 | some (.dT _)=>True
 | some (.set _ _)=>True
 | some (.ins _ _ _)=>True
 | some (.ext _)=>True
 | _=>False
section
variable {P : Program} {w : World} {H : Hp} {h h' : Heap} {x e : Addr} {o' : HO}
theorem HOk.write (ok : HOk P w H h) (mu : Mut (H x)) (he : e = x ∨ H e = some (.own x)) (k : ∀ b u,b ≠ e → h.get? b = some u → h'.get? b = some u) (heo : ∃ u,h'.get? e = some u)
  (new : J0H P w (upd H x o') h' x o') : HOk P w (upd H x o') h':=fun b u q=>by
 have nown : ∀ c y,H c = some (.own y) → c ≠ x:=fun c y r z=>by subst z; rw [r] at mu; exact mu
 have ntup : ∀ c xs,H c = some (.tup xs) → c ≠ x:=fun c xs r z=>by subst z; rw [r] at mu; exact mu
 by_cases hb : b = x
 ·subst hb; rw [Jb] at q; cases q; exact new
 ·rw [Jr hb] at q
  by_cases hbe : b = e
  ·have q' : H b = some (.own x):=by
    rcases he with z | z
    ·exact absurd (hbe.trans z) hb
    ·rw [hbe]; exact z
   rw [q] at q'; cases q'
   obtain ⟨v,hv⟩:=heo
   exact ⟨v,by rw [hbe]; exact hv⟩
  ·refine (ok b u q).stay (fun c v hc r=>k c v ?_ r) (fun c r=>by rw [Jr (nown c b r)]; exact r) fun c xs r=>by rw [Jr (ntup c xs r)]; exact r
   rcases hc with rfl | hc
   ·exact hbe
   ·rintro rfl
    rcases he with z | z
    ·exact nown c b hc z
    ·rw [hc] at z; cases z; exact hb rfl
end
structure Un (fs ex : List Addr) (H H' : Hp) (h h' : Heap) : Prop where
 keep : ∀ b o,h.get? b = some o → H b = none → b ∉ fs → b ∉ ex → h'.get? b = some o
 slot : ∀ b o,h.get? b = some o → H b = none → b ∈ fs → b ∉ ex → ∃ sl,h'.get? b = some { o with slots:=sl }
 free : ∀ b o,h.get? b = some o → H b = none → b ∉ ex → H' b = none
 there : ∀ b o,h.get? b = some o → b ∉ ex → ∃ o',h'.get? b = some o'
 tups : ∀ b xs,H b = some (.tup xs) → H' b = some (.tup xs)
 frzs : ∀ b o u,H b = some (.frz o u) → H' b = some (.frz o u)
 tbls : ∀ b ps,H b = some (.tbl ps) → ∃ more,H' b = some (.tbl (ps ++ more))
section
variable {fs fs' ex ex' : List Addr} {H H1 H2 : Hp} {h h1 h2 h' : Heap} {a x e : Addr} {o : HO}
theorem Un.any (u : Un fs ex H H1 h h1) {b : Addr} {ob : Obj} (q : h.get? b = some ob) (n : H b = none) (hx : b ∉ ex) : ∃ sl,h1.get? b = some { ob with slots:=sl }:=by
 by_cases hb : b ∈ fs
 ·exact u.slot b ob q n hb hx
 ·exact ⟨ob.slots,u.keep b ob q n hb hx⟩
theorem Un.kept (k : ∀ b u,h.get? b = some u → h'.get? b = some u) : Un fs ex H H h h' :=
 ⟨fun b ob q _ _ _=>k b ob q,fun b ob q _ _ _=>⟨ob.slots,k b ob q⟩,fun _ _ _ n _=>n,fun b ob q _=>⟨ob,k b ob q⟩,fun _ _ q=>q,fun _ _ _ q=>q,fun _ ps q=>⟨#[],by rw [q]; simp⟩⟩
theorem Un.refl : Un fs ex H H h h:=Un.kept fun _ _ q=>q
theorem Un.laid (k : ∀ b u,h.get? b = some u → h'.get? b = some u) (hp : h.objs.size ≤ a) (hn : H a = none) : Un fs ex H (upd H a o) h h' where
 keep:=fun b u q _ _ _=>k b u q
 slot:=fun b u q _ _ _=>⟨u.slots,k b u q⟩
 free:=fun b u q n _=>by rw [Jr (Nat.ne_of_lt (Nat.lt_of_lt_of_le (Heap.lt_size q) hp))]; exact n
 there:=fun b u q _=>⟨u,k b u q⟩
 tups:=fun b xs q=>by rw [Jr (Jp q hn)]; exact q
 frzs:=fun b u xs q=>by rw [Jr (Jp q hn)]; exact q
 tbls:=fun b ps q=>⟨#[],by rw [Jr (Jp q hn),q]; simp⟩
theorem Un.write (mu : Mut (H x)) (he : e = x ∨ H e = some (.own x)) (k : ∀ b u,b ≠ e → h.get? b = some u → h'.get? b = some u) (heo : ∃ u,h'.get? e = some u) : Un fs ex H (upd H x o) h h':=by
 have hx : ∀ b,H b = none → b ≠ x:=fun b n z=>by subst z; rw [n] at mu; exact mu
 have hb : ∀ b,H b = none → b ≠ e:=fun b n z=>by
  subst z
  rcases he with r | r
  ·exact hx b n r
  ·rw [n] at r; cases r
 have hm : ∀ b u,H b = some u → ¬ Mut (some u) → b ≠ x:=fun b u q nm z=>by subst z; rw [q] at mu; exact nm mu
 refine ⟨fun b u q n _ _=>k b u (hb b n) q,fun b u q n _ _=>⟨u.slots,k b u (hb b n) q⟩,fun b u q n _=>by rw [Jr (hx b n)]; exact n,fun b u q _=>?_,
  fun b xs q=>by rw [Jr (hm b _ q fun z=>z)]; exact q,fun b u xs q=>by rw [Jr (hm b _ q fun z=>z)]; exact q,fun b ps q=>⟨#[],by rw [Jr (hm b _ q fun z=>z),q]; simp⟩⟩
 by_cases hbe : b = e
 ·subst hbe; exact heo
 ·exact ⟨u,k b u hbe q⟩
end
noncomputable def trk (h : Heap) (H : Hp) : List Addr:=(List.range h.objs.size).filter fun a=>(H a).isSome
noncomputable def hidT (h : Heap) (H : Hp) : Heap:=PySem.W.hideAll h (trk h H)
theorem J8E (h : Heap) (H : Hp) : (hidT h H).objs.size = h.objs.size:=PySem.W.hideAll_size _ _
theorem J9i {h : Heap} {H : Hp} {b : Addr} {o : Obj} (e : h.get? b = some o) (n : H b = none) : (hidT h H).get? b = some o :=
 PySem.W.hideAll_get _ e fun hm=>by
  have q : (H b).isSome = true:=(List.mem_filter.mp hm).2
  rw [n] at q; simp at q
theorem JaH {h : Heap} {H : Hp} {b : Addr} {o : Obj} (e : (hidT h H).get? b = some o) : h.get? b = some o ∧ H b = none:=by
 have e' : h.get? b = some o:=PySem.W.of_hideAll (trk h H) e
 refine ⟨e',?_⟩
 cases q : H b with
 | none=>rfl
 | some x =>
  have hm : b ∈ trk h H:=List.mem_filter.mpr ⟨List.mem_range.mpr (Heap.lt_size e'),by simp [q]⟩
  have z : (hidT h H).get? b = none:=PySem.W.hideAll_none (trk h H) hm
  rw [z] at e; cases e
end L2
namespace L2
open PySem PySem.Spec PyProof.Rows
structure Mod (K : PySem.W.Frag) (mg : Str → Option Value) (base : Heap) : Prop where
 kin : K.In base
 glob : base.Ns mainGlobals mg
 blt : ∃ mb,base.Ns builtinsNs mb ∧ ∀ x : Str,x ≠ "__name__" → mb x = bootBuiltins x
 nolimit : base.NoLimit
structure Cx where
 prog : Program
 w : World
 K : PySem.W.Frag
 mg : Str → Option Value
 base : Heap
 A : Around
 N : List Str
 s₀ : Shared
 H₀ : Hp
 env : Env
 outer : List Env
 stack : List Env
 ex : List Addr
 fn : Str → Bool
 calm : Bool
 pn : List (Addr × Obj)
 xe : Value → Shared → Prop
noncomputable def frs (l : List Env) : List Addr:=l.filterMap (·.frame)
noncomputable abbrev Cx.fs (X : Cx) : List Addr:=frs X.outer
noncomputable def Vis (sc : Scope) (x : Str) : Prop:=sc.names.lookup x = some .local ∨ sc.names.lookup x = some .cell ∨ sc.names.lookup x = some .free
noncomputable def Loc (sc : Scope) (x : Str) : Prop:=sc.names.lookup x = some .local ∨ sc.names.lookup x = some .cell
noncomputable def Look (env : Env) (h : Heap) (m : Str → Option Value) (x : Str) (u : Value) : Prop :=
 (env.kindOf x = some .local ∧ m x = some u) ∨ ((env.kindOf x = some .cell ∨ env.kindOf x = some .free) ∧ ∃ c,env.cells.lookup x = some c ∧ h.IsCell c (some u))
structure Cx.Ok (X : Cx) : Prop where
 mod : Mod X.K X.mg X.base
 kind : X.env.scope.kind = .function
 glob : X.env.globals = mainGlobals
 blt : X.env.builtins = builtinsNs
 above : X.s₀.heap.objs.size ≤ X.env.locals
 inj : ∀ x y c,X.env.cells.lookup x = some c → X.env.cells.lookup y = some c → x = y
 has : ∀ x,(X.env.kindOf x = some .cell ∨ X.env.kindOf x = some .free) → ∃ c,X.env.cells.lookup x = some c
 cab : ∀ x c,X.fn x = true → X.env.cells.lookup x = some c → X.s₀.heap.objs.size ≤ c
 hd : X.calm = true → X.A.handled = none
 frames : X.A.frames = some X.stack
 stk : X.stack = X.outer ∨ (X.stack = X.env :: X.outer ∧ X.env.frame = some X.env.locals)
 exf : ∀ b ∈ X.ex,b ≠ X.env.locals ∧ ∀ x c,X.env.cells.lookup x = some c → c ≠ b
 bs : ∀ b o,X.base.get? b = some o → X.s₀.heap.get? b = some o ∧ X.H₀ b = none
 bsz : X.base.objs.size ≤ X.s₀.heap.objs.size
 noex : ∀ b o,X.base.get? b = some o → b ∉ X.ex
 exfs : ∀ b ∈ X.ex,b ∉ X.fs
 funs : X.s₀.heap.FunFrames X.base X.outer
 frf : ∀ b ∈ X.fs,X.H₀ b = none
structure Inv (X : Cx) (pins : List (Addr × Obj)) (σ : List (Option V)) (H : Hp) (s : Shared) : Prop where
 ok : X.Ok
 os : s.os = X.s₀.os
 bare : AllBare s.gens
 base : Un X.fs X.ex X.H₀ H X.s₀.heap s.heap
 loc : ∃ m,s.heap.Ns X.env.locals m ∧ ∀ (i : Nat) (x : Str) (v : V),X.N[i]? = some x → σ[i]? = some (some v) → Vis X.env.scope x → ∃ u,RelV v u ∧ Look X.env s.heap m x u
 cell : ∀ x c,X.env.cells.lookup x = some c → ∃ v,s.heap.IsCell c v
 free : H X.env.locals = none
 freeC : ∀ x c,X.env.cells.lookup x = some c → H c = none
 pin : ∀ p ∈ X.pn ++ pins,s.heap.get? p.1 = some p.2 ∧ H p.1 = none ∧ p.1 ≠ X.env.locals ∧ p.1 ∉ X.fs ∧ ∀ v,p.2.data ≠ .cell v
 hok : HOk X.prog X.w H s.heap
 len : σ.length = X.N.length
section
variable {X : Cx} {pins : List (Addr × Obj)} {σ : List (Option V)} {H H' : Hp} {s : Shared} {h' : Heap}
theorem Cx.Ok.nofr (ok : X.Ok) {b : Addr} {o : Obj} (e : X.base.get? b = some o) : b ∉ X.fs:=fun hb=>by
 have:=(ok.funs.mem hb).1
 rw [e] at this; cases this
theorem Inv.bs (I : Inv X pins σ H s) : ∀ b o,X.base.get? b = some o → s.heap.get? b = some o ∧ H b = none:=fun b o e =>
 ⟨I.base.keep b o (I.ok.bs b o e).1 (I.ok.bs b o e).2 (I.ok.nofr e) (I.ok.noex b o e),I.base.free b o (I.ok.bs b o e).1 (I.ok.bs b o e).2 (I.ok.noex b o e)⟩
theorem Inv.bk (I : Inv X pins σ H s) : ∀ b o,X.base.get? b = some o → s.heap.get? b = some o:=fun b o e=>(I.bs b o e).1
theorem Inv.mod (I : Inv X pins σ H s) : Mod X.K X.mg X.base:=I.ok.mod
theorem Inv.kIn (I : Inv X pins σ H s) : X.K.In s.heap:=I.ok.mod.kin.keeps I.bk
theorem Inv.lt (I : Inv X pins σ H s) : X.env.locals < s.heap.objs.size:=let ⟨_,hn,_⟩:=I.loc; hn.lt
theorem Inv.sz (I : Inv X pins σ H s) : X.s₀.heap.objs.size ≤ s.heap.objs.size:=Nat.le_trans I.ok.above (Nat.le_of_lt I.lt)
theorem Inv.nofs (I : Inv X pins σ H s) {a : Addr} (h : s.heap.objs.size ≤ a) : a ∉ X.fs:=fun hb=>by
 obtain ⟨_,o,ho,_⟩:=I.ok.funs.mem hb
 exact absurd (Nat.lt_of_lt_of_le (Heap.lt_size ho) (Nat.le_trans I.sz h)) (Nat.lt_irrefl _)
theorem Inv.cne (I : Inv X pins σ H s) : ∀ x c,X.env.cells.lookup x = some c → c ≠ X.env.locals:=fun x c e z=>by
 obtain ⟨v,o,ho,hd⟩:=I.cell x c e
 obtain ⟨m,⟨o',es,ep,ho',hd',_⟩,_⟩:=I.loc
 rw [z,ho'] at ho; cases ho; rw [hd'] at hd; cases hd
theorem Inv.funs (I : Inv X pins σ H s) : s.heap.FunFrames X.base X.outer:=by
 have all : ∀ (l : List Env),(∀ b ∈ frs l,b ∈ X.fs) → X.s₀.heap.FunFrames X.base l → s.heap.FunFrames X.base l:=by
  intro l
  induction l with
  | nil=>intro _ _; trivial
  | cons env r ih =>
   intro hs hl
   obtain ⟨hk,⟨L,o,hf,hn,ho,hd⟩,hr⟩:=hl
   have hL : L ∈ X.fs:=hs L (by unfold frs; rw [List.filterMap_cons,hf]; exact List.mem_cons_self)
   obtain ⟨sl,e⟩:=I.base.slot L o ho (I.ok.frf L hL) hL fun z=>I.ok.exfs L z hL
   exact ⟨hk,⟨L,_,hf,hn,e,hd⟩,ih (fun b hb=>hs b (by unfold frs; rw [List.filterMap_cons,hf]; exact List.mem_cons_of_mem _ hb)) hr⟩
 exact all X.outer (fun _ hb=>hb) I.ok.funs
theorem Inv.stack (I : Inv X pins σ H s) : s.heap.FunFrames X.base X.stack:=by
 rcases I.ok.stk with e | ⟨e,hf⟩
 ·rw [e]; exact I.funs
 ·rw [e]
  obtain ⟨m,hn,_⟩:=I.loc
  refine .cons (by rw [I.ok.kind]; decide) hf hn ?_ I.funs
  exact Heap.get?_none_of_le (Nat.le_trans I.ok.bsz I.ok.above)
theorem Inv.stkSub (I : Inv X pins σ H s) : ∀ b ∈ frs X.stack,b ∈ X.env.locals :: X.fs:=fun b hb=>by
 rcases I.ok.stk with e | ⟨e,hf⟩
 ·rw [e] at hb; exact List.mem_cons_of_mem _ hb
 ·rw [e] at hb
  unfold frs at hb
  rw [List.filterMap_cons,hf] at hb
  exact hb
theorem Inv.stkFree (I : Inv X pins σ H s) : ∀ b ∈ frs X.stack,H b = none:=fun b hb=>by
 rcases List.mem_cons.mp (I.stkSub b hb) with e | hb
 ·rw [e]; exact I.free
 ·obtain ⟨_,o,ho,_⟩:=I.ok.funs.mem hb
  exact I.base.free b o ho (I.ok.frf b hb) fun z=>I.ok.exfs b z hb
theorem Inv.step {g' : Array GenState} {t' : Nat} {d' : Drawn} {ch : List Addr} (I : Inv X pins σ H s)
  (hch : ∀ b ∈ ch,(b ∈ X.ex ∨ X.s₀.heap.objs.size ≤ b) ∧ b ≠ X.env.locals ∧ (∀ x c,X.env.cells.lookup x = some c → c ≠ b) ∧ ∀ p ∈ X.pn ++ pins,p.1 ≠ b)
  (keep : ∀ b o,b ≠ X.env.locals → b ∉ X.fs → b ∉ ch → s.heap.get? b = some o → H b = none → h'.get? b = some o)
  (slot : ∀ b o,b ≠ X.env.locals → b ∈ X.fs → b ∉ ch → s.heap.get? b = some o → H b = none → ∃ sl,h'.get? b = some { o with slots:=sl }) (free : ∀ b o,b ∉ ch → s.heap.get? b = some o → H b = none → H' b = none)
  (there : ∀ b o,b ∉ ch → s.heap.get? b = some o → ∃ o',h'.get? b = some o')
  (tups : ∀ b xs,H b = some (.tup xs) → H' b = some (.tup xs)) (frzs : ∀ b o u,H b = some (.frz o u) → H' b = some (.frz o u)) (tbls : ∀ b ps,H b = some (.tbl ps) → ∃ more,H' b = some (.tbl (ps ++ more)))
  (ns : ∀ m,s.heap.Ns X.env.locals m → h'.Ns X.env.locals m) (hok : HOk X.prog X.w H' h') (hg : AllBare g') :
  Inv X pins σ H' { s with heap:=h',gens:=g',drawn:=d',toks:=t' }:=by
 have neL : ∀ b o,X.s₀.heap.get? b = some o → b ≠ X.env.locals:=fun b o e=>Nat.ne_of_lt (Nat.lt_of_lt_of_le (Heap.lt_size e) I.ok.above)
 have neC : ∀ b o,X.s₀.heap.get? b = some o → b ∉ X.ex → b ∉ ch:=fun b o e hx hb=>by
  rcases (hch b hb).1 with z | z
  ·exact hx z
  ·exact absurd (Nat.lt_of_lt_of_le (Heap.lt_size e) z) (Nat.lt_irrefl _)
 have cellK : ∀ x c,X.env.cells.lookup x = some c → ∀ v,s.heap.IsCell c v → h'.IsCell c v:=fun x c e v ⟨o,ho,hd⟩=>by
  have nch : c ∉ ch:=fun z=>(hch c z).2.2.1 x c e rfl
  by_cases hc : c ∈ X.fs
  ·obtain ⟨sl,q⟩:=slot c o (I.cne x c e) hc nch ho (I.freeC x c e)
   exact ⟨_,q,hd⟩
  ·exact ⟨o,keep c o (I.cne x c e) hc nch ho (I.freeC x c e),hd⟩
 refine ⟨I.ok,I.os,hg,⟨fun b o e n hb hx=>?_,fun b o e n hb hx=>?_,fun b o e n hx=>?_,fun b o e hx=>?_,fun b xs e=>tups b xs (I.base.tups b xs e),fun b o xs e=>frzs b o xs (I.base.frzs b o xs e),fun b ps e=>?_⟩,?_,fun x c e=>?_,?_,fun x c e=>?_,fun p hp=>?_,hok,I.len⟩
 ·exact keep b o (neL b o e) hb (neC b o e hx) (I.base.keep b o e n hb hx) (I.base.free b o e n hx)
 ·obtain ⟨sl,e1⟩:=I.base.slot b o e n hb hx
  obtain ⟨sl',e2⟩:=slot b _ (neL b o e) hb (neC b o e hx) e1 (I.base.free b o e n hx)
  exact ⟨sl',e2⟩
 ·obtain ⟨o',e1⟩:=I.base.there b o e hx
  exact free b o' (neC b o e hx) e1 (I.base.free b o e n hx)
 ·obtain ⟨o',e1⟩:=I.base.there b o e hx
  exact there b o' (neC b o e hx) e1
 ·obtain ⟨m1,e1⟩:=I.base.tbls b ps e
  obtain ⟨m2,e2⟩:=tbls b _ e1
  exact ⟨m1 ++ m2,by rw [e2,Array.append_assoc]⟩
 ·obtain ⟨m,hn,hl⟩:=I.loc
  refine ⟨m,ns m hn,fun i x v e1 e2 e3=>?_⟩
  obtain ⟨u,r,l⟩:=hl i x v e1 e2 e3
  refine ⟨u,r,?_⟩
  rcases l with l | ⟨k,c,e,z⟩
  ·exact .inl l
  ·exact .inr ⟨k,c,e,cellK x c e _ z⟩
 ·obtain ⟨v,z⟩:=I.cell x c e
  exact ⟨v,cellK x c e v z⟩
 ·obtain ⟨m,⟨o,_,_,ho,_⟩,_⟩:=I.loc
  exact free _ o (fun z=>(hch _ z).2.1 rfl) ho I.free
 ·obtain ⟨v,o,ho,hd⟩:=I.cell x c e
  exact free c o (fun z=>(hch c z).2.2.1 x c e rfl) ho (I.freeC x c e)
 ·obtain ⟨e,n,ne,nf,d⟩:=I.pin p hp
  have nch : p.1 ∉ ch:=fun z=>(hch p.1 z).2.2.2 p hp rfl
  exact ⟨keep p.1 p.2 ne nf nch e n,free p.1 p.2 nch e n,ne,nf,d⟩
theorem Inv.un {t' : Nat} (I : Inv X pins σ H s) (u : Un X.fs [] H H' s.heap h') (hok : HOk X.prog X.w H' h') : Inv X pins σ H' { s with heap:=h',toks:=t' }:=by
 obtain ⟨m,⟨o,es,ep,ho,r⟩,_⟩:=id I.loc
 obtain ⟨sl,hL⟩:=u.any ho I.free (by simp)
 exact I.step (g':=s.gens) (d':=s.drawn) (ch:=[]) (fun _ z=>nomatch z) (fun b o _ hb _ e n=>u.keep b o e n hb (by simp)) (fun b o _ hb _ e n=>u.slot b o e n hb (by simp)) (fun b o _ e n=>u.free b o e n (by simp)) (fun b o _ e=>u.there b o e (by simp)) u.tups u.frzs u.tbls (fun m' hm=>by
  obtain ⟨o',es',ep',ho',r'⟩:=hm
  rw [ho] at ho'; cases ho'
  exact ⟨_,es',ep',hL,r'⟩) hok I.bare
theorem Inv.call {g' : Array GenState} {t' : Nat} {d' : Drawn} {ch : List Addr} (I : Inv X pins σ H s) (u : Un (frs X.stack) ch H H' s.heap h') (hok : HOk X.prog X.w H' h') (hg : AllBare g')
  (hch : ∀ b ∈ ch,(b ∈ X.ex ∨ X.s₀.heap.objs.size ≤ b) ∧ b ≠ X.env.locals ∧ (∀ x c,X.env.cells.lookup x = some c → c ≠ b) ∧ ∀ p ∈ X.pn ++ pins,p.1 ≠ b) :
  Inv X pins σ H' { s with heap:=h',gens:=g',drawn:=d',toks:=t' }:=by
 obtain ⟨m,⟨o,es,ep,ho,r⟩,_⟩:=id I.loc
 obtain ⟨sl,hL⟩:=u.any ho I.free fun z=>(hch _ z).2.1 rfl
 exact I.step (ch:=ch) hch (fun b o hL hb hc e n=>u.keep b o e n (fun z=>(List.mem_cons.mp (I.stkSub b z)).elim hL hb) hc) (fun b o _ _ hc e n=>u.any e n hc) (fun b o hc e n=>u.free b o e n hc) (fun b o hc e=>u.there b o e hc) u.tups u.frzs u.tbls (fun m' hm=>by
  obtain ⟨o',es',ep',ho',r'⟩:=hm
  rw [ho] at ho'; cases ho'
  exact ⟨_,es',ep',hL,r'⟩) hok hg
theorem Inv.turned {t' : Nat} {it : Addr} (I : Inv X pins σ H s) (k : ∀ b o,b ≠ it → s.heap.get? b = some o → h'.get? b = some o) (hn : H it = none) (hL : it ≠ X.env.locals)
  (h1 : it ∈ X.ex ∨ X.s₀.heap.objs.size ≤ it) (h2 : ∀ x c,X.env.cells.lookup x = some c → c ≠ it) (h3 : ∀ p ∈ X.pn ++ pins,p.1 ≠ it) : Inv X pins σ H { s with heap:=h',toks:=t' }:=by
 have nit : ∀ b u,H b = some u → b ≠ it:=fun b u e z=>by rw [z,hn] at e; cases e
 refine I.step (g':=s.gens) (d':=s.drawn) (ch:=[it]) (fun b hb=>?_) (fun b o _ _ hc e _=>k b o (fun z=>hc (by simp [z])) e) (fun b o _ _ hc e _=>⟨o.slots,k b o (fun z=>hc (by simp [z])) e⟩) (fun _ _ _ _ n=>n)
  (fun b o hc e=>⟨o,k b o (fun z=>hc (by simp [z])) e⟩) (fun _ _ e=>e) (fun _ _ _ e=>e) (fun b ps e=>⟨#[],by rw [e]; simp⟩) (fun m hm=>?_) (fun b u e=>?_) I.bare
 ·have e : b = it:=by simpa using hb
  subst e
  exact ⟨h1,hL,h2,h3⟩
 ·obtain ⟨o,es,ep,ho,r⟩:=hm
  exact ⟨o,es,ep,k _ o (Ne.symm hL) ho,r⟩
 ·refine (I.hok b u e).stay (fun c v hc q=>k c v ?_ q) (fun _ q=>q) fun _ _ q=>q
  rcases hc with z | z
  ·rw [z]; exact nit b u e
  ·exact nit c _ z
theorem Inv.tok (I : Inv X pins σ H s) (t : Nat) : Inv X pins σ H { s with toks:=t }:=I.un (h':=s.heap) (t':=t) Un.refl I.hok
theorem Inv.kept {t' : Nat} (I : Inv X pins σ H s) (k : ∀ b u,s.heap.get? b = some u → h'.get? b = some u) : Inv X pins σ H { s with heap:=h',toks:=t' }:=I.un (Un.kept k) (I.hok.kept k)
theorem Inv.laid {a : Addr} {o : HO} {t' : Nat} (I : Inv X pins σ H s) (k : ∀ b u,s.heap.get? b = some u → h'.get? b = some u) (hp : s.heap.objs.size ≤ a) (new : J0H X.prog X.w (upd H a o) h' a o) :
  Inv X pins σ (upd H a o) { s with heap:=h',toks:=t' }:=I.un (Un.laid k hp (I.hok.fresh hp)) (I.hok.laid k hp new)
theorem Inv.write {x e : Addr} {o : HO} {t' : Nat} (I : Inv X pins σ H s) (mu : Mut (H x)) (he : e = x ∨ H e = some (.own x)) (k : ∀ b u,b ≠ e → s.heap.get? b = some u → h'.get? b = some u) (heo : ∃ u,h'.get? e = some u)
  (new : J0H X.prog X.w (upd H x o) h' x o) : Inv X pins σ (upd H x o) { s with heap:=h',toks:=t' }:=I.un (Un.write mu he k heo) (I.hok.write mu he k heo new)
theorem Inv.pins_of {pins' : List (Addr × Obj)} (I : Inv X pins σ H s) (h : ∀ p ∈ pins',s.heap.get? p.1 = some p.2 ∧ H p.1 = none ∧ p.1 ≠ X.env.locals ∧ p.1 ∉ X.fs ∧ ∀ v,p.2.data ≠ .cell v) : Inv X pins' σ H s :=
 ⟨I.ok,I.os,I.bare,I.base,I.loc,I.cell,I.free,I.freeC,fun p hp=>(List.mem_append.mp hp).elim (fun z=>I.pin p (List.mem_append_left _ z)) (h p),I.hok,I.len⟩
theorem J74 {N : List Str} (hN : N.Nodup) {i j : Nat} {x : Str} (a : N[i]? = some x) (b : N[j]? = some x) : i = j:=by
 obtain ⟨h1,e1⟩:=List.getElem?_eq_some_iff.mp a
 obtain ⟨h2,e2⟩:=List.getElem?_eq_some_iff.mp b
 exact (List.getElem_inj hN).mp (e1.trans e2.symm)
theorem J97 {M : Model} {A : Around} {E : Value → Shared → Prop} {i : Nat} {x : Str} {v : V} {u : Value} {Q : Unit → Shared → Prop} (I : Inv X pins σ H s) (hN : X.N.Nodup) (hi : X.N[i]? = some x) (hx : Loc X.env.scope x) (r : RelV v u)
  (h : ∀ s',Inv X pins (σ.set i (some v)) H s' → (∃ a,Heap.SameBut a s.heap s'.heap ∧ (a = X.env.locals ∨ X.env.cells.lookup x = some a)) → Q () s') (hf : X.fn x = true ∨ X.env.scope.names.lookup x = some .local:=by first | exact .inl rfl | exact .inr rfl | assumption) : wpAny M A (storeName X.env x u) Q E s:=by
 obtain ⟨m,hn,hl⟩:=id I.loc
 have hcls : (X.env.scope.kind == .class || (X.env.scope.kind == .module && X.env.locals != X.env.globals)) = false:=by rw [I.ok.kind]; rfl
 have hiσ : i < σ.length:=by rw [I.len]; exact (List.getElem?_eq_some_iff.mp hi).1
 have cne:=I.cne
 have tracked : ∀ {a : Addr} {h' : Heap},(∃ o,s.heap.get? a = some o ∧ H a = none) → Heap.SameBut a s.heap h' → HOk X.prog X.w H h':=fun {a h'} ha hs b ob e=>by
  obtain ⟨_,_,hfree⟩:=ha
  refine (I.hok b ob e).stay (fun c w' hc q=>(hs.2 c ?_).trans q) (fun _ q=>q) fun _ _ q=>q
  rintro rfl
  rcases hc with rfl | hc
  ·rw [hfree] at e; cases e
  ·rw [hfree] at hc; cases hc
 rcases hx with hk | hk
 ·refine wpAny_storeName_local hk hn (fun h' hn' hs=>?_) hcls
  obtain ⟨oL,_,_,hoL,_⟩:=id hn
  refine h _ ⟨I.ok,I.os,I.bare,⟨fun b o e n hb hx=>?_,fun b o e n hb hx=>?_,I.base.free,fun b o e hx=>?_,I.base.tups,I.base.frzs,I.base.tbls⟩,⟨_,hn',fun j y v' e1 e2 e3=>?_⟩,fun y c e=>?_,I.free,I.freeC,fun p hp=>?_,tracked ⟨oL,hoL,I.free⟩ hs,by simpa using I.len⟩ ⟨_,hs,.inl rfl⟩
  ·exact (hs.2 b (Nat.ne_of_lt (Nat.lt_of_lt_of_le (Heap.lt_size e) I.ok.above))).trans (I.base.keep b o e n hb hx)
  ·obtain ⟨sl,e1⟩:=I.base.slot b o e n hb hx
   exact ⟨sl,(hs.2 b (Nat.ne_of_lt (Nat.lt_of_lt_of_le (Heap.lt_size e) I.ok.above))).trans e1⟩
  ·obtain ⟨o',e1⟩:=I.base.there b o e hx
   exact ⟨o',(hs.2 b (Nat.ne_of_lt (Nat.lt_of_lt_of_le (Heap.lt_size e) I.ok.above))).trans e1⟩
  ·by_cases hj : j = i
   ·subst hj
    rw [hi] at e1; cases e1
    rw [List.getElem?_set_self hiσ] at e2
    cases e2
    exact ⟨u,r,.inl ⟨hk,by simp⟩⟩
   ·rw [List.getElem?_set_ne (Ne.symm hj)] at e2
    obtain ⟨u',r',q⟩:=hl j y v' e1 e2 e3
    refine ⟨u',r',?_⟩
    rcases q with ⟨k,e⟩ | ⟨k,c,e,z⟩
    ·refine .inl ⟨k,?_⟩
     have : y ≠ x:=fun e=>hj (J74 hN e1 (e ▸ hi))
     simp [this,e]
    ·exact .inr ⟨k,c,e,z.sameBut hs (cne y c e)⟩
  ·obtain ⟨w',z⟩:=I.cell y c e
   exact ⟨w',z.sameBut hs (cne y c e)⟩
  ·obtain ⟨e,n,ne,nf,d⟩:=I.pin p hp
   exact ⟨(hs.2 p.1 ne).trans e,n,ne,nf,d⟩
 ·have hfn : X.fn x = true:=by
   rcases hf with z | z
   ·exact z
   ·rw [z] at hk; cases hk
  obtain ⟨c,hc⟩:=I.ok.has x (.inl hk)
  obtain ⟨w',z⟩:=I.cell x c hc
  refine wpAny_storeName_cell I.ok.kind hk hc z (fun h' hc' hs=>?_)
  obtain ⟨oc,hoc,hocd⟩:=id z
  refine h { s with heap:=h' } ⟨I.ok,I.os,I.bare,⟨fun b o e n hb hx=>?_,fun b o e n hb hx=>?_,I.base.free,fun b o e hx=>?_,I.base.tups,I.base.frzs,I.base.tbls⟩,⟨m,hn.sameBut hs (Ne.symm (cne x c hc)),fun j y v' e1 e2 e3=>?_⟩,fun y c' e=>?_,I.free,I.freeC,fun p hp=>?_,tracked ⟨oc,hoc,I.freeC x c hc⟩ hs,by simpa using I.len⟩ ⟨c,hs,.inr hc⟩
  ·exact (hs.2 b (Nat.ne_of_lt (Nat.lt_of_lt_of_le (Heap.lt_size e) (I.ok.cab x c hfn hc)))).trans (I.base.keep b o e n hb hx)
  ·obtain ⟨sl,e1⟩:=I.base.slot b o e n hb hx
   exact ⟨sl,(hs.2 b (Nat.ne_of_lt (Nat.lt_of_lt_of_le (Heap.lt_size e) (I.ok.cab x c hfn hc)))).trans e1⟩
  ·obtain ⟨o',e1⟩:=I.base.there b o e hx
   exact ⟨o',(hs.2 b (Nat.ne_of_lt (Nat.lt_of_lt_of_le (Heap.lt_size e) (I.ok.cab x c hfn hc)))).trans e1⟩
  ·by_cases hj : j = i
   ·subst hj
    rw [hi] at e1; cases e1
    rw [List.getElem?_set_self hiσ] at e2
    cases e2
    exact ⟨u,r,.inr ⟨.inl hk,c,hc,hc'⟩⟩
   ·rw [List.getElem?_set_ne (Ne.symm hj)] at e2
    obtain ⟨u',r',q⟩:=hl j y v' e1 e2 e3
    refine ⟨u',r',?_⟩
    rcases q with q | ⟨k,c',e,z'⟩
    ·exact .inl q
    ·refine .inr ⟨k,c',e,z'.sameBut hs ?_⟩
     rintro rfl
     exact hj (J74 hN e1 (I.ok.inj _ _ _ e hc ▸ hi))
  ·by_cases hcc : c' = c
   ·subst hcc; exact ⟨_,hc'⟩
   ·obtain ⟨w2,z2⟩:=I.cell y c' e
    exact ⟨w2,z2.sameBut hs hcc⟩
  ·obtain ⟨e,n,ne,nf,d⟩:=I.pin p hp
   refine ⟨(hs.2 p.1 ?_).trans e,n,ne,nf,d⟩
   intro q
   rw [q,hoc] at e
   have q' : oc = p.2:=Option.some.inj e
   exact d w' (by rw [← q']; exact hocd)
theorem J4f {M : Model} {A : Around} {E : Value → Shared → Prop} {i : Nat} {x : Str} {v : V} {u : Value} {Q : Unit → Shared → Prop} (I : Inv X pins σ H s) (hN : X.N.Nodup) (hi : X.N[i]? = some x) (hx : Loc X.env.scope x) (r : RelV v u)
  (h : ∀ s',Inv X pins (σ.set i (some v)) H s' → Q () s') (hf : X.fn x = true ∨ X.env.scope.names.lookup x = some .local:=by first | exact .inl rfl | exact .inr rfl | assumption) : wpAny M A (storeName X.env x u) Q E s :=
 J97 I hN hi hx r (fun s' I' _=>h s' I') hf
theorem Inv.call' {s' : Shared} {ch : List Addr} (I : Inv X pins σ H s) (ho : s'.os = s.os) (u : Un (frs X.stack) ch H H' s.heap s'.heap) (hok : HOk X.prog X.w H' s'.heap) (hg : AllBare s'.gens)
  (hch : ∀ b ∈ ch,(b ∈ X.ex ∨ X.s₀.heap.objs.size ≤ b) ∧ b ≠ X.env.locals ∧ (∀ x c,X.env.cells.lookup x = some c → c ≠ b) ∧ ∀ p ∈ X.pn ++ pins,p.1 ≠ b) : Inv X pins σ H' s':=by
 obtain ⟨h',g',d',t',o'⟩:=s'
 have e : o' = s.os:=ho
 subst e
 exact I.call (g':=g') (t':=t') (d':=d') u hok hg hch
end
noncomputable abbrev XK:=Value → Option Addr → Hp → Prop
noncomputable abbrev St:=List (Option V)
noncomputable abbrev VK:=V → Hp → Prop
noncomputable abbrev TE:=St → Hp → VK → Prop
noncomputable abbrev TT:=St → Hp → (Bool → Hp → Prop) → Prop
noncomputable abbrev TA:=St → Hp → (List V → Hp → Prop) → Prop
structure Ends where
 nx : St → Hp → Prop
 rt : VK
 bk : St → Hp → Prop:=fun _ _=>False
 ct : St → Hp → Prop:=fun _ _=>False
noncomputable abbrev TS:=Ends → St → Hp → Prop
noncomputable def EP (X : Cx) (pins : List (Addr × Obj)) (σ : St) (Q : VK) (u : Value) (s' : Shared) : Prop:=∃ v H',Inv X pins σ H' s' ∧ RelV v u ∧ Q v H'
noncomputable def TP (X : Cx) (pins : List (Addr × Obj)) (σ : St) (Q : Bool → Hp → Prop) (b : Bool) (s' : Shared) : Prop:=∃ H',Inv X pins σ H' s' ∧ Q b H'
noncomputable def AP (X : Cx) (pins : List (Addr × Obj)) (σ : St) (Q : List V → Hp → Prop) (us : List Value) (s' : Shared) : Prop:=∃ vs H',Inv X pins σ H' s' ∧ Vals vs us ∧ Q vs H'
noncomputable def SP (X : Cx) (pins : List (Addr × Obj)) (D : Ends) (f : Flow) (s' : Shared) : Prop :=
 match f with
 | .next=>∃ σ' H',Inv X pins σ' H' s' ∧ D.nx σ' H'
 | .brk=>∃ σ' H',Inv X pins σ' H' s' ∧ D.bk σ' H'
 | .cont=>∃ σ' H',Inv X pins σ' H' s' ∧ D.ct σ' H'
 | .ret u=>∃ v σ' H',Inv X pins σ' H' s' ∧ RelV v u ∧ D.rt v H'
noncomputable def PE (X : Cx) (e : Expr) (t : TE) : Prop :=
 ∀ (pins : List (Addr × Obj)) (s : Shared) (σ : St) (H : Hp) (Q : VK),Inv X pins σ H s → t σ H Q → wpAny (model X.prog X.w) X.A (eval e X.env) (EP X pins σ Q) X.xe s
noncomputable def PT (X : Cx) (e : Expr) (t : TT) : Prop :=
 ∀ (pins : List (Addr × Obj)) (s : Shared) (σ : St) (H : Hp) (Q : Bool → Hp → Prop),Inv X pins σ H s → t σ H Q → wpAny (model X.prog X.w) X.A (isTrue e X.env (eval e X.env)) (TP X pins σ Q) X.xe s
noncomputable def PW (X : Cx) (e : Expr) (t : TT) : Prop :=
 ∀ (whole : Sem Value) (pins : List (Addr × Obj)) (s : Shared) (σ : St) (H : Hp) (Q : Bool → Hp → Prop),Inv X pins σ H s → t σ H Q → wpAny (model X.prog X.w) X.A (isTrue e X.env whole) (TP X pins σ Q) X.xe s
theorem PW.pt {X : Cx} {e : Expr} {t : TT} (h : PW X e t) : PT X e t:=h _
noncomputable def PA (X : Cx) (es : List Expr) (t : TA) : Prop :=
 ∀ (pos : Pos) (pins : List (Addr × Obj)) (s : Shared) (σ : St) (H : Hp) (Q : List V → Hp → Prop),Inv X pins σ H s → t σ H Q → wpAny (model X.prog X.w) X.A (spliced (backTo pos (starEach es X.env))) (AP X pins σ Q) X.xe s
noncomputable def PS (X : Cx) (st : Stmt) (t : TS) : Prop :=
 ∀ (pins : List (Addr × Obj)) (s : Shared) (σ : St) (H : Hp) (D : Ends),Inv X pins σ H s → t D σ H → wpAny (model X.prog X.w) X.A (exec st X.env) (SP X pins D) X.xe s
noncomputable def PSs (X : Cx) (st : List Stmt) (t : TS) : Prop :=
 ∀ (pins : List (Addr × Obj)) (s : Shared) (σ : St) (H : Hp) (D : Ends),Inv X pins σ H s → t D σ H → wpAny (model X.prog X.w) X.A (execs st X.env) (SP X pins D) X.xe s
theorem thn {α : Type} {t : Sem α} {Q Q' : α → Shared → Prop} {M : Model} {A : Around} {E : Value → Shared → Prop} {s : Shared} (h : wpAny M A t Q E s) (hQ : ∀ a s,Q a s → Q' a s) : wpAny M A t Q' E s:=wpAny_mono h hQ fun _ _ x=>x
end L2
namespace L2
open PySem PySem.Spec PyProof.Rows
section
variable {X : Cx}
noncomputable def tVar (i : Nat) : TE:=fun σ H Q=>∃ v,σ[i]? = some (some v) ∧ Q v H
noncomputable def tC (v : V) : TE:=fun _ H Q=>Q v H
theorem Jbo {i : Nat} {x : Str} {pos : Pos} (hN : X.N[i]? = some x) (hv : Vis X.env.scope x) (hd : (x == ("__debug__" : Str)) = false:=by decide) (hcd : (x == ("__classdict__" : Str)) = false:=by decide) : PE X (.Name x pos) (tVar i):=by
 intro pins s σ H Q I h
 obtain ⟨v,e,h⟩:=h
 obtain ⟨m,hn,hl⟩:=I.loc
 obtain ⟨u,r,l⟩:=hl i x v hN e hv
 have fin : EP X pins σ Q u s:=⟨v,H,I,r,h⟩
 rcases l with ⟨hk,hm⟩ | ⟨hk,c,hc,hcell⟩
 ·exact wpAny_Name (wpAny_loadName_local I.ok.kind hk hn hm fin) hd
 ·rcases hk with hk | hk
  ·exact wpAny_Name (wpAny_loadName_cell I.ok.kind hk hc hcell fin) hd
  ·exact wpAny_Name (wpAny_loadName_free I.ok.kind hk hc hcell fin hcd) hd
theorem J7 {i j pos} : PE X (.Constant (.int i) j pos) (tC (.int i)):=fun _ _ _ H _ I h=>wpAny_Constant_int ⟨.int i,H,I.tok _,⟨_,rfl⟩,h⟩
theorem J1G {b j pos} : PE X (.Constant (.bool b) j pos) (tC (.bl b)):=fun _ _ _ H _ I h=>Constant_bool ⟨.bl b,H,I,rfl,h⟩
theorem JaZ {x j pos} : PE X (.Constant (.str x) j pos) (tC (.str x)):=fun _ _ _ H _ I h=>Calls.Constant_str ⟨.str x,H,I.tok _,⟨_,rfl⟩,h⟩
noncomputable def Gl (X : Cx) (x : Str) : Prop:=X.env.kindOf x = some .globalImplicit
theorem J5Q {E : Value → Shared → Prop} {pins : List (Addr × Obj)} {s : Shared} {σ : St} {H : Hp} {x : Str} {u : Value} {pos : Pos} {Q : Value → Shared → Prop} (I : Inv X pins σ H s) (hg : Gl X x) (hm : X.mg x = some u) (h : Q u s)
  (hd : (x == ("__debug__" : Str)) = false:=by decide) : wpAny (model X.prog X.w) X.A (eval (.Name x pos) X.env) Q E s :=
 Calls.Name_function_global I.ok.kind hg (Calls.loadGlobal_global (by rw [I.ok.glob]; exact I.mod.glob.keeps I.bk) hm h) hd
theorem J3f {E : Value → Shared → Prop} {pins : List (Addr × Obj)} {s : Shared} {σ : St} {H : Hp} {x : Str} {u : Value} {pos : Pos} {Q : Value → Shared → Prop} (I : Inv X pins σ H s) (hg : Gl X x) (hm : X.mg x = none) (hv : bootBuiltins x = some u) (h : Q u s)
  (hn : x ≠ "__name__":=by decide) (hd : (x == ("__debug__" : Str)) = false:=by decide) : wpAny (model X.prog X.w) X.A (eval (.Name x pos) X.env) Q E s:=by
 obtain ⟨mb,h1,h2⟩:=I.mod.blt
 exact Calls.Name_function_global I.ok.kind hg (Calls.loadGlobal_builtin (by rw [I.ok.glob]; exact I.mod.glob.keeps I.bk) hm (by rw [I.ok.blt]; exact h1.keeps I.bk) ((h2 x hn).trans hv) h) hd
theorem Jai {x : Str} {v : V} {u : Value} {pos : Pos} (hg : Gl X x) (hm : X.mg x = some u) (r : RelV v u) (hd : (x == ("__debug__" : Str)) = false:=by decide) : PE X (.Name x pos) (tC v) :=
 fun _ _ _ H _ I h=>J5Q I hg hm ⟨v,H,I,r,h⟩ hd
theorem Jau {x : Str} {v : V} {u : Value} {pos : Pos} (hg : Gl X x) (hm : X.mg x = none) (hv : bootBuiltins x = some u) (r : RelV v u) (hn : x ≠ "__name__":=by decide) (hd : (x == ("__debug__" : Str)) = false:=by decide) : PE X (.Name x pos) (tC v) :=
 fun _ _ _ H _ I h=>J3f I hg hm hv ⟨v,H,I,r,h⟩ hn hd
variable {a b : Expr} {ta tb : TE} {pos : Pos}
noncomputable def PC (X : Cx) (op : CmpOp) (a b : Expr) (t : TE) : Prop :=
 ∀ (pins : List (Addr × Obj)) (s : Shared) (σ : St) (H : Hp) (Q : VK),Inv X pins σ H s → t σ H Q →
  wpAny (model X.prog X.w) X.A (eval a X.env) (fun v s₁=>wpAny (model X.prog X.w) X.A (eval b X.env) (fun u s₂=>wpAny (model X.prog X.w) X.A (compareOp op v u) (EP X pins σ Q) X.xe s₂) X.xe s₁) X.xe s
noncomputable def tB (t : TE) : TT:=fun σ H Q=>t σ H fun x H1=>∃ c,x = .bl c ∧ Q c H1
theorem J81 {op : CmpOp} {t : TE} (h : PC X op a b t) (h1 : behindInMarks op b = false:=by first | exact nobehind _ (by decide) (by decide) | rfl) : PT X (.Compare a [op] [b] pos) (tB t):=by
 intro pins s σ H Q I hw
 refine wpAny_isTrue_Compare1 (thn (h pins s σ H _ I hw) fun v s1 h1=>thn h1 fun u s2 h2=>thn h2 fun c s3 ⟨x,H1,I1,r1,q1⟩=>?_) h1
 obtain ⟨d,rfl,q⟩:=q1
 cases r1
 exact wpAny_truthy_bool ⟨H1,I1,q⟩
theorem J27 {e : Expr} {t : TE} (h : PE X e t) (he : ∀ whole,isTrue e X.env whole = (do let v ← whole; standAt e.pos; holding [v] (truthy v)):=by intro _; rfl) : PT X e (tB t):=by
 intro pins s σ H Q I hw
 refine isTrue_plain (thn (h pins s σ H _ I hw) fun v s1 ⟨x,H1,I1,r1,q1⟩=>?_) (he _)
 obtain ⟨d,rfl,q⟩:=q1
 cases r1
 exact wpAny_truthy_bool ⟨H1,I1,q⟩
variable {tA tB' : TT} {rest : List Expr}
noncomputable def tAnd (t u : TT) : TT:=fun σ H Q=>t σ H fun c H1=>if c = true then u σ H1 Q else Q false H1
noncomputable def tOr (t u : TT) : TT:=fun σ H Q=>t σ H fun c H1=>if c = true then Q true H1 else u σ H1 Q
noncomputable def tNot (t : TT) : TT:=fun σ H Q=>t σ H fun c H1=>Q (!c) H1
theorem J5T (ha : PT X a tA) : PW X (.BoolOp .And [a] pos) tA:=by
 intro wh pins s σ H Q I h
 refine isTrue_and (thn (ha pins s σ H Q I h) fun c s1 e=>?_)
 cases c with
 | true=>exact isTrue_and_nil e
 | false=>exact e
theorem J62 (ha : PT X a tA) : PW X (.BoolOp .Or [a] pos) tA:=by
 intro wh pins s σ H Q I h
 refine isTrue_or (thn (ha pins s σ H Q I h) fun c s1 e=>?_)
 cases c with
 | false=>exact isTrue_or_nil e
 | true=>exact e
theorem J7D (ha : PT X a tA) (hb : PW X (.BoolOp .And (b :: rest) pos) tB') : PW X (.BoolOp .And (a :: b :: rest) pos) (tAnd tA tB'):=by
 intro wh pins s σ H Q I h
 refine isTrue_and (thn (ha pins s σ H _ I h) fun c s1 ⟨H1,I1,q1⟩=>?_)
 cases c with
 | true=>exact hb wh pins s1 σ H1 Q I1 q1
 | false=>exact ⟨H1,I1,q1⟩
theorem J40 (ha : PT X a tA) (hb : PW X (.BoolOp .Or (b :: rest) pos) tB') : PW X (.BoolOp .Or (a :: b :: rest) pos) (tOr tA tB'):=by
 intro wh pins s σ H Q I h
 refine isTrue_or (thn (ha pins s σ H _ I h) fun c s1 ⟨H1,I1,q1⟩=>?_)
 cases c with
 | true=>exact ⟨H1,I1,q1⟩
 | false=>exact hb wh pins s1 σ H1 Q I1 q1
theorem J3d (ha : PT X a tA) : PT X (.UnaryOp .Not a pos) (tNot tA):=by
 intro pins s σ H Q I h
 exact isTrue_not (ha pins s σ H (fun c H1=>Q (!c) H1) I h)
noncomputable def Jbv (ta tb : TE) : TE:=fun σ H Q=>ta σ H fun x H1=>∃ c,x = .bl c ∧ if c = true then tb σ H1 Q else Q (.bl false) H1
noncomputable def tOrV (ta tb : TE) : TE:=fun σ H Q=>ta σ H fun x H1=>∃ c,x = .bl c ∧ if c = true then Q (.bl true) H1 else tb σ H1 Q
noncomputable def JbQ (ta : TE) : TE:=fun σ H Q=>ta σ H fun x H1=>∃ c,x = .bl c ∧ Q (.bl (!c)) H1
theorem J60 {op} {t : TE} (h : PE X a t) : PE X (.BoolOp op [a] pos) t:=fun pins s σ H Q I hw=>BoolOp_one (h pins s σ H Q I hw)
theorem J7F (ha : PE X a ta) (hb : PE X (.BoolOp .And (b :: rest) pos) tb) : PE X (.BoolOp .And (a :: b :: rest) pos) (Jbv ta tb):=by
 intro pins s σ H Q I h
 refine BoolOp_and (thn (ha pins s σ H _ I h) fun v s1 ⟨x,H1,I1,r1,q1⟩=>?_)
 obtain ⟨c,rfl,q1⟩:=q1
 cases r1
 refine wpAny_truthy_bool ?_
 cases c with
 | true=>exact hb pins s1 σ H1 Q I1 q1
 | false=>exact ⟨.bl false,H1,I1,rfl,q1⟩
theorem JbD (ha : PE X a ta) (hb : PE X (.BoolOp .Or (b :: rest) pos) tb) : PE X (.BoolOp .Or (a :: b :: rest) pos) (tOrV ta tb):=by
 intro pins s σ H Q I h
 refine BoolOp_or (thn (ha pins s σ H _ I h) fun v s1 ⟨x,H1,I1,r1,q1⟩=>?_)
 obtain ⟨c,rfl,q1⟩:=q1
 cases r1
 refine wpAny_truthy_bool ?_
 cases c with
 | false=>exact hb pins s1 σ H1 Q I1 q1
 | true=>exact ⟨.bl true,H1,I1,rfl,q1⟩
theorem Jbk (ha : PE X a ta) : PE X (.UnaryOp .Not a pos) (JbQ ta):=by
 intro pins s σ H Q I h
 refine UnaryOp_ (thn (ha pins s σ H _ I h) fun v s1 ⟨x,H1,I1,r1,q1⟩=>?_)
 obtain ⟨c,rfl,q1⟩:=q1
 cases r1
 exact not_of (wpAny_truthy_bool ⟨.bl (!c),H1,I1,rfl,q1⟩)
end
end L2
namespace L2
open PySem PySem.Spec PyProof.Rows
noncomputable def SqL (K : PySem.W.Frag) (H : Hp) (a : Addr) (xs : List V) : Prop :=
 Rd H a (.lst xs) ∨
  ∃ (o : Obj) (its : Array Value) (n : Nat),K.lookup a = some o ∧ o.cls = .type "list" ∧ o.dict = none ∧ o.data = .seq its n ∧ its.size ≤ sizeLine ∧ Vals xs its.toList
noncomputable def SqT (K : PySem.W.Frag) (H : Hp) (a : Addr) (xs : List V) : Prop :=
 Rd H a (.tup xs) ∨
  ∃ (o : Obj) (its : Array Value) (n : Nat),K.lookup a = some o ∧ o.cls = .type "tuple" ∧ o.data = .seq its n ∧ its.size ≤ sizeLine ∧ Vals xs its.toList
noncomputable def absV : Value → Option V
 | .none=>some .non
 | .bool b=>some (.bl b)
 | .int i _=>some (.int i)
 | .str x _=>some (.str x)
 | .bytes b _=>some (.byt b)
 | .float b _=>some (.flt b)
 | .ref a=>some (.ref a)
 | .type n=>some (.ty n)
 | _=>none
theorem RelV.abs {x : V} {u : Value} (r : RelV x u) : absV u = some x:=by
 cases x with
 | non=>cases r; rfl
 | bl _=>cases r; rfl
 | int _=>obtain ⟨t,rfl⟩:=r; rfl
 | str _=>obtain ⟨t,rfl⟩:=r; rfl
 | byt _=>obtain ⟨t,rfl⟩:=r; rfl
 | flt _=>obtain ⟨t,rfl⟩:=r; rfl
 | ref _=>cases r; rfl
 | ty _=>cases r; rfl
theorem RelV.inj {x y : V} {u : Value} (r : RelV x u) (q : RelV y u) : x = y:=Option.some.inj (r.abs.symm.trans q.abs)
theorem Vals.inj : ∀ {xs ys : List V} {us : List Value},Vals xs us → Vals ys us → xs = ys
 | _,_,_,.nil,.nil=>rfl
 | _,_,_,.cons r t,.cons r' t'=>by rw [r.inj r',Vals.inj t t']
section
variable {X : Cx} {pins : List (Addr × Obj)} {σ : St} {H : Hp} {s : Shared} {a : Addr} {xs ys : List V}
theorem SqL.of {K : PySem.W.Frag} (h : H a = some (.lst xs)) : SqL K H a xs:=.inl (.inl h)
theorem SqT.of {K : PySem.W.Frag} (h : H a = some (.tup xs)) : SqT K H a xs:=.inl (.inl h)
theorem Inv.list (I : Inv X pins σ H s) (h : SqL X.K H a xs) : ∃ its : List Value,Vals xs its ∧ PlainL s.heap a its.toArray ∧ xs.length ≤ sizeLine:=by
 rcases h with h | ⟨o,its,n,hk,hc,hd,hs,hz,r⟩
 ·obtain ⟨z,its,n,r,e⟩:=h.ok I.hok
  exact ⟨its,r,⟨_,n,e,rfl,rfl,rfl⟩,z⟩
 ·refine ⟨its.toList,r,⟨o,n,I.kIn a o hk,hc,hd,by simpa using hs⟩,?_⟩
  have e:=r.length
  simp only [Array.length_toList] at e
  omega
theorem Inv.tuple (I : Inv X pins σ H s) (h : SqT X.K H a xs) : ∃ its : List Value,Vals xs its ∧ IsTup s.heap a its.toArray ∧ xs.length ≤ sizeLine:=by
 rcases h with h | ⟨o,its,n,hk,hc,hs,hz,r⟩
 ·obtain ⟨z,its,r,p⟩:=h.ok I.hok
  exact ⟨its,r,p,z⟩
 ·refine ⟨its.toList,r,⟨o,I.kIn a o hk,hc,n,by simpa using hs⟩,?_⟩
  have e:=r.length
  simp only [Array.length_toList] at e
  omega
theorem Inv.list_inj (I : Inv X pins σ H s) (h : SqL X.K H a xs) (h' : SqL X.K H a ys) : xs = ys:=by
 obtain ⟨its,r,⟨o,n,e,_,_,d⟩,_⟩:=I.list h
 obtain ⟨its',r',⟨o',n',e',_,_,d'⟩,_⟩:=I.list h'
 rw [e] at e'; cases e'
 rw [d] at d'
 injection d' with d1 _
 have : its = its':=by simpa using congrArg Array.toList d1
 subst this
 exact r.inj r'
end
noncomputable abbrev Cx.wish (X : Cx) (E : Value → Shared → Prop) : Cx:={ X with xe:=E }
noncomputable abbrev Cx.nox (X : Cx) : Cx:=X.wish fun _ _=>False
theorem Cx.Ok.wish {X : Cx} (ok : X.Ok) (E : Value → Shared → Prop) : (X.wish E).Ok :=
 ⟨ok.mod,ok.kind,ok.glob,ok.blt,ok.above,ok.inj,ok.has,ok.cab,ok.hd,ok.frames,ok.stk,ok.exf,ok.bs,ok.bsz,ok.noex,ok.exfs,ok.funs,ok.frf⟩
theorem Cx.Ok.unwish {X : Cx} {E : Value → Shared → Prop} (ok : (X.wish E).Ok) : X.Ok :=
 ⟨ok.mod,ok.kind,ok.glob,ok.blt,ok.above,ok.inj,ok.has,ok.cab,ok.hd,ok.frames,ok.stk,ok.exf,ok.bs,ok.bsz,ok.noex,ok.exfs,ok.funs,ok.frf⟩
section
variable {X : Cx} {pins : List (Addr × Obj)} {σ : St} {H : Hp} {s : Shared} {E : Value → Shared → Prop}
theorem Inv.wish (I : Inv X pins σ H s) (E : Value → Shared → Prop) : Inv (X.wish E) pins σ H s:=⟨I.ok.wish E,I.os,I.bare,I.base,I.loc,I.cell,I.free,I.freeC,I.pin,I.hok,I.len⟩
theorem Inv.unwish (I : Inv (X.wish E) pins σ H s) : Inv X pins σ H s:=⟨I.ok.unwish,I.os,I.bare,I.base,I.loc,I.cell,I.free,I.freeC,I.pin,I.hok,I.len⟩
theorem SP.unwish {D : Ends} {f : Flow} {s' : Shared} (h : SP (X.wish E) pins D f s') : SP X pins D f s':=by
 cases f with
 | next=>obtain ⟨σ',H',I,q⟩:=h; exact ⟨σ',H',I.unwish,q⟩
 | brk=>obtain ⟨σ',H',I,q⟩:=h; exact ⟨σ',H',I.unwish,q⟩
 | cont=>obtain ⟨σ',H',I,q⟩:=h; exact ⟨σ',H',I.unwish,q⟩
 | ret u=>obtain ⟨v,σ',H',I,r,q⟩:=h; exact ⟨v,σ',H',I.unwish,r,q⟩
theorem PSs.nox {st : List Stmt} {t : TS} (h : PSs X.nox st t) : PSs X st t:=fun pins s σ H D I hw =>
 wpAny_mono (h pins s σ H D (I.wish _) hw) (fun _ _ q=>q.unwish) fun _ _ z=>False.elim z
end
section
variable {X : Cx} {st : Stmt} {rest : List Stmt} {t u : TS} {e : Expr} {te : TE} {pos : Pos}
noncomputable def JbM : TS:=fun D σ H=>D.nx σ H
noncomputable def tSeq (t u : TS) : TS:=fun D σ H=>t { D with nx:=u D } σ H
theorem Jq : PSs X [] JbM:=fun _ _ σ H _ I h=>wpAny_execs_nil ⟨σ,H,I,h⟩
theorem J4 (h1 : PS X st t) (h2 : PSs X rest u) : PSs X (st :: rest) (tSeq t u):=by
 intro pins s σ H D I h
 refine wpAny_execs_cons (thn (h1 pins s σ H { D with nx:=u D } I h) fun f s1 q=>?_)
 cases f with
 | next =>
  obtain ⟨σ',H',I',q⟩:=q
  exact h2 pins s1 σ' H' D I' q
 | ret v=>exact q
 | brk=>exact q
 | cont=>exact q
theorem Ja (h1 : PS X st t) : PSs X [st] t:=by
 intro pins s σ H D I h
 refine wpAny_execs_cons (thn (h1 pins s σ H D I h) fun f s1 q=>?_)
 cases f with
 | next=>exact wpAny_execs_nil q
 | ret v=>exact q
 | brk=>exact q
 | cont=>exact q
theorem Inv.quiet {pins : List (Addr × Obj)} {σ : St} {H : Hp} {s : Shared} (I : Inv X pins σ H s) : interactive X.env = false:=by simp [interactive,I.ok.kind]
noncomputable def Jbr (te : TE) : TS:=fun D σ H=>te σ H fun _ H1=>D.nx σ H1
theorem J1v (he : PE X e te) (hs : swapsWith e none pos.line X.env = pure false:=by rfl) : PS X (.Expr e pos) (Jbr te):=by
 intro pins s σ H D I h
 exact wpAny_Expr_any (thn (he pins s σ H _ I h) fun v s1 ⟨x,H1,I1,r1,q1⟩=>⟨σ,H1,I1,q1⟩) I.quiet hs
noncomputable def tRet (te : TE) : TS:=fun D σ H=>te σ H D.rt
theorem Jj (he : PE X e te) : PS X (.Return (some e) pos) (tRet te):=by
 intro pins s σ H D I h
 exact wpAny_Return_some (thn (he pins s σ H _ I h) fun v s1 ⟨x,H1,I1,r1,q1⟩=>⟨x,σ,H1,I1,r1,q1⟩)
noncomputable def tIfS (c : TT) (t u : TS) : TS:=fun D σ H=>c σ H fun b H1=>if b = true then t D σ H1 else u D σ H1
theorem JF {c : Expr} {a b : List Stmt} {tc : TT} (hc : PT X c tc) (ha : PSs X a t) (hb : PSs X b u) : PS X (.If c a b pos) (tIfS tc t u):=by
 intro pins s σ H D I h
 refine wpAny_If (thn (hc pins s σ H _ I h) fun d s1 ⟨H1,I1,q1⟩=>?_)
 cases d with
 | true=>exact ha pins s1 σ H1 D I1 q1
 | false=>exact hb pins s1 σ H1 D I1 q1
noncomputable def Jbh : TS:=fun _ _ _=>False
theorem J9W : PS X st Jbh:=fun _ _ _ _ _ _ h=>h.elim
end
noncomputable abbrev TG:=V → St → Hp → (St → Hp → Prop) → Prop
noncomputable abbrev TGs:=List V → St → Hp → (St → Hp → Prop) → Prop
noncomputable def PG (X : Cx) (target : Expr) (t : TG) : Prop :=
 ∀ (pins : List (Addr × Obj)) (s : Shared) (σ : St) (H : Hp) (v : V) (u : Value) (Q : St → Hp → Prop),Inv X pins σ H s → RelV v u → t v σ H Q →
  wpAny (model X.prog X.w) X.A (assign target X.env u) (fun _ s'=>∃ σ' H',Inv X pins σ' H' s' ∧ Q σ' H') X.xe s
noncomputable def PGs (X : Cx) (ts : List Expr) (t : TGs) : Prop :=
 ∀ (pins : List (Addr × Obj)) (s : Shared) (σ : St) (H : Hp) (vs : List V) (us : List Value) (Q : St → Hp → Prop),Inv X pins σ H s → Vals vs us → t vs σ H Q →
  wpAny (model X.prog X.w) X.A (assignInOrder ((assignEach ts X.env).map (·.2)) us) (fun _ s'=>∃ σ' H',Inv X pins σ' H' s' ∧ Q σ' H') X.xe s
noncomputable abbrev TIp:=V → V → Hp → VK → Prop
noncomputable def PIp (X : Cx) (op : Operator) (t : TIp) : Prop :=
 ∀ (pins : List (Addr × Obj)) (s : Shared) (σ : St) (H : Hp) (x y : V) (v u : Value) (Q : VK),Inv X pins σ H s → RelV x v → RelV y u → t x y H Q →
  wpAny (model X.prog X.w) X.A (inplaceOp op v u) (EP X pins σ Q) X.xe s
section
variable {X : Cx} {pos : Pos}
noncomputable def J2M (i : Nat) : TG:=fun v σ H Q=>Q (σ.set i (some v)) H
theorem JU {i : Nat} {x : Str} (hN : X.N.Nodup) (hi : X.N[i]? = some x) (hx : Loc X.env.scope x) (hf : X.fn x = true ∨ X.env.scope.names.lookup x = some .local:=by first | exact .inl rfl | exact .inr rfl | assumption) : PG X (.Name x pos) (J2M i):=by
 intro pins s σ H v u Q I r h
 exact wpAny_assign_Name (J4f I hN hi hx r (fun s' I'=>⟨_,H,I',h⟩) hf)
noncomputable def gNil : TGs:=fun vs σ H Q=>vs = [] ∧ Q σ H
noncomputable def J6F (t : TG) (u : TGs) : TGs:=fun vs σ H Q=>∃ v r,vs = v :: r ∧ t v σ H fun σ' H'=>u r σ' H' Q
theorem Jat : PGs X [] gNil:=by
 intro pins s σ H vs us Q I r h
 obtain ⟨e,h⟩:=h
 subst e
 cases r
 exact assignInOrder_nil ⟨σ,H,I,h⟩
theorem J6w {e : Expr} {es : List Expr} {t : TG} {u : TGs} (h1 : PG X e t) (h2 : PGs X es u)
  (hs : (assignEach (e :: es) X.env).map (·.2) = assign e X.env :: (assignEach es X.env).map (·.2):=by rfl) : PGs X (e :: es) (J6F t u):=by
 intro pins s σ H vs us Q I r h
 obtain ⟨v,vr,e1,h⟩:=h
 subst e1
 cases r with
 | cons r rr =>
  rw [hs]
  refine assignInOrder_cons (thn (h1 pins s σ H _ _ _ I r h) fun _ s1 ⟨σ1,H1,I1,q1⟩=>?_)
  exact h2 pins s1 σ1 H1 _ _ Q I1 rr q1
noncomputable def gTup (K : PySem.W.Frag) (n : Nat) (t : TGs) : TG:=fun v σ H Q=>∃ a xs,v = .ref a ∧ SqT K H a xs ∧ xs.length = n ∧ t xs σ H Q
theorem JaY {es : List Expr} {k : Nat} {t : TGs} {n : Nat} (hc : X.calm = true) (h : PGs X es t)
  (hn : (assignEach es X.env).length = n:=by rfl) (hst : (assignEach es X.env).findIdx? (·.1) = none:=by rfl) : PG X (.Tuple es k pos) (gTup X.K n t):=by
 intro pins s σ H v u Q I r hw
 obtain ⟨a,xs,e1,hq,hl,hw⟩:=hw
 subst e1
 cases r
 obtain ⟨its,rv,ht,hz⟩:=I.tuple hq
 refine assign_Tuple_tuple (I.ok.hd hc) ht (by simp [hn,← hl,rv.length]) hst fun h' hx=>?_
 have I1 : Inv X pins σ H { s with heap:=h' }:=I.kept (t':=s.toks) fun b o e=>hx b o (Nat.ne_of_lt (Heap.lt_size e)) e
 exact h pins _ σ H xs _ Q I1 (by simpa using rv) hw
noncomputable def tAsg (te : TE) (g : TG) : TS:=fun D σ H=>te σ H fun x H1=>g x σ H1 D.nx
theorem Je {i : Nat} {x : Str} {e : Expr} {te : TE} {pos' : Pos} (hN : X.N.Nodup) (hi : X.N[i]? = some x) (hx : Loc X.env.scope x) (he : PE X e te) (hs : swapsWith e (some (.Name x pos')) pos.line X.env = pure false:=by rfl) (hf : X.fn x = true ∨ X.env.scope.names.lookup x = some .local:=by first | exact .inl rfl | exact .inr rfl | assumption) :
  PS X (.Assign [.Name x pos'] e pos) (tAsg te (J2M i)):=by
 intro pins s σ H D I h
 refine wpAny_Assign_Name (thn (he pins s σ H _ I h) fun v s1 ⟨y,H1,I1,r1,q1⟩=>?_) hs
 exact J4f I1 hN hi hx r1 (fun s2 I2=>⟨_,H1,I2,q1⟩) hf
noncomputable def tAug (i : Nat) (te : TE) (ti : TIp) : TS:=fun D σ H=>∃ x,σ[i]? = some (some x) ∧ te σ H fun y H1=>ti x y H1 fun z H2=>D.nx (σ.set i (some z)) H2
theorem Jbd {i : Nat} {x : Str} {e : Expr} {te : TE} {op : Operator} {ti : TIp} {pos' : Pos} (hN : X.N.Nodup) (hi : X.N[i]? = some x) (hx : Loc X.env.scope x) (he : PE X e te) (ho : PIp X op ti) (hf : X.fn x = true ∨ X.env.scope.names.lookup x = some .local:=by first | exact .inl rfl | exact .inr rfl | assumption) :
  PS X (.AugAssign (.Name x pos') op e pos) (tAug i te ti):=by
 intro pins s σ H D I h
 obtain ⟨v,e1,h⟩:=h
 obtain ⟨m,hn,hl⟩:=I.loc
 have vis : Vis X.env.scope x:=by rcases hx with k | k; exact .inl k; exact .inr (.inl k)
 obtain ⟨u,r,l⟩:=hl i x v hi e1 vis
 refine wpAny_AugAssign_Name ?_
 have go : wpAny (model X.prog X.w) X.A (eval e X.env) (fun w s₂=>wpAny (model X.prog X.w) X.A (inplaceOp op u w) (fun r s₃=>wpAny (model X.prog X.w) X.A (storeName X.env x r) (fun _=>SP X pins D .next) X.xe s₃) X.xe s₂) X.xe s:=by
  refine thn (he pins s σ H _ I h) fun w s1 ⟨y,H1,I1,r1,q1⟩=>?_
  refine thn (ho pins s1 σ H1 v y u w _ I1 r r1 q1) fun z s2 ⟨zv,H2,I2,r2,q2⟩=>?_
  exact J4f I2 hN hi hx r2 (fun s3 I3=>⟨_,H2,I3,q2⟩) hf
 rcases l with ⟨hk,hm⟩ | ⟨hk,c,hc,hcell⟩
 ·exact wpAny_loadName_local I.ok.kind hk hn hm go
 ·rcases hk with hk | hk
  ·exact wpAny_loadName_cell I.ok.kind hk hc hcell go
  ·rcases hx with k | k
   ·have : X.env.scope.names.lookup x = some .free:=hk
    rw [k] at this; cases this
   ·have : X.env.scope.names.lookup x = some .free:=hk
    rw [k] at this; cases this
end
section
variable {X : Cx} {pos : Pos}
noncomputable def J9u (c : TT) (tb : TS) : TS:=fun D σ H=>∃ W : Nat → St → Hp → Prop,(∃ m,W m σ H) ∧ ∀ m σ H,W m σ H →
 c σ H fun b H1=>if b = true then ∃ N : St → Hp → Prop,(∀ σ' H',N σ' H' → ∃ m',m' < m ∧ W m' σ' H') ∧ tb { D with nx:=N,ct:=N,bk:=D.nx } σ H1 else D.nx σ H1
theorem J4j {c : Expr} {body : List Stmt} {tc : TT} {tb : TS} (hp : PassesOwn (model X.prog X.w) X.A X.env X.xe) (hc : PT X c tc) (hb : PSs X body tb) : PS X (.While c body [] pos) (J9u tc tb):=by
 intro pins s σ H D I h
 obtain ⟨W,⟨m0,w0⟩,turn⟩:=h
 refine wpAny_While (codeAny_whileLoop (fun n s'=>∃ σ' H',Inv X pins σ' H' s' ∧ W n σ' H') ?_ m0 ⟨σ,H,I,w0⟩)
 rintro n s1 ⟨σ1,H1,I1,w1⟩
 refine wpAny_passesOwn hp (thn (hc pins s1 σ1 H1 _ I1 (turn n σ1 H1 w1)) fun b s2 ⟨H2,I2,q2⟩=>?_)
 cases b with
 | true =>
  obtain ⟨N,hN,q2⟩:=q2
  rw [if_pos rfl]
  refine wpAny_passesOwn hp (thn (hb pins s2 σ1 H2 _ I2 q2) fun f s3 q3=>?_)
  cases f with
  | next =>
   obtain ⟨σ3,H3,I3,n3⟩:=q3
   obtain ⟨m',hm,w3⟩:=hN σ3 H3 n3
   exact ⟨m',hm,σ3,H3,I3,w3⟩
  | cont =>
   obtain ⟨σ3,H3,I3,n3⟩:=q3
   obtain ⟨m',hm,w3⟩:=hN σ3 H3 n3
   exact ⟨m',hm,σ3,H3,I3,w3⟩
  | brk=>exact q3
  | ret v=>exact q3
 | false =>
  rw [if_neg Bool.false_ne_true]
  exact wpAny_execs_nil ⟨σ1,H2,I2,q2⟩
end
structure It where
 go : Nat → Hp → Prop
 yld : Nat → Hp → V → Hp → Prop
 stop : Nat → Hp → Prop
noncomputable def FpOk (X : Cx) (pins : List (Addr × Obj)) (H : Hp) (b : Addr) : Prop :=
 H b = none ∧ b ≠ X.env.locals ∧ b ∉ X.fs ∧ (b ∈ X.ex ∨ X.s₀.heap.objs.size ≤ b) ∧ (∀ x c,X.env.cells.lookup x = some c → c ≠ b) ∧ ∀ p ∈ X.pn ++ pins,p.1 ≠ b
theorem Inv.fpOk {X : Cx} {pins : List (Addr × Obj)} {σ : St} {H H' : Hp} {s : Shared} {b : Addr} (I : Inv X pins σ H s) (hb : s.heap.objs.size ≤ b) (hn : H' b = none) : FpOk X pins H' b:=by
 refine ⟨hn,Nat.ne_of_gt (Nat.lt_of_lt_of_le I.lt hb),I.nofs hb,.inr (Nat.le_trans I.sz hb),fun x c e z=>?_,fun p hp z=>?_⟩
 ·obtain ⟨v,q⟩:=I.cell x c e
  exact absurd (Nat.lt_of_lt_of_le q.lt (by rw [z]; exact hb)) (Nat.lt_irrefl _)
 ·exact absurd (Nat.lt_of_lt_of_le (Heap.lt_size (I.pin p hp).1) (by rw [z]; exact hb)) (Nat.lt_irrefl _)
structure Turn (P : Program) (w : World) (K : PySem.W.Frag) (tg : Expr) (J : It) (fp : List Addr) (it : Addr) (tn : Nat → Heap → Prop) : Prop where
 mem : it ∈ fp
 obj : ∀ i h,tn i h → ∀ b ∈ fp,∃ o,h.get? b = some o ∧ ∀ v,o.data ≠ .cell v
 keep : ∀ i h h',tn i h → (∀ b ∈ fp,∀ o,h.get? b = some o → h'.get? b = some o) → tn i h'
 item : ∀ (X : Cx),X.prog = P → X.w = w → X.K = K → X.calm = true → ∀ (i : Nat) (pins : List (Addr × Obj)) (s : Shared) (σ : St) (H : Hp) (E : Value → Shared → Prop),Inv X pins σ H s → (∀ b ∈ fp,FpOk X pins H b) → tn i s.heap → J.go i H →
  wpAny (model P w) X.A (pyNext (.ref it)) (fun r s1=>∃ u,r = some u ∧
   wpAny (model P w) X.A (letOwnedTupleGo tg (.ref it) u) (fun _ s2=>∃ x H',Inv X pins σ H' s2 ∧ RelV x u ∧ J.yld i H x H' ∧ tn (i + 1) s2.heap ∧ ∀ b ∈ fp,H' b = none) E s1) E s
 done : ∀ (X : Cx),X.prog = P → X.w = w → X.K = K → X.calm = true → ∀ (i : Nat) (pins : List (Addr × Obj)) (s : Shared) (σ : St) (H : Hp) (E : Value → Shared → Prop),Inv X pins σ H s → (∀ b ∈ fp,FpOk X pins H b) → tn i s.heap → J.stop i H →
  wpAny (model P w) X.A (pyNext (.ref it)) (fun r s1=>r = none ∧ Inv X pins σ H s1) E s
 self : ∀ (A : Around) (i : Nat) (s : Shared) (Q : Value → Shared → Prop) (E : Value → Shared → Prop),tn i s.heap → Q (.ref it) s → wpAny (model P w) A (pyIter (.ref it)) Q E s
noncomputable abbrev TI:=St → Hp → (It → Hp → Prop) → Prop
noncomputable def PIE (X : Cx) (pins : List (Addr × Obj)) (σ : St) (tg : Expr) (R : It → Hp → Prop) (itv : Value) (s2 : Shared) : Prop :=
 ∃ (it : Addr) (fp : List Addr) (tn : Nat → Heap → Prop) (J : It) (H' : Hp),itv = .ref it ∧ Inv X pins σ H' s2 ∧ Turn X.prog X.w X.K tg J fp it tn ∧ tn 0 s2.heap ∧ (∀ b ∈ fp,FpOk X pins H' b) ∧ R J H'
noncomputable def PI (X : Cx) (tg iter : Expr) (wi : TI) : Prop :=
 ∀ (pins : List (Addr × Obj)) (s : Shared) (σ : St) (H : Hp) (R : It → Hp → Prop),Inv X pins σ H s → wi σ H R →
  wpAny (model X.prog X.w) X.A (eval iter X.env) (fun v s1=>wpAny (model X.prog X.w) X.A (pyIter v) (PIE X pins σ tg R) X.xe s1) X.xe s
theorem J9s {M : Model} {A : Around} {E : Value → Shared → Prop} {s : Shared} {tg : Expr} {it : Addr} {u : Value} {o : Obj} {n : String} {vs : Array Value} {Q : Unit → Shared → Prop} (ho : s.heap.get? it = some o) (hc : o.cls = .type n) (hd : o.data = .fields vs)
    (hn : ["enumerate","zip","dict_itemiterator","dict_reverseitemiterator","odict_iterator","itertools.zip_longest","itertools.pairwise"].contains n = false) (hQ : Q () s) : wpAny M A (letOwnedTupleGo tg (.ref it) u) Q E s:=by
  unfold letOwnedTupleGo
  cases tg <;> first
    | exact wpAny_pure hQ
    | (cases u <;> first
        | exact wpAny_pure hQ
        | (refine wpAny_bind (wpAny_load ho ?_)
           rw [hc,hd]
           show wpAny M A (if (["enumerate","zip","dict_itemiterator","dict_reverseitemiterator","odict_iterator","itertools.zip_longest","itertools.pairwise"].contains n && vs[0]? == some (rawInt _)) = true then _ else _) Q E s
           rw [if_neg (by intro h; rw [hn,Bool.false_and] at h; cases h)]
           exact wpAny_pure hQ))
noncomputable def Itl (K : PySem.W.Frag) (a : Addr) : It :=
 ⟨fun i H=>∃ xs x,SqL K H a xs ∧ xs[i]? = some x,fun i H x H'=>H' = H ∧ ∀ xs,SqL K H a xs → xs[i]? = some x,fun i H=>∃ xs,SqL K H a xs ∧ xs.length ≤ i⟩
noncomputable def Itr (lo : Int) (n : Nat) : It:=⟨fun i _=>i < n,fun i H x H'=>H' = H ∧ x = .int (lo + i),fun i _=>n ≤ i⟩
theorem J8O {P : Program} {w : World} {K : PySem.W.Frag} {tg : Expr} (a it : Addr) : Turn P w K tg (Itl K a) [it] it (fun i h=>h.IsListIter it a i) where
 mem:=by simp
 obj:=fun i h st b hb=>by
  have e : b = it:=by simpa using hb
  subst e
  obtain ⟨o,e,c,d⟩:=st
  exact ⟨o,e,fun v z=>by rw [d] at z; cases z⟩
 keep:=fun i h h' st k=>st.at fun o e=>k it (by simp) o e
 item:=by
  intro X hP hw hK hc i pins s σ H E I hf st hg
  subst hP hw hK
  obtain ⟨xs,x,hq,hx⟩:=hg
  obtain ⟨its,rv,p,hz⟩:=I.list hq
  obtain ⟨u,hu,ru⟩:=rv.get hx
  obtain ⟨f0,f1,f2,f3,f4,f5⟩:=hf it (by simp)
  refine wpAny_pyNext_list_item st p.isList (x:=u) (by simpa using hu) fun h' st' sb=>?_
  have I1 : Inv X pins σ H { s with heap:=h' }:=I.turned (t':=s.toks) (fun b o hb e=>(sb.2 b hb).trans e) f0 f1 f3 f4 f5
  obtain ⟨o,e,c,d⟩:=id st'
  exact ⟨u,rfl,J9s (s:={ s with heap:=h' }) e c d (by decide) ⟨x,H,I1,ru,⟨rfl,fun ys hy=>by rw [I.list_inj hy hq]; exact hx⟩,st',fun b hb=>(hf b hb).1⟩⟩
 done:=by
  intro X hP hw hK hc i pins s σ H E I hf st hg
  subst hP hw hK
  obtain ⟨xs,hq,hx⟩:=hg
  obtain ⟨its,rv,p,hz⟩:=I.list hq
  obtain ⟨f0,f1,f2,f3,f4,f5⟩:=hf it (by simp)
  have hl:=rv.length
  exact wpAny_pyNext_list_end (I.ok.hd hc) st p.isList (by simp; omega) fun h' eb=>⟨rfl,I.turned (t':=s.toks) (fun b o hb e=>eb b o hb e) f0 f1 f3 f4 f5⟩
 self:=fun _ _ _ _ _ st h=>wpAny_pyIter_listiter st h
theorem J7M {P : Program} {w : World} {K : PySem.W.Frag} {tg : Expr} (it : Addr) (lo : Int) (n : Nat) : Turn P w K tg (Itr lo n) [it] it (fun i h=>IsRangeIter h it (lo + (i : Nat) * 1) ((n : Int) - (i : Nat)) 1) where
 mem:=by simp
 obj:=fun i h st b hb=>by
  have e : b = it:=by simpa using hb
  subst e
  exact ⟨_,st,fun v z=>by
   have z' : Data.fields _ = Data.cell v:=z
   cases z'⟩
 keep:=fun i h h' st k=>k it (by simp) _ st
 item:=by
  intro X hP hw hK hc i pins s σ H E I hf st hg
  subst hP hw hK
  obtain ⟨f0,f1,f2,f3,f4,f5⟩:=hf it (by simp)
  have W:=Walks.range (prog:=X.prog) (w:=X.w) (I.ok.hd hc) it lo 1 n
  refine W.item i s _ _ hg st fun v h' tk hv st' kk=>?_
  obtain ⟨t,rfl⟩:=hv
  have I1 : Inv X pins σ H { s with heap:=h',toks:=tk }:=I.turned (fun b o hb e=>kk b o (by simpa using hb) e) f0 f1 f3 f4 f5
  refine ⟨_,rfl,J9s (s:={ s with heap:=h',toks:=tk }) (n:="range_iterator") st' rfl rfl (by decide) ⟨.int (lo + i),H,I1,⟨t,?_⟩,⟨rfl,rfl⟩,st',fun b hb=>(hf b hb).1⟩⟩
  rw [Int.mul_one]
 done:=by
  intro X hP hw hK hc i pins s σ H E I hf st hg
  subst hP hw hK
  obtain ⟨f0,f1,f2,f3,f4,f5⟩:=hf it (by simp)
  exact wpAny_pyNext_range_end (I.ok.hd hc) st (by have : n ≤ i:=hg; omega) fun h' eb=>⟨rfl,I.turned (t':=s.toks) (fun b o hb e=>eb b o hb e) f0 f1 f3 f4 f5⟩
 self:=fun _ _ _ _ _ st h=>wpAny_pyIter_rangeiter st h
end L2
namespace L2
open PySem PySem.Spec PyProof.Rows
section
variable {X : Cx} {tg : Expr}
noncomputable def JaN (K : PySem.W.Frag) (tl : TE) : TI:=fun σ H R=>tl σ H fun x H1=>∃ a,x = .ref a ∧ (∃ xs,SqL K H1 a xs) ∧ R (Itl K a) H1
theorem Jah {l : Expr} {tl : TE} (hl : PE X l tl) : PI X tg l (JaN X.K tl):=by
 intro pins s σ H R I h
 refine thn (hl pins s σ H _ I h) fun v s1 ⟨x,H1,I1,r1,q1⟩=>?_
 obtain ⟨a,e,⟨xs,hq⟩,q⟩:=q1
 subst e
 cases r1
 obtain ⟨its,rv,p,hz⟩:=I1.list hq
 refine wpAny_pyIter_list p.isList ?_
 refine ⟨s1.heap.objs.size,[s1.heap.objs.size],_,_,H1,rfl,I1.kept (t':=s1.toks) fun b o e=>Heap.get?_push_of_some _ e,J8O a _,⟨_,Heap.get?_push_size _ rfl,rfl,rfl⟩,fun b hb=>?_,q⟩
 have e : b = s1.heap.objs.size:=by simpa using hb
 subst e
 exact I1.fpOk (Nat.le_refl _) (I1.hok.fresh (Nat.le_refl _))
theorem J6S {pins : List (Addr × Obj)} {σ : St} {H : Hp} {s : Shared} {R : It → Hp → Prop} {E : Value → Shared → Prop} {lo hi : Int} {t u v : Tok} {tk : Nat} (I : Inv X pins σ H s) (h1 : -(2 ^ 62) ≤ lo) (h2 : lo < 2 ^ 62) (h3 : -(2 ^ 62) ≤ hi) (h4 : hi < 2 ^ 62)
  (q : R (Itr lo (hi - lo).toNat) H) : wpAny (model X.prog X.w) X.A (pyIter (.ref s.heap.objs.size)) (PIE X pins σ tg R) E { s with heap:=s.heap.push { cls:=.type "range",data:=.fields #[.int lo t,.int hi u,.int 1 v] },toks:=tk }:=by
 refine wpAny_pyIter_range (IsRange.new ..) (small_one h1 h2 h3 h4) ?_
 have I1 : Inv X pins σ H { s with heap:=s.heap.push { cls:=.type "range",data:=.fields #[.int lo t,.int hi u,.int 1 v] },toks:=tk }:=I.kept fun b o e=>Heap.get?_push_of_some _ e
 refine ⟨(s.heap.push { cls:=.type "range",data:=.fields #[.int lo t,.int hi u,.int 1 v] }).objs.size,[(s.heap.push { cls:=.type "range",data:=.fields #[.int lo t,.int hi u,.int 1 v] }).objs.size],_,_,H,rfl,
  I1.kept (t':=tk) fun b o e=>Heap.get?_push_of_some _ e,J7M _ lo (hi - lo).toNat,?_,fun b hb=>?_,q⟩
 ·have e1 : lo + ((0 : Nat) : Int) * 1 = lo:=by simp
  have e2 : (((hi - lo).toNat : Nat) : Int) - ((0 : Nat) : Int) = Builtin.Range.rangeSize lo hi 1:=by rw [rangeSize_one]; split <;> omega
  show IsRangeIter _ _ (lo + ((0 : Nat) : Int) * 1) ((((hi - lo).toNat : Nat) : Int) - ((0 : Nat) : Int)) 1
  rw [e1,e2]
  exact Heap.get?_push_size _ rfl
 ·have e : b = (s.heap.push { cls:=.type "range",data:=.fields #[.int lo t,.int hi u,.int 1 v] }).objs.size:=by simpa using hb
  subst e
  exact I1.fpOk (Nat.le_refl _) (I1.hok.fresh (Nat.le_refl _))
noncomputable def JbT (ta : TA) : TI:=fun σ H R=>ta σ H fun vs H1=>∃ j : Int,vs = [.int j] ∧ -(2 ^ 62) ≤ j ∧ j < 2 ^ 62 ∧ R (Itr 0 j.toNat) H1
noncomputable def Jbt (ta : TA) : TI:=fun σ H R=>ta σ H fun vs H1=>∃ i j : Int,vs = [.int i,.int j] ∧ (-(2 ^ 62) ≤ i ∧ i < 2 ^ 62 ∧ -(2 ^ 62) ≤ j ∧ j < 2 ^ 62) ∧ R (Itr i (j - i).toNat) H1
theorem J3g {a : Expr} {ta : TA} {p pos : Pos} (hg : Gl X "range") (hm : X.mg "range" = none) (ha : PA X [a] ta) (hs : starEach [a] X.env = [(false,eval a X.env)]:=by rfl) : PI X tg (.Call (.Name "range" p) [a] [] pos) (JbT ta):=by
 intro pins s σ H R I h
 refine Call_ (J3f I hg hm boot_range (PyProof.Rows.callWith_type1 (thn (ha pos pins s σ H _ I h) fun us s1 ⟨vs,H1,I1,r1,q1⟩=>?_) hs rfl))
 obtain ⟨j,e,q1,q2,q⟩:=q1
 subst e
 cases r1 with
 | cons r rr =>
  cases rr
  obtain ⟨t,rfl⟩:=r
  exact call_range_1 (J6S I1 (by omega) (by omega) q1 q2 (by simpa using q))
theorem J8Q {a b : Expr} {ta : TA} {p pos : Pos} (hg : Gl X "range") (hm : X.mg "range" = none) (ha : PA X [a,b] ta) (hs : starEach [a,b] X.env = [(false,eval a X.env),(false,eval b X.env)]:=by rfl) (hs2 : starEach [b] X.env = [(false,eval b X.env)]:=by rfl) :
  PI X tg (.Call (.Name "range" p) [a,b] [] pos) (Jbt ta):=by
 intro pins s σ H R I h
 refine Call_ (J3f I hg hm boot_range (PyProof.Rows.callWith_type1 (thn (ha pos pins s σ H _ I h) fun us s1 ⟨vs,H1,I1,r1,q1⟩=>?_) (by rw [hs,hs2]) (by rw [hs2]; rfl)))
 obtain ⟨i,j,e,⟨q1,q2,q3,q4⟩,q⟩:=q1
 subst e
 cases r1 with
 | cons r rr =>
  cases rr with
  | cons r' rr =>
   cases rr
   obtain ⟨t,rfl⟩:=r
   obtain ⟨t',rfl⟩:=r'
   exact call_range_2 (J6S I1 q1 q2 q3 q4 q)
noncomputable def tFor (wi : TI) (g : TG) (tb : TS) : TS:=fun D σ H=>wi σ H fun J H1=>∃ W : Nat → Nat → St → Hp → Prop,(∃ m,W 0 m σ H1) ∧ ∀ i m σ H,W i m σ H →
 (J.stop i H ∧ D.nx σ H) ∨ (J.go i H ∧ ∃ N : St → Hp → Prop,(∀ σ' H',N σ' H' → ∃ m',m' < m ∧ W (i + 1) m' σ' H') ∧ ∀ x H',J.yld i H x H' → g x σ H' fun σ2 H2=>tb { D with nx:=N,ct:=N,bk:=D.nx } σ2 H2)
noncomputable def J4n (fp : List Addr) (h : Heap) : List (Addr × Obj):=fp.filterMap fun b=>(h.get? b).map fun o=>(b,o)
theorem J1V {fp : List Addr} {h : Heap} {b : Addr} {o : Obj} (hb : b ∈ fp) (e : h.get? b = some o) : (b,o) ∈ J4n fp h:=List.mem_filterMap.mpr ⟨b,hb,by rw [e]; rfl⟩
theorem J8W {fp : List Addr} {h : Heap} {p : Addr × Obj} (hp : p ∈ J4n fp h) : p.1 ∈ fp ∧ h.get? p.1 = some p.2:=by
 obtain ⟨b,hb,e⟩:=List.mem_filterMap.mp hp
 cases q : h.get? b with
 | none=>rw [q] at e; cases e
 | some o =>
  rw [q] at e
  have e' : (b,o) = p:=Option.some.inj e
  subst e'
  exact ⟨hb,q⟩
theorem Inv.pinned {pins : List (Addr × Obj)} {σ : St} {H : Hp} {s : Shared} {fp : List Addr} (I : Inv X pins σ H s) (hf : ∀ b ∈ fp,FpOk X pins H b) (ho : ∀ b ∈ fp,∃ o,s.heap.get? b = some o ∧ ∀ v,o.data ≠ .cell v) : Inv X (pins ++ J4n fp s.heap) σ H s :=
 I.pins_of fun p hp=>(List.mem_append.mp hp).elim (fun z=>I.pin p (List.mem_append_right _ z)) fun z=>by
  obtain ⟨hb,e⟩:=J8W z
  obtain ⟨f0,f1,f2,_⟩:=hf p.1 hb
  obtain ⟨o,e',d⟩:=ho p.1 hb
  rw [e] at e'; cases e'
  exact ⟨e,f0,f1,f2,d⟩
theorem Inv.unpinned {pins pl : List (Addr × Obj)} {σ : St} {H : Hp} {s : Shared} (I : Inv X (pins ++ pl) σ H s) : Inv X pins σ H s:=I.pins_of fun p hp=>I.pin p (List.mem_append_right _ (List.mem_append_left _ hp))
theorem J1W {iter : Expr} {body : List Stmt} {wi : TI} {g : TG} {tb : TS} {pos : Pos} (hp : PassesOwn (model X.prog X.w) X.A X.env X.xe) (hc : X.calm = true) (hi : PI X tg iter wi) (hg : PG X tg g) (hb : PSs X body tb)
  (hs : ∀ x,foldedSetIterable iter X.env x = pure x:=by intro _; rfl) : PS X (.For tg iter body [] pos) (tFor wi g tb):=by
 intro pins s σ H D I h
 refine wpAny_For (thn (hi pins s σ H _ I h) fun v s1 h1=>thn h1 fun itv s2 h2=>?_) hs
 obtain ⟨it,fp,tn,J,H2,e,I2,T,st2,f2,W,⟨m0,w0⟩,turn⟩:=h2
 subst e
 have stat : ∀ {H' : Hp},(∀ b ∈ fp,H' b = none) → ∀ b ∈ fp,FpOk X pins H' b:=fun hn b hb=>⟨hn b hb,(f2 b hb).2⟩
 refine codeAny_forLoop_any (fun n s'=>∃ i σ' H',Inv X pins σ' H' s' ∧ tn i s'.heap ∧ (∀ b ∈ fp,H' b = none) ∧ W i n σ' H') ?_ m0 ⟨0,σ,H2,I2,st2,fun b hb=>(f2 b hb).1,w0⟩
 rintro n s3 ⟨i,σ3,H3,I3,st3,fr3,w3⟩
 rcases turn i n σ3 H3 w3 with ⟨stop,qn⟩ | ⟨go,N,hN,step⟩
 ·refine wpAny_passesOwn hp (thn (T.done X rfl rfl rfl hc i pins s3 σ3 H3 X.xe I3 (stat fr3) st3 stop) fun r s4 ⟨hr,I4⟩=>?_)
  subst hr
  exact wpAny_execs_nil ⟨σ3,H3,I4,qn⟩
 ·refine wpAny_passesOwn hp (thn (T.item X rfl rfl rfl hc i pins s3 σ3 H3 X.xe I3 (stat fr3) st3 go) fun r s4 ⟨u,hr,h4⟩=>?_)
  subst hr
  refine wpAny_passesOwn hp (thn h4 fun _ s5 ⟨x,H5,I5,r5,y5,st5,fr5⟩=>?_)
  have I5':=I5.pinned (stat fr5) (T.obj _ _ st5)
  refine wpAny_passesOwn hp (thn (hg _ s5 σ3 H5 x u _ I5' r5 (step x H5 y5)) fun _ s6 ⟨σ6,H6,I6,q6⟩=>?_)
  refine wpAny_passesOwn hp (thn (hb _ s6 σ6 H6 _ I6 q6) fun f s7 q7=>?_)
  have again : ∀ {σ7 : St} {H7 : Hp},Inv X (pins ++ J4n fp s5.heap) σ7 H7 s7 → N σ7 H7 → ∃ m,m < n ∧ ∃ i σ' H',Inv X pins σ' H' s7 ∧ tn i s7.heap ∧ (∀ b ∈ fp,H' b = none) ∧ W i m σ' H':=fun {σ7 H7} I7 n7=>by
   obtain ⟨m',hm,w7⟩:=hN σ7 H7 n7
   refine ⟨m',hm,i + 1,σ7,H7,I7.unpinned,T.keep _ _ _ st5 fun b hb o e=>(I7.pin (b,o) (List.mem_append_right _ (List.mem_append_right _ (J1V hb e)))).1,fun b hb=>?_,w7⟩
   obtain ⟨o,e,d⟩:=T.obj _ _ st5 b hb
   exact (I7.pin (b,o) (List.mem_append_right _ (List.mem_append_right _ (J1V hb e)))).2.1
  cases f with
  | next=>obtain ⟨σ7,H7,I7,n7⟩:=q7; exact again I7 n7
  | cont=>obtain ⟨σ7,H7,I7,n7⟩:=q7; exact again I7 n7
  | brk=>obtain ⟨σ7,H7,I7,q7⟩:=q7; exact ⟨σ7,H7,I7.unpinned,q7⟩
  | ret v=>obtain ⟨x7,σ7,H7,I7,r7,q7⟩:=q7; exact ⟨x7,σ7,H7,I7.unpinned,r7,q7⟩
end
theorem J26 {K : PySem.W.Frag} {a : Addr} {xs : List V} {g : TG} {tb : TS} {D : Ends} {σ : St} {H : Hp} (Pv : Nat → St → Hp → Prop) (h0 : Pv 0 σ H) (hl : ∀ i σ H,i ≤ xs.length → Pv i σ H → SqL K H a xs)
  (hs : ∀ i x σ H,xs[i]? = some x → Pv i σ H → g x σ H fun σ2 H2=>tb { D with nx:=Pv (i + 1),ct:=Pv (i + 1),bk:=D.nx } σ2 H2) (hd : ∀ σ H,Pv xs.length σ H → D.nx σ H) :
  ∃ W : Nat → Nat → St → Hp → Prop,(∃ m,W 0 m σ H) ∧ ∀ i m σ H,W i m σ H →
   ((Itl K a).stop i H ∧ D.nx σ H) ∨ ((Itl K a).go i H ∧ ∃ N : St → Hp → Prop,(∀ σ' H',N σ' H' → ∃ m',m' < m ∧ W (i + 1) m' σ' H') ∧ ∀ x H',(Itl K a).yld i H x H' → g x σ H' fun σ2 H2=>tb { D with nx:=N,ct:=N,bk:=D.nx } σ2 H2):=by
 refine ⟨fun i m σ H=>m = xs.length - i ∧ i ≤ xs.length ∧ Pv i σ H,⟨xs.length,by simp,Nat.zero_le _,h0⟩,?_⟩
 rintro i m σ H ⟨rfl,hi,p⟩
 have q:=hl i σ H hi p
 by_cases hlt : i < xs.length
 ·refine .inr ⟨⟨xs,xs[i],q,by simp [hlt]⟩,Pv (i + 1),fun σ' H' p'=>⟨xs.length - (i + 1),by omega,rfl,hlt,p'⟩,fun x H' y=>?_⟩
  obtain ⟨e,y⟩:=y
  subst e
  exact hs i x σ _ (y xs q) p
 ·have e : i = xs.length:=by omega
  subst e
  exact .inl ⟨⟨xs,q,Nat.le_refl _⟩,hd σ H p⟩
theorem J3b {lo : Int} {n : Nat} {g : TG} {tb : TS} {D : Ends} {σ : St} {H : Hp} (Pv : Nat → St → Hp → Prop) (h0 : Pv 0 σ H)
  (hs : ∀ i σ H,i < n → Pv i σ H → g (.int (lo + i)) σ H fun σ2 H2=>tb { D with nx:=Pv (i + 1),ct:=Pv (i + 1),bk:=D.nx } σ2 H2) (hd : ∀ σ H,Pv n σ H → D.nx σ H) :
  ∃ W : Nat → Nat → St → Hp → Prop,(∃ m,W 0 m σ H) ∧ ∀ i m σ H,W i m σ H →
   ((Itr lo n).stop i H ∧ D.nx σ H) ∨ ((Itr lo n).go i H ∧ ∃ N : St → Hp → Prop,(∀ σ' H',N σ' H' → ∃ m',m' < m ∧ W (i + 1) m' σ' H') ∧ ∀ x H',(Itr lo n).yld i H x H' → g x σ H' fun σ2 H2=>tb { D with nx:=N,ct:=N,bk:=D.nx } σ2 H2):=by
 refine ⟨fun i m σ H=>m = n - i ∧ i ≤ n ∧ Pv i σ H,⟨n,by simp,Nat.zero_le _,h0⟩,?_⟩
 rintro i m σ H ⟨rfl,hi,p⟩
 by_cases hlt : i < n
 ·refine .inr ⟨hlt,Pv (i + 1),fun σ' H' p'=>⟨n - (i + 1),by omega,rfl,hlt,p'⟩,fun x H' y=>?_⟩
  obtain ⟨e,y⟩:=y
  subst e y
  exact hs i σ _ hlt p
 ·have e : i = n:=by omega
  subst e
  exact .inl ⟨Nat.le_refl _,hd σ H p⟩
theorem J9F {c : TT} {tb : TS} {D : Ends} {σ : St} {H : Hp} (Pv : St → Hp → Prop) (μ : St → Hp → Nat) (h0 : Pv σ H)
  (hs : ∀ σ H,Pv σ H → c σ H fun b H1=>if b = true then tb { D with nx:=fun σ' H'=>Pv σ' H' ∧ μ σ' H' < μ σ H,ct:=fun σ' H'=>Pv σ' H' ∧ μ σ' H' < μ σ H,bk:=D.nx } σ H1 else D.nx σ H1)
  (mono : ∀ σ H Q Q',(∀ b H1,Q b H1 → Q' b H1) → c σ H Q → c σ H Q') : J9u c tb D σ H:=by
 refine ⟨fun m σ H=>m = μ σ H ∧ Pv σ H,⟨_,rfl,h0⟩,?_⟩
 rintro m σ H ⟨rfl,p⟩
 refine mono σ H _ _ (fun b H1 q=>?_) (hs σ H p)
 cases b with
 | true=>exact ⟨_,fun σ' H' ⟨p',l⟩=>⟨_,l,rfl,p'⟩,q⟩
 | false=>exact q
end L2
namespace L2
open PySem PySem.Spec PyProof.Rows
noncomputable abbrev R2:=V → V → Hp → VK → Prop
noncomputable def OpR (X : Cx) (f : Value → Value → Sem Value) (r : R2) : Prop :=
 ∀ (pins : List (Addr × Obj)) (s : Shared) (σ : St) (H : Hp) (x y : V) (v u : Value) (Q : VK),Inv X pins σ H s → RelV x v → RelV y u → r x y H Q →
  wpAny (model X.prog X.w) X.A (f v u) (EP X pins σ Q) X.xe s
noncomputable def UnR (X : Cx) (f : Value → Sem Value) (r : V → Hp → VK → Prop) : Prop :=
 ∀ (pins : List (Addr × Obj)) (s : Shared) (σ : St) (H : Hp) (x : V) (v : Value) (Q : VK),Inv X pins σ H s → RelV x v → r x H Q →
  wpAny (model X.prog X.w) X.A (f v) (EP X pins σ Q) X.xe s
noncomputable def J1i (X : Cx) (f : Value) (r : List V → Hp → VK → Prop) : Prop :=
 ∀ (pins : List (Addr × Obj)) (s : Shared) (σ : St) (H : Hp) (xs : List V) (us : List Value) (Q : VK),Inv X pins σ H s → Vals xs us → r xs H Q →
  wpAny (model X.prog X.w) X.A (call f us) (EP X pins σ Q) X.xe s
noncomputable def TruR (X : Cx) (r : V → Hp → (Bool → Hp → Prop) → Prop) : Prop :=
 ∀ (pins : List (Addr × Obj)) (s : Shared) (σ : St) (H : Hp) (x : V) (v : Value) (Q : Bool → Hp → Prop),Inv X pins σ H s → RelV x v → r x H Q →
  wpAny (model X.prog X.w) X.A (truthy v) (TP X pins σ Q) X.xe s
noncomputable def tOp (r : R2) (ta tb : TE) : TE:=fun σ H Q=>ta σ H fun x H1=>tb σ H1 fun y H2=>r x y H2 Q
noncomputable def tUn (r : V → Hp → VK → Prop) (ta : TE) : TE:=fun σ H Q=>ta σ H fun x H1=>r x H1 Q
noncomputable def rI (C : Int → Int → Prop) (g : Int → Int → V) : R2:=fun x y H Q=>∃ i j,x = .int i ∧ y = .int j ∧ C i j ∧ Q (g i j) H
noncomputable def rI0 (g : Int → Int → V) : R2:=fun x y H Q=>∃ i j,x = .int i ∧ y = .int j ∧ Q (g i j) H
noncomputable def rU (g : Int → V) : V → Hp → VK → Prop:=fun x H Q=>∃ i,x = .int i ∧ Q (g i) H
section
variable {X : Cx} {a b c : Expr} {ta tb tc : TE} {pos : Pos}
theorem binT (ha : PE X a ta) (hb : PE X b tb) {pins : List (Addr × Obj)} {s : Shared} {σ : St} {H : Hp} {R : V → V → Hp → Prop} (I : Inv X pins σ H s)
  (h : ta σ H fun x H1=>tb σ H1 fun y H2=>R x y H2) {Q : Value → Shared → Prop} {f : Value → Value → Sem Value}
  (hf : ∀ v u s2 x y H2,Inv X pins σ H2 s2 → RelV x v → RelV y u → R x y H2 → wpAny (model X.prog X.w) X.A (f v u) Q X.xe s2) :
  wpAny (model X.prog X.w) X.A (eval a X.env) (fun v s₁=>wpAny (model X.prog X.w) X.A (eval b X.env) (fun u s₂=>wpAny (model X.prog X.w) X.A (f v u) Q X.xe s₂) X.xe s₁) X.xe s:=by
 refine thn (ha pins s σ H _ I h) fun v s1 ⟨x,H1,I1,r1,q1⟩=>?_
 refine thn (hb pins s1 σ H1 _ I1 q1) fun u s2 ⟨y,H2,I2,r2,q2⟩=>?_
 exact hf v u s2 x y H2 I2 r1 r2 q2
theorem Jd {op : Operator} {r : R2} (ho : OpR X (binaryOp op) r) (ha : PE X a ta) (hb : PE X b tb) : PE X (.BinOp a op b pos) (tOp r ta tb):=by
 intro pins s σ H Q I h
 exact wpAny_BinOp (binT ha hb I h fun v u s2 x y H2 I2 rx ry q=>ho pins s2 σ H2 x y v u Q I2 rx ry q)
theorem JaI {op : UnaryOp} {r : V → Hp → VK → Prop} (ho : UnR X (unaryOp op) r) (ha : PE X a ta) : PE X (.UnaryOp op a pos) (tUn r ta):=by
 intro pins s σ H Q I h
 exact UnaryOp_ (thn (ha pins s σ H _ I h) fun v s1 ⟨x,H1,I1,r1,q1⟩=>ho pins s1 σ H1 x v Q I1 r1 q1)
theorem opI {f : Value → Value → Sem Value} {C : Int → Int → Prop} {g : Int → Int → Int}
  (rule : ∀ (i j : Int) (t u : Tok) (s : Shared) (Q : Value → Shared → Prop) (E : Value → Shared → Prop),C i j → Q (.int (g i j) s.toks) { s with toks:=s.toks + 1 } → wpAny (model X.prog X.w) X.A (f (.int i t) (.int j u)) Q E s) :
  OpR X f (rI C fun i j=>.int (g i j)):=by
 intro pins s σ H x y v u Q I rx ry h
 obtain ⟨i,j,rfl,rfl,hc,q⟩:=h
 obtain ⟨t,rfl⟩:=rx
 obtain ⟨t',rfl⟩:=ry
 exact rule i j t t' s _ _ hc ⟨.int (g i j),H,I.tok _,⟨_,rfl⟩,q⟩
theorem opI0 {f : Value → Value → Sem Value} {g : Int → Int → Int}
  (rule : ∀ (i j : Int) (t u : Tok) (s : Shared) (Q : Value → Shared → Prop) (E : Value → Shared → Prop),Q (.int (g i j) s.toks) { s with toks:=s.toks + 1 } → wpAny (model X.prog X.w) X.A (f (.int i t) (.int j u)) Q E s) :
  OpR X f (rI0 fun i j=>.int (g i j)):=by
 intro pins s σ H x y v u Q I rx ry h
 obtain ⟨i,j,rfl,rfl,q⟩:=h
 obtain ⟨t,rfl⟩:=rx
 obtain ⟨t',rfl⟩:=ry
 exact rule i j t t' s _ _ ⟨.int (g i j),H,I.tok _,⟨_,rfl⟩,q⟩
theorem opB0 {f : Value → Value → Sem Value} {g : Int → Int → Bool}
  (rule : ∀ (i j : Int) (t u : Tok) (s : Shared) (Q : Value → Shared → Prop) (E : Value → Shared → Prop),Q (.bool (g i j)) s → wpAny (model X.prog X.w) X.A (f (.int i t) (.int j u)) Q E s) :
  OpR X f (rI0 fun i j=>.bl (g i j)):=by
 intro pins s σ H x y v u Q I rx ry h
 obtain ⟨i,j,rfl,rfl,q⟩:=h
 obtain ⟨t,rfl⟩:=rx
 obtain ⟨t',rfl⟩:=ry
 exact rule i j t t' s _ _ ⟨.bl (g i j),H,I,rfl,q⟩
noncomputable def CDiv (i j : Int) : Prop:=0 < j ∧ j < 1073741824
noncomputable def CMul (i j : Int) : Prop:=(-(2 ^ 64) < i ∧ i < 2 ^ 64) ∨ (-(2 ^ 64) < j ∧ j < 2 ^ 64)
theorem CMul.ok {i j : Int} (h : CMul i j) : IntMulOk i j:=by
 rcases h with ⟨h1,h2⟩ | ⟨h1,h2⟩
 ·exact .of_left (intBits_le_64 h1 h2)
 ·exact .of_right (intBits_le_64 h1 h2)
theorem J7N (k : Nat) : (0 : Int) ≤ 2 ^ k:=by
 rw [two_pow_cast]
 exact Int.natCast_nonneg _
theorem J1b : OpR X (binaryOp .Add) (rI0 fun i j=>.int (i + j)):=opI0 fun _ _ _ _ _ _ _ q=>add_int q
theorem J28 : OpR X (binaryOp .Sub) (rI0 fun i j=>.int (i - j)):=opI0 fun _ _ _ _ _ _ _ q=>sub_int q
theorem J9G : OpR X (binaryOp .Mult) (rI CMul fun i j=>.int (i * j)):=opI fun _ _ _ _ _ _ _ hc q=>mul_int q hc.ok
theorem JG : OpR X (binaryOp .FloorDiv) (rI CDiv fun i j=>.int (i / j)):=opI fun i j _ _ _ _ _ hc q=>by
 have h1 : (0 : Int) < j:=hc.1
 have h2 : j < 1073741824:=hc.2
 exact floordiv_int (by omega) (by rw [Int.fdiv_eq_ediv_of_nonneg i (by omega)]; exact q) (.inl (PyProof.noPylong_small (by omega)))
theorem Jy : OpR X (binaryOp .Mod) (rI (fun _ j=>0 < j) fun i j=>.int (i % j)):=opI fun i j _ _ _ _ _ hc q=>by
 have h1 : (0 : Int) < j:=hc
 exact mod_int' (by omega) (by rw [Int.fmod_eq_emod_of_nonneg i (by omega)]; exact q)
theorem Jbp : OpR X (binaryOp .RShift) (rI (fun _ j=>0 ≤ j) fun i j=>.int (i / 2 ^ j.toNat)):=opI fun i j _ _ _ _ _ hc q =>
 rshift_int hc (by rw [Int.fdiv_eq_ediv_of_nonneg i (J7N _)]; exact q)
theorem Jbb : OpR X (binaryOp .BitAnd) (rI0 fun i j=>.int (Builtin.bitAnd i j)):=opI0 fun _ _ _ _ _ _ _ q=>and_int q
theorem unI {f : Value → Sem Value} {g : Int → Int}
  (rule : ∀ (i : Int) (t : Tok) (s : Shared) (Q : Value → Shared → Prop) (E : Value → Shared → Prop),Q (.int (g i) s.toks) { s with toks:=s.toks + 1 } → wpAny (model X.prog X.w) X.A (f (.int i t)) Q E s) :
  UnR X f (rU fun i=>.int (g i)):=by
 intro pins s σ H x v Q I rx h
 obtain ⟨i,rfl,q⟩:=h
 obtain ⟨t,rfl⟩:=rx
 exact rule i t s _ _ ⟨.int (g i),H,I.tok _,⟨_,rfl⟩,q⟩
theorem J9l : UnR X (unaryOp .USub) (rU fun i=>.int (-i)):=unI fun _ _ _ _ _ q=>neg_int q
end
noncomputable def scal : V → V → Bool
 | .non,.non=>true | .non,.int _=>true | .int _,.non=>true | .non,.bl _=>true | .bl _,.non=>true | .non,.str _=>true | .str _,.non=>true
 | .int _,.int _=>true | .bl _,.bl _=>true | .str _,.str _=>true | .byt _,.byt _=>true
 | .int _,.str _=>true | .str _,.int _=>true | .bl _,.str _=>true | .str _,.bl _=>true
 | _,_=>false
noncomputable def rEq : R2:=fun x y H Q=>scal x y = true ∧ Q (.bl (decide (x = y))) H
noncomputable def rNe : R2:=fun x y H Q=>scal x y = true ∧ Q (.bl (!decide (x = y))) H
theorem J8n {i j : Int} : decide (V.int i = V.int j) = (i == j):=by
 rw [Bool.eq_iff_iff]
 simp
theorem J9K {i j : Bool} : decide (V.bl i = V.bl j) = (i == j):=by
 rw [Bool.eq_iff_iff]
 simp
theorem J8e {i j : Str} : decide (V.str i = V.str j) = (i == j):=by
 rw [Bool.eq_iff_iff]
 simp
theorem J8j {i j : Array UInt8} : decide (V.byt i = V.byt j) = (i.toList == j.toList):=by
 rw [Bool.eq_iff_iff]
 cases i
 cases j
 simp
section
variable {X : Cx} {a b c : Expr} {ta tb tc : TE} {pos : Pos}
theorem JA {pins : List (Addr × Obj)} {σ : St} {H : Hp} {s : Shared} {Q : VK} {k k' : Bool} (I : Inv X pins σ H s) (q : Q (.bl k) H) (e : k = k') : EP X pins σ Q (.bool k') s:=by
 subst e
 exact ⟨.bl k,H,I,rfl,q⟩
theorem J0o : OpR X (compareOp .Eq) rEq:=by
 intro pins s σ H x y v u Q I rx ry h
 obtain ⟨hs,q⟩:=h
 cases x with
 | non =>
  cases rx
  cases y with
  | non=>cases ry; exact PySem.EqNone.eq_none_none (JA I q (by simp))
  | bl j=>cases ry; exact PySem.EqNone.eq_none_bool (JA I q (by simp))
  | int j=>obtain ⟨t',rfl⟩:=ry; exact PySem.EqNone.eq_none_int (JA I q (by simp))
  | str j=>obtain ⟨t',rfl⟩:=ry; exact PySem.EqNone.eq_none_str (JA I q (by simp))
  | _=>exact absurd (show false = true from hs) Bool.false_ne_true
 | bl i =>
  cases rx
  cases y with
  | non=>cases ry; exact PySem.EqNone.eq_bool_none (JA I q (by simp))
  | bl j=>cases ry; exact eq_bool (JA I q J9K)
  | str j=>obtain ⟨t',rfl⟩:=ry; exact PySem.EqMixed.eq_bool_str (JA I q (by simp))
  | _=>exact absurd (show false = true from hs) Bool.false_ne_true
 | int i =>
  obtain ⟨t,rfl⟩:=rx
  cases y with
  | non=>cases ry; exact PySem.EqNone.eq_int_none (JA I q (by simp))
  | int j=>obtain ⟨t',rfl⟩:=ry; exact eq_int (JA I q J8n)
  | str j=>obtain ⟨t',rfl⟩:=ry; exact PySem.EqMixed.eq_int_str (JA I q (by simp))
  | _=>exact absurd (show false = true from hs) Bool.false_ne_true
 | str i =>
  obtain ⟨t,rfl⟩:=rx
  cases y with
  | non=>cases ry; exact PySem.EqNone.eq_str_none (JA I q (by simp))
  | bl j=>cases ry; exact PySem.EqMixed.eq_str_bool (JA I q (by simp))
  | int j=>obtain ⟨t',rfl⟩:=ry; exact PySem.EqMixed.eq_str_int (JA I q (by simp))
  | str j=>obtain ⟨t',rfl⟩:=ry; exact eq_str (JA I q J8e)
  | _=>exact absurd (show false = true from hs) Bool.false_ne_true
 | byt i =>
  obtain ⟨t,rfl⟩:=rx
  cases y with
  | byt j=>obtain ⟨t',rfl⟩:=ry; exact PySem.W.eq_bytes (JA I q J8j)
  | _=>exact absurd (show false = true from hs) Bool.false_ne_true
 | _=>cases y <;> exact absurd (show false = true from hs) Bool.false_ne_true
theorem J4m : OpR X (compareOp .NotEq) rNe:=by
 intro pins s σ H x y v u Q I rx ry h
 obtain ⟨hs,q⟩:=h
 cases x with
 | non =>
  cases rx
  cases y with
  | non=>cases ry; exact PySem.EqNone.ne_none_none (JA I q (by simp))
  | bl j=>cases ry; exact PySem.EqNone.ne_none_bool (JA I q (by simp))
  | int j=>obtain ⟨t',rfl⟩:=ry; exact PySem.EqNone.ne_none_int (JA I q (by simp))
  | str j=>obtain ⟨t',rfl⟩:=ry; exact PySem.EqNone.ne_none_str (JA I q (by simp))
  | _=>exact absurd (show false = true from hs) Bool.false_ne_true
 | bl i =>
  cases rx
  cases y with
  | non=>cases ry; exact PySem.EqNone.ne_bool_none (JA I q (by simp))
  | bl j=>cases ry; exact ne_bool (JA I q (congrArg not J9K))
  | str j=>obtain ⟨t',rfl⟩:=ry; exact PySem.EqMixed.ne_bool_str (JA I q (by simp))
  | _=>exact absurd (show false = true from hs) Bool.false_ne_true
 | int i =>
  obtain ⟨t,rfl⟩:=rx
  cases y with
  | non=>cases ry; exact PySem.EqNone.ne_int_none (JA I q (by simp))
  | int j=>obtain ⟨t',rfl⟩:=ry; exact ne_int (JA I q (congrArg not J8n))
  | str j=>obtain ⟨t',rfl⟩:=ry; exact PySem.EqMixed.ne_int_str (JA I q (by simp))
  | _=>exact absurd (show false = true from hs) Bool.false_ne_true
 | str i =>
  obtain ⟨t,rfl⟩:=rx
  cases y with
  | non=>cases ry; exact PySem.EqNone.ne_str_none (JA I q (by simp))
  | bl j=>cases ry; exact PySem.EqMixed.ne_str_bool (JA I q (by simp))
  | int j=>obtain ⟨t',rfl⟩:=ry; exact PySem.EqMixed.ne_str_int (JA I q (by simp))
  | str j=>obtain ⟨t',rfl⟩:=ry; exact ne_str (JA I q (congrArg not J8e))
  | _=>exact absurd (show false = true from hs) Bool.false_ne_true
 | byt i =>
  obtain ⟨t,rfl⟩:=rx
  cases y with
  | byt j=>obtain ⟨t',rfl⟩:=ry; exact PySem.W.ne_bytes (JA I q (congrArg not J8j))
  | _=>exact absurd (show false = true from hs) Bool.false_ne_true
 | _=>cases y <;> exact absurd (show false = true from hs) Bool.false_ne_true
theorem J3p : OpR X (compareOp .Lt) (rI0 fun i j=>.bl (decide (i < j))):=opB0 fun _ _ _ _ _ _ _ q=>lt_int q
theorem J8f : OpR X (compareOp .Gt) (rI0 fun i j=>.bl (decide (j < i))):=opB0 fun _ _ _ _ _ _ _ q=>gt_int q
theorem J65 : OpR X (compareOp .NotIn) (fun x y H Q=>∃ i j,x = .str i ∧ y = .str j ∧ Q (.bl (!(!(Builtin.Str.occurrences j i 0 j.length 1).isEmpty))) H):=by
 intro pins s σ H x y v u Q I rx ry h
 obtain ⟨i,j,rfl,rfl,q⟩:=h
 obtain ⟨t,rfl⟩:=rx
 obtain ⟨t',rfl⟩:=ry
 exact notIn_str (JA I q rfl)
theorem Jn (b : Expr) {op : CmpOp} (h : op ≠ .In:=by decide) (h2 : op ≠ .NotIn:=by decide) : behindInMarks op b = false:=by
 have e1 : (op == CmpOp.In) = false:=by cases op <;> first | rfl | exact absurd rfl h
 have e2 : (op == CmpOp.NotIn) = false:=by cases op <;> first | rfl | exact absurd rfl h2
 cases b <;> simp [behindInMarks,e1,e2]
theorem J1u {op : CmpOp} {r : R2} (ho : OpR X (compareOp op) r) (ha : PE X a ta) (hb : PE X b tb) (hm : behindInMarks op b = false) : PE X (.Compare a [op] [b] pos) (tOp r ta tb):=by
 intro pins s σ H Q I h
 exact wpAny_Compare1 (binT ha hb I h fun v u s2 x y H2 I2 rx ry q=>ho pins s2 σ H2 x y v u Q I2 rx ry q) hm
noncomputable def JbP (t : TE) : TT:=fun σ H Q=>t σ H fun x H'=>∃ k,x = .bl k ∧ Q k H'
theorem Jl {op : CmpOp} {r : R2} (ho : OpR X (compareOp op) r) (ha : PE X a ta) (hb : PE X b tb) (hm : behindInMarks op b = false) : PT X (.Compare a [op] [b] pos) (JbP (tOp r ta tb)):=by
 intro pins s σ H Q I h
 refine wpAny_isTrue_Compare1 (thn (ha pins s σ H _ I h) fun v s1 ⟨x,H1,I1,r1,q1⟩=>thn (hb pins s1 σ H1 _ I1 q1) fun u s2 ⟨y,H2,I2,r2,q2⟩ =>
  thn (ho pins s2 σ H2 x y v u _ I2 r1 r2 q2) fun c s3 ⟨z,H3,I3,r3,k,e,q3⟩=>?_) hm
 subst e
 cases r3
 exact wpAny_truthy_bool ⟨H3,I3,q3⟩
noncomputable def TruV (K : PySem.W.Frag) (x : V) (H : Hp) (k : Bool) : Prop :=
 match x with
 | .non=>k = false
 | .bl b=>k = b
 | .int i=>k = (i != 0)
 | .str y=>y.length ≤ sizeLine ∧ k = ((y.length : Int) != 0)
 | .byt y=>y.size ≤ sizeLine ∧ k = ((y.size : Int) != 0)
 | .ref p=>(∃ xs,SqL K H p xs ∧ k = !xs.isEmpty) ∨ (∃ xs,SqT K H p xs ∧ k = !xs.isEmpty) ∨ ∃ kvs,H p = some (.dK kvs) ∧ k = !kvs.isEmpty
 | _=>False
theorem J7R {κ : Type} {kvs : List (κ × V)} {vs : List (κ × Value)} (r : KV kvs vs) : (!vs.isEmpty) = !kvs.isEmpty:=by
 cases r <;> rfl
theorem J4k {xs : List V} {its : List Value} (r : Vals xs its) : (!its.toArray.isEmpty) = !xs.isEmpty:=by
 cases r <;> simp
theorem J36 : (sizeLine : Nat) < 2 ^ 63:=by rw [sizeLine_eq]; decide
theorem Jb7 : TruR X (fun x H Q=>∃ k,TruV X.K x H k ∧ Q k H):=by
 intro pins s σ H x v Q I rx h
 obtain ⟨k,e,q⟩:=h
 have hl:=J36
 have hs : sizeLine = 16777216:=sizeLine_eq
 cases x with
 | non =>
  cases rx
  have e' : k = false:=e
  subst e'
  exact truthy_none ⟨H,I,q⟩
 | bl b =>
  cases rx
  have e' : k = b:=e
  subst e'
  exact wpAny_truthy_bool ⟨H,I,q⟩
 | int i =>
  obtain ⟨t,rfl⟩:=rx
  have e' : k = (i != 0):=e
  subst e'
  exact PySem.P.truthy_int ⟨H,I,q⟩
 | str y =>
  obtain ⟨t,rfl⟩:=rx
  obtain ⟨hy,e'⟩ : y.length ≤ sizeLine ∧ k = ((y.length : Int) != 0):=e
  subst e'
  exact PySem.P.truthy_str (by omega) ⟨H,I.tok _,q⟩
 | byt y =>
  obtain ⟨t,rfl⟩:=rx
  obtain ⟨hy,e'⟩ : y.size ≤ sizeLine ∧ k = ((y.size : Int) != 0):=e
  subst e'
  exact PySem.W.truthy_bytes (by omega) ⟨H,I.tok _,q⟩
 | ref p =>
  cases rx
  have e' : (∃ xs,SqL X.K H p xs ∧ k = !xs.isEmpty) ∨ (∃ xs,SqT X.K H p xs ∧ k = !xs.isEmpty) ∨ ∃ kvs,H p = some (.dK kvs) ∧ k = !kvs.isEmpty:=e
  rcases e' with ⟨xs,hx,e'⟩ | ⟨xs,hx,e'⟩ | ⟨kvs,hx,e'⟩
  ·subst e'
   obtain ⟨its,r,pl,hz⟩:=I.list hx
   have hlen:=r.length
   exact wpAny_truthy_list pl.isList (by simp only [List.size_toArray]; omega) ⟨H,I.tok _,by rw [J4k r]; exact q⟩
  ·subst e'
   obtain ⟨its,r,pl,hz⟩:=I.tuple hx
   have hlen:=r.length
   exact truthy_tuple pl (by simp only [List.size_toArray]; omega) ⟨H,I.tok _,by rw [J4k r]; exact q⟩
  ·subst e'
   obtain ⟨hz,hS,vs,r,m⟩ : kvs.length ≤ sizeLine ∧ (p == sysModules) = false ∧ ∃ vs,KV kvs vs ∧ s.heap.DictOf (JZ X.prog X.w) p vs:=I.hok p _ hx
   have hlen : kvs.length = vs.length:=Paired.length r
   exact wpAny_truthy_dict hS m (by omega) ⟨H,I.tok _,by rw [J7R r]; exact q⟩
 | _=>exact (show False from e).elim
theorem J9o (ha : PE X a ta) (he : ∀ whole,isTrue a X.env whole = (do let v ← whole; standAt a.pos; holding [v] (truthy v))) :
  PT X a (fun σ H Q=>ta σ H fun x H'=>∃ k,TruV X.K x H' k ∧ Q k H'):=by
 intro pins s σ H Q I h
 exact isTrue_plain (thn (ha pins s σ H _ I h) fun v s1 ⟨x,H1,I1,r1,q1⟩=>Jb7 pins s1 σ H1 x v Q I1 r1 q1) (he _)
theorem J7K : OpR X (binaryOp .Add) (fun x y H Q=>∃ i j,x = .str i ∧ y = .str j ∧ i.length + j.length ≤ sizeLine ∧ Q (.str (i ++ j)) H):=by
 intro pins s σ H x y v u Q I rx ry h
 obtain ⟨i,j,rfl,rfl,hz,q⟩:=h
 obtain ⟨t,rfl⟩:=rx
 obtain ⟨t',rfl⟩:=ry
 exact add_str (fun t' tk=>⟨.str (i ++ j),H,I.tok _,⟨_,rfl⟩,q⟩) hz
theorem J6x {x : V} {us : List Value} (r : Vals [x] us) : ∃ u,us = [u] ∧ RelV x u:=by
 cases r with
 | cons r1 r2=>cases r2; exact ⟨_,rfl,r1⟩
theorem JbG {x y : V} {us : List Value} (r : Vals [x,y] us) : ∃ u w',us = [u,w'] ∧ RelV x u ∧ RelV y w':=by
 cases r with
 | cons r1 r2 =>
  cases r2 with
  | cons r3 r4=>cases r4; exact ⟨_,_,rfl,r1,r3⟩
theorem J1x (hc : X.calm = true) : J1i X (.builtin "max") (fun xs H Q=>∃ i j,xs = [.int i,.int j] ∧ Q (.int (if j > i then j else i)) H):=by
 intro pins s σ H xs us Q I r h
 obtain ⟨i,j,rfl,q⟩:=h
 obtain ⟨u,w',rfl,⟨t,rfl⟩,⟨t',rfl⟩⟩:=JbG r
 refine max_two_ints (I.ok.hd hc) fun h' tk k=>⟨_,H,I.kept k,?_,q⟩
 by_cases hj : j > i
 ·rw [if_pos hj,if_pos hj]; exact ⟨_,rfl⟩
 ·rw [if_neg hj,if_neg hj]; exact ⟨_,rfl⟩
end
end L2
namespace L2
open PySem PySem.Spec PyProof.Rows
structure ObjM (h : Heap) (x dx C : Addr) (mA : Str → Option Value) : Prop where
 obj : h.get? x = some (PySem.W.instObj C dx)
 ns : h.Ns1 dx mA
 ne : dx ≠ x
theorem J8T {h : Heap} {dx : Addr} {mA : Str → Option Value} (n : h.Ns1 dx mA) : ∃ od,h.get? dx = some od ∧ ∀ name,PySem.W.lookIn name od = some (mA name):=by
 obtain ⟨o,es,ep,ho,hd,hk,_,hm⟩:=n
 refine ⟨o,ho,fun name=>?_⟩
 have e:=hm name
 unfold nsFind findBy at e
 rw [← Array.find?_toList] at e
 unfold PySem.W.lookIn
 rw [hd]
 dsimp only
 split
 ·rename_i y q
  rw [q] at e
  exact congrArg some e
 ·rename_i q
  rw [q] at e
  have a : es.toList.any (·.refKey) = false:=by
   rw [List.any_eq_false]
   intro y hy
   obtain ⟨z,t,hkey⟩:=hk y (Array.mem_toList_iff.mp hy)
   simp [DictEntry.refKey,hkey]
  have a' : ¬ es.toList.any (·.refKey) = true:=by rw [a]; exact Bool.false_ne_true
  rw [if_neg a']
  exact congrArg some e
theorem ObjM.look {h : Heap} {x dx C : Addr} {mA : Str → Option Value} (I : ObjM h x dx C mA) : ∃ od,PySem.W.InstAt h x (PySem.W.instObj C dx) C (some od) ∧ ∀ name,PySem.W.lookIn name od = some (mA name) :=
 let ⟨od,ho,hl⟩:=J8T I.ns
 ⟨od,⟨I.obj,rfl,rfl,ho⟩,hl⟩
section
variable {prog : Program} {w : World} {A : Around} {E : Value → Shared → Prop} {s : Shared} {K : PySem.W.Frag} {x dx C f : Addr} {mA : Str → Option Value} {name : Str} {v : Value}
theorem JaE {expr : Bool} {Q : Value → Shared → Prop} (X : K.In s.heap) (I : ObjM s.heap x dx C mA) (hg : PySem.W.plainGet K C name = true) (hh : PySem.W.hasDictIn K C = true)
  (ha : PySem.W.findIn K (.ref C) name = some none) (hv : mA name = some v) (hv' : PySem.W.handedIn v = true) (h : Q v { s with toks:=s.toks + 1 }) :
  wpAny (model prog w) A (getAttr (.ref x) name expr) Q E s:=by
 obtain ⟨od,J,hl⟩:=I.look
 exact PySem.W.get_value X J (PySem.W.plainGet_of hg).1 (PySem.W.findObj_own hh ha rfl (by rw [hl,hv])) hv' h
theorem J9X {pl : Sem Bool} {Q : Value × List Value → Shared → Prop} (X : K.In s.heap) (I : ObjM s.heap x dx C mA) (hg : PySem.W.plainGet K C name = true)
  (hf : PySem.W.findIn K (.ref C) name = some (some (.ref f))) (ht : PySem.W.isFn K (.ref f) = true) (hv : mA name = none) (h : Q (.ref f,[.ref x]) s) :
  wpAny (model prog w) A (getMethod (.ref x) name pl) Q E s:=by
 obtain ⟨od,J,hl⟩:=I.look
 exact PySem.W.method_fn X J (PySem.W.plainGet_of hg).1 (PySem.W.plainGet_of hg).2 hf (beq_iff_eq.mp ht) (by show (PySem.W.lookIn name od).map (·.isSome) = some false; rw [hl,hv]; rfl) h
theorem Jaf {ns : List Str} {Q : Unit → Shared → Prop} (X : K.In s.heap) (I : ObjM s.heap x dx C mA)
  (hs : PySem.W.findIn K (.ref C) "__setattr__" = some (some (.builtin "object.__setattr__"))) (hp : PySem.W.plainOver K C = true) (ht : PySem.W.takerIn K C name = some none) (hh : PySem.W.hasDictIn K C = true)
  (hw : PySem.Within mA ns) (hsz : ns.length ≤ sizeLine)
  (h : ∀ h',ObjM h' x dx C (fun y=>if y = name then some v else mA y) → Heap.SameBut dx s.heap h' → Q () { s with heap:=h',toks:=s.toks + 2 }) :
  wpAny (model prog w) A (setAttr (.ref x) name v) Q E s:=by
 obtain ⟨od,J,hl⟩:=I.look
 refine PySem.W.set_plain X J hs (PySem.W.osa_open (s:={ s with toks:=s.toks + 1 }) (r:=none) X J hp ht fun b=>?_)
 obtain ⟨cd,hc,hd'⟩:=PySem.W.any_some hh
 have hx : s.heap.get? x = some ⟨.ref C,some dx,.plain,#[]⟩:=I.obj
 refine wpAny_bind (wpAny_pure (wpAny_bind (wpAny_bind (wpAny_loadPart hx (wpAny_bind (PySem.W.Looks.here (s:={ s with toks:=s.toks + 1 }) (PySem.W.looks_clsIn X hc) ?_))))))
 rw [hd']
 refine wpAny_pure (a:=some dx) (wpAny_bind (wpAny_pure (wpAny_bind ?_)))
 refine wpAny_nsSet1 (s:={ s with toks:=s.toks + 1 }) I.ns fun h' hn2 hs2=>?_
 obtain ⟨oD,esD,epD,hoD,hdD,hcD⟩:=hn2.count (PySem.Within.cons name v hw)
 refine wpAny_bind (wpAny_lookBehind hoD (by rw [hdD]; exact pastItsLine_dict (Nat.le_trans hcD (by rw [List.length_cons]; omega))) ?_)
 exact wpAny_pure (h _ ⟨(hs2.2 _ (Ne.symm I.ne)).trans I.obj,hn2,I.ne⟩ hs2)
theorem J9A {R : Result → Shared → Prop} {vs : List Value} {kw : List (Str × Value)} (X : K.In s.heap) (hm : PySem.W.makesIn K C = true)
  (hi : PySem.W.findIn K (.ref C) "__init__" = some (some (.ref f))) (hf : PySem.W.typeIn K (.ref f) = some (.type "function"))
  (h : codeAny (model prog w) (A.under (.builtin "type.__call__" ⟨.ref C :: vs,kw⟩)) (.call (.ref f) ⟨.ref (s.heap.objs.size + 1) :: vs,kw⟩) (PySem.W.InitBack (s.heap.objs.size + 1) R)
   {s with heap:=(s.heap.push PySem.W.emptyDict).push (PySem.W.instObj C s.heap.objs.size) }) :
  codeAny (model prog w) A (.call (.ref C) ⟨vs,kw⟩) R s:=by
 obtain ⟨hh,g,d,t,os⟩:=s
 exact PySem.W.make_core (PySem.W.makes_of X hm) (PySem.W.looks_findIn X hi) (fun self=>PySem.W.bind_fn X self hf) (.inl rfl) h
end
noncomputable def putF (f : Str) (v : V) : List (Str × V) → List (Str × V)
 | []=>[(f,v)]
 | (g,x) :: r=>if g = f then (g,v) :: r else (g,x) :: putF f v r
theorem J3o (f g : Str) (v : V) : ∀ fs : List (Str × V),(putF f v fs).lookup g = if g = f then some v else fs.lookup g
 | []=>by
  show List.lookup g [(f,v)] = _
  by_cases h : g = f
  ·have hb : (g == f) = true:=beq_iff_eq.mpr h
   simp only [List.lookup,hb,if_pos h]
  ·have hb : (g == f) = false:=beq_eq_false_iff_ne.mpr h
   simp only [List.lookup,hb,if_neg h]
 | (k,x) :: r=>by
  have ih:=J3o f g v r
  rw [show putF f v ((k,x) :: r) = (if k = f then (k,v) :: r else (k,x) :: putF f v r) from rfl]
  by_cases hk : k = f
  ·rw [if_pos hk]
   by_cases h : g = k
   ·have hb : (g == k) = true:=beq_iff_eq.mpr h
    simp only [List.lookup,hb,if_pos (h.trans hk)]
   ·have hb : (g == k) = false:=beq_eq_false_iff_ne.mpr h
    simp only [List.lookup,hb,if_neg (fun e : g = f=>h (e.trans hk.symm))]
  ·rw [if_neg hk]
   by_cases h : g = k
   ·have hb : (g == k) = true:=beq_iff_eq.mpr h
    simp only [List.lookup,hb,if_neg (fun e : g = f=>hk (h.symm.trans e))]
   ·have hb : (g == k) = false:=beq_eq_false_iff_ne.mpr h
    simp only [List.lookup,hb]
    exact ih
theorem J3h (f : Str) (v : V) : ∀ fs : List (Str × V),f ∈ (putF f v fs).map (·.1) ∧ ∀ g,g ∈ fs.map (·.1) → g ∈ (putF f v fs).map (·.1)
 | []=>⟨by simp [putF],fun g h=>by simp at h⟩
 | (k,x) :: r=>by
  obtain ⟨i1,i2⟩:=J3h f v r
  rw [show putF f v ((k,x) :: r) = (if k = f then (k,v) :: r else (k,x) :: putF f v r) from rfl]
  by_cases hk : k = f
  ·rw [if_pos hk]
   subst hk
   exact ⟨by simp,fun g h=>by simpa using h⟩
  ·rw [if_neg hk]
   refine ⟨?_,fun g h=>?_⟩
   ·rw [List.map_cons]
    exact List.mem_cons_of_mem _ i1
   ·rw [List.map_cons] at h ⊢
    rcases List.mem_cons.mp h with e | e
    ·exact List.mem_cons.mpr (.inl e)
    ·exact List.mem_cons_of_mem _ (i2 g e)
theorem J0Y (f : Str) (v : V) : ∀ fs : List (Str × V),(putF f v fs).length ≤ fs.length + 1
 | []=>by simp [putF]
 | (k,x) :: r=>by
  have ih:=J0Y f v r
  rw [show putF f v ((k,x) :: r) = (if k = f then (k,v) :: r else (k,x) :: putF f v r) from rfl]
  by_cases hk : k = f
  ·rw [if_pos hk,List.length_cons,List.length_cons]; omega
  ·rw [if_neg hk,List.length_cons,List.length_cons]; omega
theorem RelO.some_of {v : V} {o : Option Value} (r : RelO (some v) o) : ∃ u,o = some u ∧ RelV v u:=by
 cases o with
 | none=>exact (show False from r).elim
 | some u=>exact ⟨u,rfl,r⟩
theorem RelO.none_of {o : Option Value} (r : RelO none o) : o = none:=by
 cases o with
 | none=>rfl
 | some u=>exact (show False from r).elim
theorem J8C {v : V} {u : Value} (r : RelV v u) : PySem.W.handedIn u = true:=by
 cases v with
 | non=>cases (show u = Value.none from r); rfl
 | bl b=>cases (show u = Value.bool b from r); rfl
 | int i=>obtain ⟨t,e⟩:=(show ∃ t,u = Value.int i t from r); cases e; rfl
 | str x=>obtain ⟨t,e⟩:=(show ∃ t,u = Value.str x t from r); cases e; rfl
 | byt b=>obtain ⟨t,e⟩:=(show ∃ t,u = Value.bytes b t from r); cases e; rfl
 | flt b=>obtain ⟨t,e⟩:=(show ∃ t,u = Value.float b t from r); cases e; rfl
 | ref a=>cases (show u = Value.ref a from r); rfl
 | ty n=>cases (show u = Value.type n from r); rfl
section
variable {P : Program} {w : World} {H H' : Hp} {h h' : Heap} {a C dx : Addr} {fs fs' : List (Str × V)}
theorem J5S (hok : HOk P w H h) (e : H a = some (.ins C dx fs)) : ∃ mA,ObjM h a dx C mA ∧ (∀ f,RelO (fs.lookup f) (mA f)) ∧ PySem.Within mA (fs.map (·.1)) ∧ fs.length ≤ 1000 ∧ H dx = some (.own a):=by
 obtain ⟨d,z,ne,ob,mA,n,r,q⟩:=(show J0H P w H h a (.ins C dx fs) from hok a _ e)
 exact ⟨mA,⟨ob,n,ne⟩,r,q,z,d⟩
end
structure Cls (K : PySem.W.Frag) (C : Addr) : Prop where
 pg : PySem.W.plainGet K C Str.empty = true
 hd : PySem.W.hasDictIn K C = true
 po : PySem.W.plainOver K C = true
 sa : PySem.W.findIn K (.ref C) "__setattr__" = some (some (.builtin "object.__setattr__"))
theorem Cls.get {K : PySem.W.Frag} {C : Addr} (c : Cls K C) (f : Str) : PySem.W.plainGet K C f = true:=c.pg
noncomputable def J0c (K : PySem.W.Frag) (C : Addr) (f : Str) : Prop:=PySem.W.findIn K (.ref C) f = some none
theorem J0c.taker {K : PySem.W.Frag} {C : Addr} {f : Str} (n : J0c K C f) : PySem.W.takerIn K C f = some none:=by
 unfold PySem.W.takerIn
 rw [show PySem.W.findIn K (.ref C) f = some none from n]
 rfl
structure Meth (K : PySem.W.Frag) (C : Addr) (m : Str) (f : Addr) : Prop where
 at_ : PySem.W.findIn K (.ref C) m = some (some (.ref f))
 fn : PySem.W.isFn K (.ref f) = true
 kp : PySem.W.keepIn K (.ref f) = true
section
variable {X : Cx} {pins : List (Addr × Obj)} {σ : St} {H : Hp} {s : Shared} {a C dx : Addr} {fs : List (Str × V)} {f : Str} {v : V} {A : Around} {E : Value → Shared → Prop}
theorem J7W {b : Bool} {Q : Value → Shared → Prop} (I : Inv X pins σ H s) (e : H a = some (.ins C dx fs)) (c : Cls X.K C) (n : J0c X.K C f) (l : fs.lookup f = some v)
  (h : ∀ u s',Inv X pins σ H s' → RelV v u → Q u s') : wpAny (model X.prog X.w) A (getAttr (.ref a) f b) Q E s:=by
 obtain ⟨mA,O,r,_,_,_⟩:=J5S I.hok e
 obtain ⟨u,hu,ru⟩:=RelO.some_of (v:=v) (o:=mA f) (by rw [← l]; exact r f)
 exact JaE I.kIn O (c.get f) c.hd n hu (J8C ru) (h u _ (I.tok _) ru)
theorem J47 {m : Str} {g : Addr} {pl : Sem Bool} {Q : Value × List Value → Shared → Prop} (I : Inv X pins σ H s) (e : H a = some (.ins C dx fs)) (c : Cls X.K C) (k : Meth X.K C m g) (l : fs.lookup m = none)
  (h : Q (.ref g,[.ref a]) s) : wpAny (model X.prog X.w) A (getMethod (.ref a) m pl) Q E s:=by
 obtain ⟨mA,O,r,_,_,_⟩:=J5S I.hok e
 have hn : mA m = none:=RelO.none_of (by rw [← l]; exact r m)
 exact J9X I.kIn O (c.get m) k.at_ k.fn hn h
theorem J7I {y : V} {u : Value} {Q : Unit → Shared → Prop} (I : Inv X pins σ H s) (e : H a = some (.ins C dx fs)) (c : Cls X.K C) (n : J0c X.K C f) (hl : fs.length < 1000) (ry : RelV y u)
  (h : ∀ s',Inv X pins σ (upd H a (.ins C dx (putF f y fs))) s' → Q () s') : wpAny (model X.prog X.w) A (setAttr (.ref a) f u) Q E s:=by
 obtain ⟨mA,O,r,wi,_,ho⟩:=J5S I.hok e
 have hz : (fs.map (·.1)).length ≤ sizeLine:=by rw [List.length_map,sizeLine_eq]; omega
 refine Jaf I.kIn O c.sa c.po n.taker c.hd wi hz fun h' O' sb=>h _ ?_
 have hd : ∃ o,h'.get? dx = some o:=let ⟨o,_,_,e',_⟩:=O'.ns; ⟨o,e'⟩
 refine I.write (x:=a) (e:=dx) (by rw [e]; exact True.intro) (.inr ho) (fun b q hb z=>(sb.2 b hb).trans z) hd ?_
 refine ⟨by rw [Jr O.ne]; exact ho,?_,O.ne,O'.obj,_,O'.ns,fun g=>?_,fun g hg=>?_⟩
 ·have:=J0Y f y fs; omega
 ·show RelO ((putF f y fs).lookup g) (if g = f then some u else mA g)
  rw [J3o]
  by_cases q : g = f
  ·rw [if_pos q,if_pos q]; exact ry
  ·rw [if_neg q,if_neg q]; exact r g
 ·by_cases q : g = f
  ·rw [q]; exact (J3h f y fs).1
  ·refine (J3h f y fs).2 g (wi g fun z=>hg ?_)
   show (if g = f then some u else mA g) = none
   rw [if_neg q]; exact z
theorem Inv.made (I : Inv X pins σ H s) : Inv X pins σ (upd (upd H s.heap.objs.size (.own (s.heap.objs.size + 1))) (s.heap.objs.size + 1) (.ins C s.heap.objs.size []))
  {s with heap:=(s.heap.push PySem.W.emptyDict).push (PySem.W.instObj C s.heap.objs.size) }:=by
 have e1 : (s.heap.push PySem.W.emptyDict).get? s.heap.objs.size = some PySem.W.emptyDict:=Heap.get?_push_size s.heap rfl
 have e2 : ((s.heap.push PySem.W.emptyDict).push (PySem.W.instObj C s.heap.objs.size)).get? (s.heap.objs.size + 1) = some (PySem.W.instObj C s.heap.objs.size):=by
  have:=Heap.get?_push_size (s.heap.push PySem.W.emptyDict) (o:=PySem.W.instObj C s.heap.objs.size) rfl
  rwa [Heap.size_push] at this
 have e3 : (s.heap.push PySem.W.emptyDict).Ns s.heap.objs.size (fun _=>none):=⟨PySem.W.emptyDict,#[],_,e1,rfl,(fun e he=>absurd he (by simp)),fun _=>rfl⟩
 have I1:=I.laid (a:=s.heap.objs.size) (o:=.own (s.heap.objs.size + 1)) (h':=s.heap.push PySem.W.emptyDict) (t':=s.toks) (fun b u q=>Heap.get?_push_of_some _ q) (Nat.le_refl _) ⟨_,e1⟩
 refine I1.laid (a:=s.heap.objs.size + 1) (o:=.ins C s.heap.objs.size []) (t':=s.toks) (fun b u q=>Heap.get?_push_of_some _ q) (Nat.le_of_eq (Heap.size_push _ _)) ?_
 have ne : s.heap.objs.size ≠ s.heap.objs.size + 1:=Nat.ne_of_lt (Nat.lt_succ_self _)
 refine ⟨by rw [Jr ne,Jb],Nat.zero_le _,ne,e2,fun _=>none,(Heap.Ns1.of_empty e3).at fun o q=>Heap.get?_push_of_some _ q,fun _=>True.intro,fun y hy=>absurd rfl hy⟩
theorem Jad {prog : Program} {w : World} {env : Env} {e : Expr} {f : Str} {pos : Pos} {s : Shared} {Q : Value → Shared → Prop} (hb : attributeBase e f env (eval e env) = eval e env)
  (h : wpAny (model prog w) A (eval e env) (fun o s₁=>wpAny (model prog w) A (getAttr o f true) Q E s₁) E s) : wpAny (model prog w) A (eval (.Attribute e f pos) env) Q E s :=
 Attribute_any_ h (by rw [arm_eval_Attribute,hb])
end
noncomputable def tFld (K : PySem.W.Frag) (ta : TE) (f : Str) : TE:=fun σ H Q=>ta σ H fun x H1=>∃ a C dx fs v,x = .ref a ∧ H1 a = some (.ins C dx fs) ∧ Cls K C ∧ J0c K C f ∧ fs.lookup f = some v ∧ Q v H1
noncomputable def sFld (K : PySem.W.Frag) (ta tv : TE) (f : Str) : TS:=fun D σ H=>tv σ H fun y H1=>ta σ H1 fun x H2=>∃ a C dx fs,x = .ref a ∧ H2 a = some (.ins C dx fs) ∧ Cls K C ∧ J0c K C f ∧ fs.length < 1000 ∧
 D.nx σ (upd H2 a (.ins C dx (putF f y fs)))
section
variable {X : Cx} {o e value : Expr} {f : Str} {pos pos' tpos : Pos} {ta tv : TE}
theorem Jb5 (he : PE X e ta) (hb : attributeBase e f X.env (eval e X.env) = eval e X.env) : PE X (.Attribute e f pos) (tFld X.K ta f):=by
 intro pins s σ H Q I h
 refine Jad hb (thn (he pins s σ H _ I h) fun u s1 ⟨x,H1,I1,rx,a,C,dx,fs,v,ex,ea,c,n,l,q⟩=>?_)
 subst ex
 obtain rfl : u = Value.ref a:=rx
 exact J7W I1 ea c n l fun u' s2 I2 ru=>⟨v,H1,I2,ru,q⟩
theorem J1m (ha : PE X o ta) (hv : PE X value tv) (hs : swapsWith value (some (.Attribute o f pos')) pos.line X.env = pure false) : PS X (.Assign [.Attribute o f pos'] value pos) (sFld X.K ta tv f):=by
 intro pins s σ H D I h
 refine plainObj_wpAny_Assign_Attribute (thn (hv pins s σ H _ I h) fun u s1 ⟨y,H1,I1,ry,q⟩=>thn (ha pins s1 σ H1 _ I1 q) fun ov s2 ⟨x,H2,I2,rx,a,C,dx,fs,ex,ea,c,n,l,q2⟩=>?_) hs
 subst ex
 obtain rfl : ov = Value.ref a:=rx
 exact J7I I2 ea c n l ry fun s3 I3=>⟨σ,_,I3,q2⟩
end
section
variable {X : Cx} {pins : List (Addr × Obj)} {σ : St} {H : Hp} {s : Shared} {A : Around} {E : Value → Shared → Prop} {Q : Value → Shared → Prop} {c : Value} {b : Bool}
end
end L2
namespace L2
open PySem PySem.Spec PyProof.Rows
structure Room (k : Nat) (A : Around) : Prop where
 hd : A.handled = none
 dp : A.depth + 3 * k + 5 < recursionLimit
 un : A.units + 16 * k + 200 < cLine
theorem Room.mono {j k : Nat} {A : Around} (r : Room k A) (h : j ≤ k) : Room j A:=⟨r.hd,by have:=r.dp; omega,by have:=r.un; omega⟩
theorem Room.deeper {k : Nat} {A : Around} (r : Room (k + 1) A) (env : Env) : Room k (A.deeper env) :=
 ⟨r.hd,by have:=r.dp; show A.depth + 1 + 3 * k + 5 < _; omega,by have:=r.un; show A.units + 3 + 16 * k + 200 < _; omega⟩
theorem J7L {A : Around} {C : Addr} {us : List Value} {kw : List (Str × Value)} : (A.under (.builtin "type.__call__" ⟨.ref C :: us,kw⟩)).depth = A.depth + 1:=by
 first | rfl | simp [Around.under,Code.weight,Code.isCreation,Code.isGuard,Code.isCaller,Code.frames,Code.isFrame,guardIds]
theorem J7O {A : Around} {C : Addr} {us : List Value} {kw : List (Str × Value)} : (A.under (.builtin "type.__call__" ⟨.ref C :: us,kw⟩)).units = A.units + 1:=by
 first | rfl | simp [Around.under,Code.cUnits,Code.frames,Code.isFrame]
theorem Room.make {k : Nat} {A : Around} (r : Room (k + 1) A) (C : Addr) (us : List Value) (kw : List (Str × Value)) : Room k (A.under (.builtin "type.__call__" ⟨.ref C :: us,kw⟩)) :=
 ⟨r.hd,by have:=r.dp; rw [J7L]; omega,by have:=r.un; rw [J7O]; omega⟩
theorem Room.depth {k : Nat} {A : Around} (r : Room k A) : A.depth < recursionLimit:=by have:=r.dp; omega
theorem Room.units {k : Nat} {A : Around} (r : Room k A) : A.units + 64 < cLine:=by have:=r.un; omega
theorem Room.units0 {k : Nat} {A : Around} (r : Room k A) : A.units < cLine:=by have:=r.un; omega
noncomputable def tNil : TA:=fun _ H Q=>Q [] H
noncomputable def JbU (ta : TE) (tr : TA) : TA:=fun σ H Q=>ta σ H fun x H1=>tr σ H1 fun xs H2=>Q (x :: xs) H2
section
variable {X : Cx} {e : Expr} {es : List Expr} {te : TE} {t : TA} {pos : Pos}
theorem J3 : PA X [] tNil:=fun _ _ _ _ H Q I h=>Calls.spliced_nil ⟨[],H,I,.nil,h⟩
theorem J0 (ha : PE X e te) (hr : PA X es t) (hs : starEach (e :: es) X.env = (false,eval e X.env) :: starEach es X.env:=by rfl) : PA X (e :: es) (JbU te t):=by
 intro pos pins s σ H Q I h
 rw [hs]
 show wpAny _ _ (spliced ((false,eval e X.env) :: backTo pos (starEach es X.env))) _ _ s
 refine Calls.spliced_cons (thn (ha pins s σ H _ I h) fun u s1 ⟨x,H1,I1,r1,q1⟩=>?_)
 exact thn (hr pos pins s1 σ H1 _ I1 q1) fun us s2 ⟨xs,H2,I2,r2,q2⟩=>⟨x :: xs,H2,I2,.cons r1 r2,q2⟩
noncomputable def tTup (t : TA) : TE:=fun σ H Q=>t σ H fun xs H1=>xs.length ≤ sizeLine ∧ ∀ p,H1 p = none → Q (.ref p) (upd H1 p (.tup xs))
noncomputable def tLst (t : TA) : TE:=fun σ H Q=>t σ H fun xs H1=>xs.length ≤ sizeLine ∧ ∀ p,H1 p = none → Q (.ref p) (upd H1 p (.lst xs))
theorem J84 {x1} (h : PA X es t) : PE X (.Tuple es x1 pos) (tTup t):=by
 intro pins s σ H Q I hq
 refine wpAny_Tuple_spliced (thn (h pos pins s σ H _ I hq) fun us s1 ⟨xs,H1,I1,r,z,q⟩=>⟨by rw [← r.length]; exact z,?_⟩)
 have hf : H1 s1.heap.objs.size = none:=I1.hok.fresh (Nat.le_refl _)
 refine ⟨.ref s1.heap.objs.size,upd H1 s1.heap.objs.size (.tup xs),I1.laid (t':=s1.toks) (fun b u e=>Heap.get?_push_of_some _ e) (Nat.le_refl _) ?_,rfl,q _ hf⟩
 exact ⟨z,us,r,⟨_,Heap.get?_push_size _ rfl,rfl,_,rfl⟩⟩
theorem J0d (h : PA X es t) : PE X (.List es pos) (tLst t):=by
 intro pins s σ H Q I hq
 refine wpAny_List_spliced (thn (h pos pins s σ H _ I hq) fun us s1 ⟨xs,H1,I1,r,z,q⟩=>⟨by rw [← r.length]; exact z,?_⟩)
 have hf : H1 s1.heap.objs.size = none:=I1.hok.fresh (Nat.le_refl _)
 refine ⟨.ref s1.heap.objs.size,upd H1 s1.heap.objs.size (.lst xs),I1.laid (t':=s1.toks) (fun b u e=>Heap.get?_push_of_some _ e) (Nat.le_refl _) ?_,rfl,q _ hf⟩
 exact ⟨z,us,0,r,Heap.get?_push_size _ rfl⟩
end
noncomputable abbrev Sp:=List V → Hp → VK → XK → Prop
noncomputable abbrev CXT:=List Env → Hp → Shared → XK → Value → Shared → Prop
structure Env0 (P : Program) (w : World) (K : PySem.W.Frag) (mg : Str → Option Value) (base : Heap) (A : Around) (outer : List Env) (s : Shared) (H : Hp) : Prop where
 frames : A.frames = some outer
 mod : Mod K mg base
 bs : ∀ b o,base.get? b = some o → s.heap.get? b = some o ∧ H b = none
 bsz : base.objs.size ≤ s.heap.objs.size
 funs : s.heap.FunFrames base outer
 frf : ∀ b ∈ frs outer,H b = none
 hok : HOk P w H s.heap
 bare : AllBare s.gens
noncomputable def CE (outer : List Env) (P : Program) (w : World) (H : Hp) (s : Shared) (Q : VK) (u : Value) (s' : Shared) : Prop :=
 ∃ v H',s'.os = s.os ∧ AllBare s'.gens ∧ Un (frs outer) [] H H' s.heap s'.heap ∧ HOk P w H' s'.heap ∧ RelV v u ∧ Q v H'
noncomputable def CR (CX : CXT) (outer : List Env) (P : Program) (w : World) (H : Hp) (s : Shared) (Q : VK) (E : XK) (r : Result) (s' : Shared) : Prop :=
 match r with
 | .ok (.ret u)=>CE outer P w H s Q u s'
 | .ok _=>False
 | .error e=>CX outer H s E e s'
structure FnOk (P : Program) (w : World) (K : PySem.W.Frag) (mg : Str → Option Value) (base : Heap) (CX : CXT) (k : Nat) (f : Addr) (fd : FuncData) (ps : List Str) (sp : Sp) : Prop where
 len : ∀ vs H Q E,sp vs H Q E → vs.length = ps.length
 run : ∀ (A : Around) (outer : List Env) (s : Shared) (H : Hp) (args : Args) (us : List Value) (vs : List V) (Q : VK) (E : XK),Room k A → Env0 P w K mg base A outer s H → BindsTo s fd args (ps.zip us) → Vals vs us → sp vs H Q E →
  codeAny (model P w) A (.call (.ref f) args) (CR CX outer P w H s Q E) s
theorem FnOk.mono {P : Program} {w : World} {K : PySem.W.Frag} {mg : Str → Option Value} {base : Heap} {CX : CXT} {j k : Nat} {f : Addr} {fd : FuncData} {ps : List Str} {sp : Sp} (F : FnOk P w K mg base CX j f fd ps sp) (h : j ≤ k) :
  FnOk P w K mg base CX k f fd ps sp:=⟨F.len,fun A outer s H args us vs Q E hr=>F.run A outer s H args us vs Q E (hr.mono h)⟩
theorem FnOk.imp {P : Program} {w : World} {K : PySem.W.Frag} {mg : Str → Option Value} {base : Heap} {CX : CXT} {k : Nat} {f : Addr} {fd : FuncData} {ps : List Str} {sp sp' : Sp} (F : FnOk P w K mg base CX k f fd ps sp)
  (h : ∀ vs H Q E,sp' vs H Q E → sp vs H Q E) : FnOk P w K mg base CX k f fd ps sp' :=
 ⟨fun vs H Q E q=>F.len vs H Q E (h _ _ _ _ q),fun A outer s H args us vs Q E hr he hb hv hs=>F.run A outer s H args us vs Q E hr he hb hv (h _ _ _ _ hs)⟩
theorem Env0.make {P : Program} {w : World} {K : PySem.W.Frag} {mg : Str → Option Value} {base : Heap} {A : Around} {outer : List Env} {s : Shared} {H : Hp} (e : Env0 P w K mg base A outer s H) (C : Addr) (us : List Value) (kw : List (Str × Value)) :
  Env0 P w K mg base (A.under (.builtin "type.__call__" ⟨.ref C :: us,kw⟩)) outer s H:=⟨by first | exact e.frames | (simpa [Around.under,Code.envs,Code.isFrame,pushEnvs] using e.frames),e.mod,e.bs,e.bsz,e.funs,e.frf,e.hok,e.bare⟩
section
variable {X : Cx} {pins : List (Addr × Obj)} {σ : St} {H : Hp} {s s' : Shared}
theorem Inv.env0 (I : Inv X pins σ H s) : Env0 X.prog X.w X.K X.mg X.base X.A X.stack s H :=
 ⟨I.ok.frames,I.ok.mod,I.bs,Nat.le_trans I.ok.bsz I.sz,I.stack,I.stkFree,I.hok,I.bare⟩
theorem Inv.after {Q : VK} {u : Value} (I : Inv X pins σ H s) (h : CE X.stack X.prog X.w H s Q u s') : EP X pins σ Q u s':=by
 obtain ⟨v,H',os,bare,un,hok,r,q⟩:=h
 obtain ⟨hh,g,d,t,os'⟩:=s'
 obtain rfl : os' = s.os:=os
 exact ⟨v,H',I.call (h':=hh) (g':=g) (d':=d) (t':=t) (ch:=[]) un hok bare (fun b z=>absurd z (by simp)),r,q⟩
end
noncomputable def JaO (sp : Sp) (dvs : List V) (E : XK) (t : TA) : TE:=fun σ H Q=>t σ H fun vs H1=>sp (vs ++ dvs) H1 Q E
noncomputable def J2N (K : PySem.W.Frag) (fd : FuncData) (ps : List Str) (ds : List Value) : Prop :=
 ∀ (s : Shared) (us : List Value),K.In s.heap → (us ++ ds).length = ps.length → BindsTo s fd ⟨us,[]⟩ (ps.zip (us ++ ds))
theorem J2N.all {K : PySem.W.Frag} {fd : FuncData} {ps : List Str} (h : ∀ us : List Value,us.length = ps.length → bindArgs fd ⟨us,[]⟩ = pure (ps.zip us)) : J2N K fd ps []:=fun s us _ hl=>by
 rw [List.append_nil] at hl ⊢
 exact .of_eq (h us hl)
noncomputable def J5M (CX : CXT) (X : Cx) (E : XK) : Prop:=∀ (pins : List (Addr × Obj)) (σ : St) (H : Hp) (s : Shared) (e : Value) (s' : Shared),Inv X pins σ H s → CX X.stack H s E e s' → X.xe e s'
section
variable {X : Cx} {CX : CXT} {k : Nat} {f C : Addr} {fd : FuncData} {ps : List Str} {sp : Sp} {dvs : List V} {ds : List Value} {E : XK} {x m : Str} {p pos apos : Pos} {e o : Expr} {es : List Expr} {ta : TE} {t : TA}
theorem J7V {pins : List (Addr × Obj)} {σ : St} {H : Hp} {s : Shared} {Q : VK} {us : List Value} {vs : List V} (F : FnOk X.prog X.w X.K X.mg X.base CX k f fd ps sp) (hr : Room k X.A) (hb : J2N X.K fd ps ds) (hd : Vals dvs ds) (hx : J5M CX X E)
  (I : Inv X pins σ H s) (r : Vals vs us) (h : sp (vs ++ dvs) H Q E) : wpAny (model X.prog X.w) X.A (call (.ref f) us) (EP X pins σ Q) X.xe s:=by
 have r2 : Vals (vs ++ dvs) (us ++ ds):=r.append hd
 have hl : (us ++ ds).length = ps.length:=by rw [← r2.length]; exact F.len _ _ _ _ h
 refine wpAny_call (codeAny_mono (F.run X.A X.stack s H ⟨us,[]⟩ (us ++ ds) (vs ++ dvs) Q E hr I.env0 (hb s us I.kIn hl) r2 h) fun r s' hq=>?_)
 cases r with
 | error e=>exact hx pins σ H s e s' I hq
 | ok fl =>
  cases fl with
  | ret u=>exact I.after hq
  | next=>exact False.elim hq
  | brk=>exact False.elim hq
  | cont=>exact False.elim hq
theorem Jal (F : FnOk X.prog X.w X.K X.mg X.base CX k f fd ps sp) (hr : Room k X.A) (hg : Gl X x) (hm : X.mg x = some (.ref f)) (hk : PySem.W.keepIn X.K (.ref f) = true) (hb : J2N X.K fd ps ds) (hd : Vals dvs ds) (hx : J5M CX X E)
  (ha : PA X (e :: es) t) (hdb : (x == ("__debug__" : Str)) = false:=by decide) (he : starEach (e :: es) X.env = (false,eval e X.env) :: starEach es X.env:=by rfl) (hpl : (backTo pos (starEach es X.env)).any (·.1) = false:=by rfl) :
  PE X (.Call (.Name x p) (e :: es) [] pos) (JaO sp dvs E t):=by
 intro pins s σ H Q I h
 refine wpAny_Call_Name_kw (J5Q I hg hm ?_ hdb)
 refine PySem.W.callWith_K (h₀:=X.base) I.ok.mod.kin hk (thn (ha pos pins s σ H _ I h) fun us s1 ⟨vs,H1,I1,r,q⟩=>⟨I1.kIn,?_⟩) he hpl
 exact J7V F hr hb hd hx I1 r q
structure Mk (K : PySem.W.Frag) (C f : Addr) : Prop where
 makes : PySem.W.makesIn K C = true
 init : PySem.W.findIn K (.ref C) "__init__" = some (some (.ref f))
 fn : PySem.W.isFn K (.ref f) = true
 kp : PySem.W.keepIn K (.ref C) = true
theorem J9R {pins : List (Addr × Obj)} {σ : St} {H : Hp} {s : Shared} {Q : VK} {us : List Value} {vs : List V} (M : Mk X.K C f) (F : FnOk X.prog X.w X.K X.mg X.base CX k f fd ps sp) (hr : Room (k + 1) X.A) (hb : J2N X.K fd ps ds) (hd : Vals dvs ds)
  (hx : J5M CX X E) (I : Inv X pins σ H s) (r : Vals vs us)
  (h : ∀ x dx,H x = none → H dx = none → dx ≠ x → sp (.ref x :: (vs ++ dvs)) (upd (upd H dx (.own x)) x (.ins C dx [])) (fun v H2=>v = .non ∧ Q (.ref x) H2) E) :
  wpAny (model X.prog X.w) X.A (call (.ref C) us) (EP X pins σ Q) X.xe s:=by
 have hq:=h (s.heap.objs.size + 1) s.heap.objs.size (I.hok.fresh (Nat.le_succ _)) (I.hok.fresh (Nat.le_refl _)) (Nat.ne_of_lt (Nat.lt_succ_self _))
 have I2:=Inv.made (C:=C) I
 have r2 : Vals (V.ref (s.heap.objs.size + 1) :: (vs ++ dvs)) (Value.ref (s.heap.objs.size + 1) :: (us ++ ds)):=.cons rfl (r.append hd)
 have hl : (Value.ref (s.heap.objs.size + 1) :: us ++ ds).length = ps.length:=by
  have e:=r2.length
  rw [F.len _ _ _ _ hq] at e
  exact e.symm
 refine wpAny_call (J9A (f:=f) I.kIn M.makes M.init (beq_iff_eq.mp M.fn) (codeAny_mono (F.run _ X.stack _ _ ⟨Value.ref (s.heap.objs.size + 1) :: us,[]⟩ (Value.ref (s.heap.objs.size + 1) :: (us ++ ds)) _ _ E (hr.make C us [])
  (I2.env0.make C us []) (hb _ (Value.ref (s.heap.objs.size + 1) :: us) I2.kIn hl) r2 hq) fun r s' hq'=>?_))
 cases r with
 | error e=>exact hx pins σ _ _ e s' I2 hq'
 | ok fl =>
  cases fl with
  | ret u =>
   obtain ⟨v,H',I3,rv,ev,q3⟩:=I2.after hq'
   subst ev
   exact ⟨rv,⟨V.ref (s.heap.objs.size + 1),H',I3,rfl,q3⟩⟩
  | next=>exact False.elim hq'
  | brk=>exact False.elim hq'
  | cont=>exact False.elim hq'
end
section
variable {X : Cx} {CX : CXT} {k : Nat} {f C : Addr} {fd : FuncData} {ps ks : List Str} {sp : Sp} {E : XK} {x m : Str} {p pos apos kpos : Pos} {e o : Expr} {es : List Expr} {kws : List Keyword} {te ta : TE} {t tk : TA} {nm : Option Str}
variable {g : List Value → List Value → List Value} {gV : List V → List V → List V}
end
structure Jm (N P : List Str) (sc : Scope) : Prop where
 kind : sc.kind = .function
 co : sc.isCoroutine = false
 gen : sc.isGenerator = false
 nd : N.Nodup
 pre : N.take P.length = P
 par : ∀ x ∈ P,sc.names.lookup x = some .local ∨ sc.names.lookup x = some .cell
 nofree : ∀ y ∈ sc.names,y.2 ≠ .free
theorem J56 {kindOf : Str → Option NameKind} {x : Str} : ∀ {binds : List (Str × Value)} {m : Str → Option Value},(∀ v,(x,v) ∉ binds) → bindL kindOf binds m x = m x
 | [],_,_=>rfl
 | (n,v) :: r,m,h=>by
  unfold bindL
  rw [J56 fun w hw=>h w (List.mem_cons_of_mem _ hw)]
  split
  ·have : x ≠ n:=by rintro rfl; exact h v List.mem_cons_self
   simp [this]
  ·rfl
theorem J5d {kindOf : Str → Option NameKind} {x : Str} : ∀ {binds : List (Str × Value)} {m : Str → Option Value},(∀ v,(x,v) ∉ binds) → bindC kindOf binds m x = m x
 | [],_,_=>rfl
 | (n,v) :: r,m,h=>by
  unfold bindC
  rw [J5d fun w hw=>h w (List.mem_cons_of_mem _ hw)]
  split
  ·rfl
  ·have : x ≠ n:=by rintro rfl; exact h v List.mem_cons_self
   simp [this]
theorem J4S {kindOf : Str → Option NameKind} {x : Str} {v : Value} : ∀ {P : List Str} {vs : List Value} {i : Nat} {m : Str → Option Value},P.Nodup → P[i]? = some x → vs[i]? = some v → kindOf x = some .local →
  bindL kindOf (P.zip vs) m x = some v
 | [],_,_,_,_,h,_,_=>by simp at h
 | _ :: _,[],_,_,_,_,h,_=>by simp at h
 | p :: P,w :: vs,0,m,nd,h1,h2,hk=>by
  simp at h1 h2; subst h1; subst h2
  show bindL kindOf ((p,w) :: P.zip vs) m p = _
  unfold bindL
  rw [J56 fun v hv=>(List.nodup_cons.mp nd).1 (List.of_mem_zip hv).1,if_pos hk]
  simp
 | p :: P,w :: vs,i + 1,m,nd,h1,h2,hk=>by
  show bindL kindOf ((p,w) :: P.zip vs) m x = _
  unfold bindL
  exact J4S (i:=i) (List.nodup_cons.mp nd).2 (by simpa using h1) (by simpa using h2) hk
theorem J52 {kindOf : Str → Option NameKind} {x : Str} {v : Value} : ∀ {P : List Str} {vs : List Value} {i : Nat} {m : Str → Option Value},P.Nodup → P[i]? = some x → vs[i]? = some v → kindOf x ≠ some .local →
  bindC kindOf (P.zip vs) m x = some v
 | [],_,_,_,_,h,_,_=>by simp at h
 | _ :: _,[],_,_,_,_,h,_=>by simp at h
 | p :: P,w :: vs,0,m,nd,h1,h2,hk=>by
  simp at h1 h2; subst h1; subst h2
  show bindC kindOf ((p,w) :: P.zip vs) m p = _
  unfold bindC
  rw [J5d fun v hv=>(List.nodup_cons.mp nd).1 (List.of_mem_zip hv).1,if_neg hk]
  simp
 | p :: P,w :: vs,i + 1,m,nd,h1,h2,hk=>by
  show bindC kindOf ((p,w) :: P.zip vs) m x = _
  unfold bindC
  exact J52 (i:=i) (List.nodup_cons.mp nd).2 (by simpa using h1) (by simpa using h2) hk
noncomputable def start (N : List Str) (vs : List V) : St:=vs.map some ++ List.replicate (N.length - vs.length) none
noncomputable def cxOf (CX : CXT) (P : Program) (w : World) (K : PySem.W.Frag) (mg : Str → Option Value) (base : Heap) (N : List Str) (qual : Str) (scope : Scope) (f : Addr) (cd : Value) (A : Around) (outer : List Env) (s : Shared) (H : Hp) (E : XK) : Cx where
 prog:=P
 w:=w
 K:=K
 mg:=mg
 base:=base
 A:=A.deeper (envOfC qual scope s.heap.objs.size f cd)
 N:=N
 s₀:=s
 H₀:=H
 env:=envOfC qual scope s.heap.objs.size f cd
 outer:=outer
 stack:=envOfC qual scope s.heap.objs.size f cd :: outer
 ex:=[]
 calm:=true
 fn:=fun _=>true
 pn:=[]
 xe:=fun e s'=>wpAny (model P w) (A.deeper (envOfC qual scope s.heap.objs.size f cd)) (leaving (envOfC qual scope s.heap.objs.size f cd) e) (fun _ s''=>CX outer H s E e s'') (fun e' s''=>CX outer H s E e' s'') s'
theorem J6N {sc : Scope} {n : Nat} {x : Str} (h : sc.names.lookup x = some .cell) : ∃ c,(cellsFrom n sc.names []).lookup x = some c:=by
 have q:=PySem.W.cellsFrom_some sc.names n [] (.inl h)
 exact Option.isSome_iff_exists.mp q
theorem J95 {CX : CXT} {P : Program} {w : World} {K : PySem.W.Frag} {mg : Str → Option Value} {base : Heap} {N ps : List Str} {qual : Str} {scope : Scope} {f : Addr} {cd : Value} {A : Around} {outer : List Env} {s s1 : Shared} {H : Hp} {E : XK} {us : List Value} {vs : List V}
  (S : Jm N ps scope) (hd : A.handled = none) (e0 : Env0 P w K mg base A outer s H) (hl : vs.length = ps.length) (r : Vals vs us)
  (x : InCallC s s.heap.objs.size (bindL (envOfC qual scope s.heap.objs.size f cd).kindOf (ps.zip us) fun _=>none) (cellsFrom (s.heap.objs.size + 1) scope.names []) (bindC (envOfC qual scope s.heap.objs.size f cd).kindOf (ps.zip us) fun _=>none) s1) :
  Inv (cxOf CX P w K mg base N qual scope f cd A outer s H E) [] (start N vs) H s1:=by
 have hpl : ps.length ≤ N.length:=by have:=congrArg List.length S.pre; rw [List.length_take] at this; omega
 obtain ⟨h1,tk,rfl,hk⟩:=x.done
 have noA : ∀ b : Addr,b ∉ (cxOf CX P w K mg base N qual scope f cd A outer s H E).ex:=fun b z=>absurd (show b ∈ ([] : List Addr) from z) (by simp)
 refine ⟨⟨e0.mod,S.kind,rfl,rfl,Nat.le_refl _,fun y z c h1 h2=>?_,fun y hy=>?_,fun y c _ h=>?_,fun _=>hd,Around.frames_deeper e0.frames,.inr ⟨rfl,rfl⟩,fun b z=>absurd z (noA b),e0.bs,e0.bsz,fun b _ _=>noA b,fun b z=>absurd z (noA b),e0.funs,e0.frf⟩,
  rfl,e0.bare,Un.kept hk,⟨_,x.toInCall.ns,fun i y v h1 h2 h3=>?_⟩,fun y c h=>⟨_,x.cell y c h⟩,e0.hok.fresh (Nat.le_refl _),fun y c h=>?_,fun p hp=>absurd (show p ∈ ([] : List (Addr × Obj)) from hp) (by simp),e0.hok.kept hk,?_⟩
 ·exact name_of_addr x.apart (PySem.mem_of_lookup h1) (PySem.mem_of_lookup h2)
 ·have hy : scope.names.lookup y = some .cell ∨ scope.names.lookup y = some .free:=hy
  rcases hy with hy | hy
  ·exact J6N hy
  ·exact absurd rfl (S.nofree _ (PySem.mem_of_lookup hy))
 ·exact Nat.le_of_lt (x.above y c (PySem.mem_of_lookup h))
 ·have hi : i < vs.length:=by
   unfold start at h2
   by_cases hi : i < vs.length
   ·exact hi
   ·rw [List.getElem?_append_right (by simpa using hi)] at h2
    rw [List.getElem?_replicate] at h2
    split at h2 <;> cases h2
  have ha : vs[i]? = some v:=by
   unfold start at h2
   rw [List.getElem?_append_left (by simpa using hi),List.getElem?_map] at h2
   cases e : vs[i]? with
   | none=>rw [e] at h2; cases h2
   | some a=>rw [e] at h2; cases h2; rfl
  obtain ⟨u,hu,rv⟩:=r.get ha
  have hp : ps[i]? = some y:=by
   rw [← S.pre,List.getElem?_take_of_lt (by omega)]; exact h1
  have ndP : ps.Nodup:=by rw [← S.pre]; exact S.nd.sublist (List.take_sublist _ _)
  refine ⟨u,rv,?_⟩
  rcases S.par y (List.mem_of_getElem? hp) with k | k
  ·exact .inl ⟨k,J4S ndP hp hu k⟩
  ·obtain ⟨c,e⟩:=J6N (n:=s.heap.objs.size + 1) k
   refine .inr ⟨.inl k,c,e,?_⟩
   have q:=x.cell y c e
   rw [J52 ndP hp hu (by show scope.names.lookup y ≠ _; rw [k]; decide)] at q
   exact q
 ·exact e0.hok.fresh (Nat.le_of_lt (x.above y c (PySem.mem_of_lookup h)))
 ·unfold start
  show _ = N.length
  rw [List.length_append,List.length_map,List.length_replicate]
  omega
theorem JbH {CX : CXT} {P : Program} {w : World} {K : PySem.W.Frag} {mg : Str → Option Value} {base : Heap} {k : Nat} {f : Addr} {name qual : Str} {params : Arguments} {body : List Stmt} {scope : Scope} {dV kV doc pm cdv ct oc : Value} {an od : Option Addr}
  {osl : Array (Option Value)} {N ps : List Str} {sp : Sp} (lk : K.lookup f = some ⟨oc,od,.func (PySem.W.fnOf name qual params body scope dV kV doc pm an cdv ct),osl⟩) (hcd : PySem.W.codeIn K cdv qual = true) (S : Jm N ps scope)
  (len : ∀ vs H Q E,sp vs H Q E → vs.length = ps.length)
  (hbody : ∀ (A : Around) (outer : List Env) (s : Shared) (H : Hp) (vs : List V) (Q : VK) (E : XK),Room k (A.deeper (envOfC qual scope s.heap.objs.size f cdv)) → sp vs H Q E →
   ∃ t,PSs (cxOf CX P w K mg base N qual scope f cdv A outer s H E) body t ∧ t { nx:=fun _ H'=>Q .non H',rt:=Q } (start N vs) H) :
  FnOk P w K mg base CX (k + 1) f (PySem.W.fnOf name qual params body scope dV kV doc pm an cdv ct) ps sp:=by
 refine ⟨len,fun A outer s H args us vs Q E hr e0 hb r hsp=>?_⟩
 have hl:=len _ _ _ _ hsp
 have KX : K.In s.heap:=e0.mod.kin.keeps fun b o e=>(e0.bs b o e).1
 have lim : s.heap.NoLimit:=e0.mod.nolimit.keeps fun b o e=>(e0.bs b o e).1
 have hkind : ∀ y ∈ ps.zip us,scope.names.lookup y.1 = some .local ∨ (scope.names.lookup y.1 = some .cell ∧ ((cellsFrom (s.heap.objs.size + 1) scope.names []).lookup y.1).isSome = true):=fun ⟨n,v⟩ hy=>by
  rcases S.par n (List.of_mem_zip hy).1 with q | q
  ·exact .inl q
  ·exact .inr ⟨q,PySem.W.cellsFrom_some _ _ _ (.inl q)⟩
 refine codeAny_call_function hr.depth (KX _ _ lk) rfl S.co S.gen rfl (PySem.W.codeRec_of KX hcd) (hb _ _ _ _ ?_)
 refine wpAny_newFunctionEnv_cells S.kind hkind fun env he s1 x=>?_
 subst he
 refine ⟨lim.keeps x.toInCall.keep,codeAny_func ?_⟩
 obtain ⟨t,ht,hq⟩:=hbody A outer s H vs Q E (hr.deeper _) hsp
 have I : Inv (cxOf CX P w K mg base N qual scope f cdv A outer s H E) [] (start N vs) H s1:=J95 S hr.hd e0 hl r x
 refine wpAny_mono (ht [] s1 (start N vs) H _ I hq) (fun fl s' hs=>?_) fun e s' hs=>hs
 have fin : ∀ {σ' : St} {H' : Hp} {v : V} {u : Value},Inv (cxOf CX P w K mg base N qual scope f cdv A outer s H E) [] σ' H' s' → RelV v u → Q v H' → CE outer P w H s Q u s' :=
  fun {σ' H' v u} J rv q=>⟨v,H',J.os,J.bare,J.base,J.hok,rv,q⟩
 cases fl with
 | ret u =>
  obtain ⟨v,σ',H',J,rv,q⟩:=hs
  exact fin J rv q
 | next =>
  obtain ⟨σ',H',J,q⟩:=hs
  exact fin (v:=V.non) (u:=Value.none) J rfl q
 | brk =>
  obtain ⟨_,_,_,q⟩:=hs
  exact False.elim q
 | cont =>
  obtain ⟨_,_,_,q⟩:=hs
  exact False.elim q
end L2
namespace L2
open PySem PySem.Spec PyProof.Rows
section
variable {X : Cx} {x : Str} {p pos : Pos} {e : Expr} {es : List Expr} {t : TA} {id T : String} {r : List V → Hp → VK → Prop}
noncomputable def tCB (r : List V → Hp → VK → Prop) (t : TA) : TE:=fun σ H Q=>t σ H fun vs H1=>r vs H1 Q
theorem Jf (hc : J1i X (.builtin id) r) (hg : Gl X x) (hm : X.mg x = none) (hv : bootBuiltins x = some (.builtin id)) (ha : PA X (e :: es) t) (hn : x ≠ "__name__":=by decide) (hdb : (x == ("__debug__" : Str)) = false:=by decide)
  (he : starEach (e :: es) X.env = (false,eval e X.env) :: starEach es X.env:=by rfl) (hpl : (backTo pos (starEach es X.env)).any (·.1) = false:=by rfl) : PE X (.Call (.Name x p) (e :: es) [] pos) (tCB r t):=by
 intro pins s σ H Q I h
 refine wpAny_Call_Name_kw (J3f I hg hm hv ?_ hn hdb)
 exact PyProof.Rows.callWith_builtin1 (thn (ha pos pins s σ H _ I h) fun us s1 ⟨vs,H1,I1,r1,q1⟩=>hc pins s1 σ H1 vs us Q I1 r1 q1) he hpl
theorem J91 (hc : J1i X (.type T) r) (hg : Gl X x) (hm : X.mg x = none) (hv : bootBuiltins x = some (.type T)) (ha : PA X (e :: es) t) (hn : x ≠ "__name__":=by decide) (hdb : (x == ("__debug__" : Str)) = false:=by decide)
  (he : starEach (e :: es) X.env = (false,eval e X.env) :: starEach es X.env:=by rfl) (hpl : (backTo pos (starEach es X.env)).any (·.1) = false:=by rfl) : PE X (.Call (.Name x p) (e :: es) [] pos) (tCB r t):=by
 intro pins s σ H Q I h
 refine wpAny_Call_Name_kw (J3f I hg hm hv ?_ hn hdb)
 exact PyProof.Rows.callWith_type1 (thn (ha pos pins s σ H _ I h) fun us s1 ⟨vs,H1,I1,r1,q1⟩=>hc pins s1 σ H1 vs us Q I1 r1 q1) he hpl
end
end L2
namespace HT
open PySem PyProof.Rows
section
open PySem.SeqAt
open PySem.AutoSeq1 (wpAny_loadPart')
open PySem.MeetsSeq PySem.MeetsSeq2 PySem.MeetsSeq3
end
section
variable {prog : Program} {w : World} {A : Around} {E : Value → Shared → Prop} {s : Shared}
noncomputable def sIx (n d : Nat) : Option Int → Nat
 | none=>d
 | some v=>if v < 0 then (v + (n : Int)).toNat else min v.toNat n
theorem sIx_none (n d : Nat) : sIx n d none = d:=rfl
theorem sIx_le (n d : Nat) (hd : d ≤ n) (o : Option Int) : sIx n d o ≤ n:=by
 cases o with
 | none=>exact hd
 | some v =>
  show (if v < 0 then (v + (n : Int)).toNat else min v.toNat n) ≤ n
  by_cases hv : v < 0
  ·rw [if_pos hv]; omega
  ·rw [if_neg hv]; exact Nat.min_le_right _ _
end
end HT
namespace L2
open PySem PySem.Spec PyProof.Rows
noncomputable abbrev TO:=St → Hp → (Option Int → Hp → Prop) → Prop
noncomputable def PO (X : Cx) (e : Option Expr) (t : TO) : Prop :=
 ∀ (pins : List (Addr × Obj)) (s : Shared) (σ : St) (H : Hp) (Q : Option Int → Hp → Prop),Inv X pins σ H s → t σ H Q →
  wpAny (model X.prog X.w) X.A (evalPart e X.env) (fun u s'=>∃ o H',Inv X pins σ H' s' ∧ IsPart u o ∧ Q o H') X.xe s
noncomputable def Jaz : TO:=fun _ H Q=>Q none H
noncomputable def Jbx (t : TE) : TO:=fun σ H Q=>t σ H fun x H1=>∃ i,x = .int i ∧ Q (some i) H1
section
variable {X : Cx} {e : Expr} {te : TE} {lo hi : Option Expr} {tl th : TO} {pos p2 : Pos}
theorem J5Y : PO X none Jaz:=by
 intro pins s σ H Q I h
 rw [evalPart_none]
 exact wpAny_pure ⟨none,H,I,.none,h⟩
theorem J1s (h : PE X e te) : PO X (some e) (Jbx te):=by
 intro pins s σ H Q I hw
 rw [evalPart_some]
 refine thn (h pins s σ H _ I hw) fun u s1 ⟨x,H1,I1,r1,q1⟩=>?_
 obtain ⟨i,rfl,q⟩:=q1
 obtain ⟨t,rfl⟩:=r1
 exact ⟨some i,H1,I1,.int i t,q⟩
noncomputable def SlR (X : Cx) (r : V → Option Int → Option Int → Hp → VK → Prop) : Prop :=
 ∀ (pins : List (Addr × Obj)) (s : Shared) (σ : St) (H : Hp) (x : V) (v vl vu : Value) (lo hi : Option Int) (sl : Addr) (Q : VK),Inv X pins σ H s → RelV x v → s.heap.IsSliceOf sl vl vu .none → IsPart vl lo → IsPart vu hi → r x lo hi H Q →
  ∃ T id,typeLookup (.type T) "__getitem__" = pure (some (.builtin id)) ∧ s.TypeIs v T ∧ wpAny (model X.prog X.w) X.A (getItem v (.ref sl)) (EP X pins σ Q) X.xe s
noncomputable def tSl (r : V → Option Int → Option Int → Hp → VK → Prop) (te : TE) (tl th : TO) : TE:=fun σ H Q=>te σ H fun x H1=>tl σ H1 fun l H2=>th σ H2 fun u H3=>r x l u H3 Q
theorem J1O {r : V → Option Int → Option Int → Hp → VK → Prop} (hr : SlR X r) (he : PE X e te) (hl : PO X lo tl) (hu : PO X hi th) : PE X (.Subscript e (.Slice lo hi none p2) pos) (tSl r te tl th):=by
 intro pins s σ H Q I h
 refine Subscript_ (thn (he pins s σ H _ I h) fun v s1 ⟨x,H1,I1,r1,q1⟩=>?_)
 refine wpAny_Slice (thn (hl pins s1 σ H1 _ I1 q1) fun vl s2 ⟨l,H2,I2,pl,q2⟩=>thn (hu pins s2 σ H2 _ I2 q2) fun vu s3 ⟨u,H3,I3,pu,q3⟩=>?_)
 rw [evalPart_none]
 refine wpAny_pure ?_
 have I4 : Inv X pins σ H3 { s3 with heap:=s3.heap.push { cls:=.type "slice",data:=.fields #[vl,vu,.none] } }:=I3.kept (t':=s3.toks) fun b ob q=>Heap.get?_push_of_some _ q
 obtain ⟨T,id,hT,ht,hg⟩:=hr pins { s3 with heap:=s3.heap.push { cls:=.type "slice",data:=.fields #[vl,vu,.none] } } σ H3 x v vl vu l u s3.heap.objs.size Q I4 r1 (Heap.IsSliceOf.new ..) pl pu q3
 show wpAny (model X.prog X.w) X.A (subscriptTail e (.Slice lo hi none p2) v (.ref s3.heap.objs.size)) (EP X pins σ Q) X.xe { s3 with heap:=s3.heap.push { cls:=.type "slice",data:=.fields #[vl,vu,.none] } }
 exact tail_any (ops:=[.ref s3.heap.objs.size,v]) ht hT hg (by with_unfolding_all rfl)
noncomputable def cutV (xs : List V) (lo hi : Option Int) : List V:=(xs.drop (HT.sIx xs.length 0 lo)).take (HT.sIx xs.length xs.length hi - HT.sIx xs.length 0 lo)
theorem J7g (xs : List V) (lo hi : Option Int) : (cutV xs lo hi).length ≤ xs.length:=by
 unfold cutV
 rw [List.length_take,List.length_drop]
 omega
end
end L2
namespace L2
open PySem PySem.Spec PyProof.Rows
noncomputable def ixN (n : Nat) (i : Int) : Option Nat:=if 0 ≤ i then (if i < n then some i.toNat else none) else if -(n : Int) ≤ i then some (i + n).toNat else none
noncomputable def atI {α : Type} (xs : List α) (i : Int) : Option α:=(ixN xs.length i).bind fun j=>xs[j]?
theorem JaA {n : Nat} {i : Int} {j : Nat} (h : ixN n i = some j) : seqIndex? i n = some j ∧ j < n ∧ -(n : Int) ≤ i ∧ i < n:=by
 unfold ixN at h
 by_cases h0 : 0 ≤ i
 ·rw [if_pos h0] at h
  by_cases h1 : i < n
  ·rw [if_pos h1] at h
   have e : i.toNat = j:=Option.some.inj h
   exact ⟨by rw [seqIndex_of h0 h1,e],by omega,by omega,h1⟩
  ·rw [if_neg h1] at h; cases h
 ·rw [if_neg h0] at h
  by_cases h1 : -(n : Int) ≤ i
  ·rw [if_pos h1] at h
   have e : (i + n).toNat = j:=Option.some.inj h
   exact ⟨by rw [seqIndex_neg (by omega) h1,e],by omega,h1,by omega⟩
  ·rw [if_neg h1] at h; cases h
theorem J5L {α : Type} {xs : List α} {i : Int} {v : α} (h : atI xs i = some v) : ∃ j,seqIndex? i xs.length = some j ∧ xs[j]? = some v ∧ j < xs.length ∧ -(xs.length : Int) ≤ i ∧ i < xs.length:=by
 unfold atI at h
 cases e : ixN xs.length i with
 | none=>rw [e] at h; cases h
 | some j =>
  rw [e] at h
  obtain ⟨h1,h2,h3,h4⟩:=JaA e
  exact ⟨j,h1,h,h2,h3,h4⟩
theorem J3x {α : Type} {xs : List α} {j : Nat} {v : α} (h : xs[j]? = some v) : atI xs (j : Int) = some v:=by
 have hj : j < xs.length:=(List.getElem?_eq_some_iff.mp h).1
 have e : ixN xs.length (j : Int) = some j:=by
  unfold ixN
  rw [if_pos (by omega),if_pos (by omega)]; simp
 unfold atI; rw [e]; exact h
theorem J9Y {α : Type} (xs : List α) (v : α) : atI (xs ++ [v]) (-1) = some v:=by
 have hl : (xs ++ [v]).length = xs.length + 1:=by simp
 have e : ixN (xs ++ [v]).length (-1) = some xs.length:=by
  unfold ixN
  rw [hl,if_neg (by decide),if_pos (by omega)]
  congr 1
  omega
 unfold atI
 rw [e]
 show (xs ++ [v])[xs.length]? = some v
 simp
noncomputable def Jar (b : Expr) : Prop:=∀ o i,subscripted b false o i = operate [o,i] (getItem o i)
noncomputable def IxR (X : Cx) (r : R2) : Prop :=
 ∀ (value slice : Expr) (pins : List (Addr × Obj)) (s : Shared) (σ : St) (H : Hp) (x y : V) (v u : Value) (Q : VK),Inv X pins σ H s → RelV x v → RelV y u → r x y H Q →
  subscripted slice false v u = operate [v,u] (getItem v u) → wpAny (model X.prog X.w) X.A (subscriptTail value slice v u) (EP X pins σ Q) X.xe s
noncomputable def MtR (X : Cx) (id : String) (r : V → List V → Hp → VK → Prop) : Prop :=
 ∀ (pins : List (Addr × Obj)) (s : Shared) (σ : St) (H : Hp) (x : V) (xs : List V) (v : Value) (us : List Value) (Q : VK),Inv X pins σ H s → RelV x v → Vals xs us → r x xs H Q →
  wpAny (model X.prog X.w) X.A (call (.builtin id) (v :: us)) (EP X pins σ Q) X.xe s
section
variable {X : Cx} {a b : Expr} {ta tb : TE} {pos : Pos}
theorem JI {r : R2} (hr : IxR X r) (ha : PE X a ta) (hb : PE X b tb) (hs : Jar b) : PE X (.Subscript a b pos) (tOp r ta tb):=by
 intro pins s σ H Q I h
 exact Subscript_ (binT ha hb I h fun v u s2 x y H2 I2 rx ry q=>hr a b pins s2 σ H2 x y v u Q I2 rx ry q (hs _ _))
noncomputable def rIxL (K : PySem.W.Frag) : R2:=fun x y H Q=>∃ p xs i v,x = .ref p ∧ y = .int i ∧ SqL K H p xs ∧ atI xs i = some v ∧ Q v H
noncomputable def rIxT (K : PySem.W.Frag) : R2:=fun x y H Q=>∃ p xs i v,x = .ref p ∧ y = .int i ∧ SqT K H p xs ∧ atI xs i = some v ∧ Q v H
noncomputable def rIxS : R2:=fun x y H Q=>∃ z i c,x = .str z ∧ y = .int i ∧ z.length ≤ sizeLine ∧ atI z.cps.toList i = some c ∧ Q (.str ⟨#[c]⟩) H
theorem Jag : IxR X (rIxL X.K):=by
 intro value slice pins s σ H x y v u Q I rx ry h hs
 obtain ⟨p,xs,i,z,rfl,rfl,hq,he,q⟩:=h
 cases rx
 obtain ⟨t,rfl⟩:=ry
 obtain ⟨its,r,pl,hz⟩:=I.list hq
 obtain ⟨j,h1,h2,h3,h4,h5⟩:=J5L he
 obtain ⟨w,ew,rw'⟩:=r.get h2
 have hl:=r.length
 have hn:=J36
 have fin : EP X pins σ Q w s:=⟨z,H,I,rw',q⟩
 by_cases h0 : 0 ≤ i
 ·have hj : i.toNat = j:=by
   rw [seqIndex_of h0 h5] at h1
   exact Option.some.inj h1
  exact item_listR pl.isList h0 (by omega) (by rw [hj]; simpa using ew) fin hs
 ·have hj : (i + (its.toArray.size : Int)).toNat = j:=by
   rw [seqIndex_neg (by omega) h4] at h1
   rw [List.size_toArray,← hl]
   exact Option.some.inj h1
  exact subscriptTail_builtinR (x:=w) pl.isList.typeIs slot_list_getitem.lookup
   (wpAny_getItem_list_neg (Q:=fun r s'=>r = w ∧ EP X pins σ Q r s') pl.isList (by omega) (by rw [List.size_toArray] <;> omega) (by omega) (by rw [hj]; simpa using ew) ⟨rfl,fin⟩) hs
theorem JaX : IxR X (rIxT X.K):=by
 intro value slice pins s σ H x y v u Q I rx ry h hs
 obtain ⟨p,xs,i,z,rfl,rfl,hq,he,q⟩:=h
 cases rx
 obtain ⟨t,rfl⟩:=ry
 obtain ⟨its,r,pl,hz⟩:=I.tuple hq
 obtain ⟨j,h1,h2,h3,h4,h5⟩:=J5L he
 obtain ⟨w,ew,rw'⟩:=r.get h2
 have hl:=r.length
 have hn:=J36
 have fin : EP X pins σ Q w s:=⟨z,H,I,rw',q⟩
 exact subscriptTail_builtinR (x:=w) pl.typeIs slot_tuple_getitem.lookup
  (getItem_tuple (j:=j) (Q:=fun r s'=>r = w ∧ EP X pins σ Q r s') pl (by omega) (by omega) (by rw [List.size_toArray,← hl]; exact h1) (by simpa using ew) ⟨rfl,fin⟩) hs
theorem Jbf : IxR X rIxS:=by
 intro value slice pins s σ H x y v u Q I rx ry h hs
 obtain ⟨z,i,c,rfl,rfl,hz,he,q⟩:=h
 obtain ⟨t,rfl⟩:=rx
 obtain ⟨t',rfl⟩:=ry
 obtain ⟨j,h1,h2,h3,h4,h5⟩:=J5L he
 have hl : z.cps.toList.length = z.length:=by simp [Str.length]
 rw [hl] at h1 h4 h5
 have hn:=J36
 exact tail_any (typeIs_str s z t) slot_str_getitem.lookup (getItem_str (c:=c) (by
  have e1 : decide (i < -(2 ^ 63 : Int)) = false:=decide_eq_false (by omega)
  have e2 : decide (i ≥ 2 ^ 63) = false:=decide_eq_false (by omega)
  rw [e1,e2,Bool.or_false]) (by rw [h1]; simpa using h2) ⟨.str ⟨#[c]⟩,H,I.tok _,⟨_,rfl⟩,q⟩) hs
theorem J61 (lo hi : Option Int) (n : Nat) : (sliceBounds lo hi none n).1 = ((HT.sIx n 0 lo : Nat) : Int) ∧ (sliceBounds lo hi none n).2.1 = ((HT.sIx n n hi : Nat) : Int) ∧ (sliceBounds lo hi none n).2.2 = 1:=by
 refine ⟨?_,?_,rfl⟩
 ·cases lo with
  | none=>simp [sliceBounds,HT.sIx]
  | some i =>
   simp only [sliceBounds,HT.sIx,Option.getD_none,show (1 : Int) > 0 by decide,if_true]
   by_cases h : i < 0
   ·simp only [h,if_true] <;> omega
   ·simp only [h,if_false] <;> omega
 ·cases hi with
  | none=>simp [sliceBounds,HT.sIx]
  | some i =>
   simp only [sliceBounds,HT.sIx,Option.getD_none,show (1 : Int) > 0 by decide,if_true]
   by_cases h : i < 0
   ·simp only [h,if_true] <;> omega
   ·simp only [h,if_false] <;> omega
theorem J4I (its : List Value) (lo hi : Option Int) : slicePick its.toArray lo hi none = ((its.drop (HT.sIx its.length 0 lo)).take (HT.sIx its.length its.length hi - HT.sIx its.length 0 lo)).toArray:=by
 obtain ⟨h1,h2,h3⟩:=J61 lo hi its.toArray.size
 unfold slicePick
 rw [h1,h2,h3]
 simp only [sliceRange_one,pick_run,List.size_toArray] <;> rfl
noncomputable def rSlL (K : PySem.W.Frag) : V → Option Int → Option Int → Hp → VK → Prop:=fun x lo hi H Q=>∃ a xs,x = .ref a ∧ SqL K H a xs ∧ ∀ p,H p = none → Q (.ref p) (upd H p (.lst (cutV xs lo hi)))
theorem Jaw : SlR X (rSlL X.K):=by
 intro pins s σ H x v vl vu lo hi sl Q I rx hs pl pu h
 obtain ⟨a,xs,rfl,hx,q⟩:=h
 cases rx
 obtain ⟨its,r,ht,hz⟩:=I.list hx
 have hlen:=r.length
 refine ⟨"list",_,slot_list_getitem.lookup,ht.isList.typeIs,?_⟩
 refine wpAny_getItem_list_slice ht.isList hs pl pu .none (by simp) ?_ (by rw [List.size_toArray] <;> omega)
 rw [J4I,← hlen]
 refine ⟨.ref s.heap.objs.size,_,I.laid (t':=s.toks) (o:=.lst (cutV xs lo hi)) (fun b ob q=>Heap.get?_push_of_some _ q) (Nat.le_refl _) ?_,rfl,q _ (I.hok.fresh (Nat.le_refl _))⟩
 exact ⟨Nat.le_trans (J7g xs lo hi) hz,_,0,(r.drop (HT.sIx xs.length 0 lo)).take (HT.sIx xs.length xs.length hi - HT.sIx xs.length 0 lo),Heap.get?_push_size _ rfl⟩
noncomputable def J1h : V → Bool
 | .non=>true
 | .bl _=>true
 | .int _=>true
 | .str _=>true
 | _=>false
noncomputable def eqV : V → V → Bool
 | .non,.non=>true
 | .bl a,.bl b=>a == b
 | .bl a,.int b=>(if a then 1 else 0) == b
 | .int a,.bl b=>a == (if b then 1 else 0)
 | .int a,.int b=>a == b
 | .str a,.str b=>a == b
 | _,_=>false
theorem Jbe {A : Around} {s : Shared} {y x : V} {u v : Value} (ry : RelV y u) (rx : RelV x v) (fy : J1h y = true) (fx : J1h x = true) : SeqAt.EqAt A s u v (eqV y x):=by
 cases y with
 | non =>
  cases ry
  cases x with
  | non=>cases rx; exact SeqAt.EqAt.same _
  | bl b=>cases rx; exact SeqAt.EqAt.none_bool b
  | int b=>obtain ⟨t,rfl⟩:=rx; exact SeqAt.EqAt.none_int b t
  | str b=>obtain ⟨t,rfl⟩:=rx; exact SeqAt.EqAt.none_str b t
  | _=>exact absurd (show false = true from fx) Bool.false_ne_true
 | bl a =>
  cases ry
  cases x with
  | non=>cases rx; exact SeqAt.EqAt.bool_none a
  | bl b=>cases rx; exact SeqAt.EqAt.bool_bool a b
  | int b=>obtain ⟨t,rfl⟩:=rx; exact SeqAt.EqAt.bool_int a b t
  | str b=>obtain ⟨t,rfl⟩:=rx; exact SeqAt.EqAt.bool_str a b t
  | _=>exact absurd (show false = true from fx) Bool.false_ne_true
 | int a =>
  obtain ⟨t',rfl⟩:=ry
  cases x with
  | non=>cases rx; exact SeqAt.EqAt.int_none a t'
  | bl b=>cases rx; exact SeqAt.EqAt.int_bool a t' b
  | int b=>obtain ⟨t,rfl⟩:=rx; exact SeqAt.EqAt.int_int a t' b t
  | str b=>obtain ⟨t,rfl⟩:=rx; exact SeqAt.EqAt.int_str a t' b t
  | _=>exact absurd (show false = true from fx) Bool.false_ne_true
 | str a =>
  obtain ⟨t',rfl⟩:=ry
  cases x with
  | non=>cases rx; exact SeqAt.EqAt.str_none a t'
  | bl b=>cases rx; exact SeqAt.EqAt.str_bool a t' b
  | int b=>obtain ⟨t,rfl⟩:=rx; exact SeqAt.EqAt.str_int a t' b t
  | str b=>obtain ⟨t,rfl⟩:=rx; exact SeqAt.EqAt.str_str a t' b t
  | _=>exact absurd (show false = true from fx) Bool.false_ne_true
 | _=>exact absurd (show false = true from fy) Bool.false_ne_true
theorem J5U : J1i X (.builtin "len") (fun xs H Q=>∃ p ys,xs = [.ref p] ∧ (SqL X.K H p ys ∨ SqT X.K H p ys) ∧ Q (.int ys.length) H):=by
 intro pins s σ H xs us Q I r h
 obtain ⟨p,ys,rfl,hq,q⟩:=h
 obtain ⟨u,rfl,rx⟩:=J6x r
 cases rx
 have hn:=J36
 rcases hq with hq | hq
 ·obtain ⟨its,r',pl,hz⟩:=I.list hq
  have hlen:=r'.length
  exact Calls.call_len_list pl.isList (by simp only [List.size_toArray] <;> omega) ⟨.int ys.length,H,I.tok _,⟨s.toks + 1,by rw [List.size_toArray,hlen]⟩,q⟩
 ·obtain ⟨its,r',pl,hz⟩:=I.tuple hq
  have hlen:=r'.length
  exact len_tuple pl (by simp only [List.size_toArray] <;> omega) ⟨.int ys.length,H,I.tok _,⟨s.toks + 1,by rw [List.size_toArray,hlen]⟩,q⟩
theorem J5V : J1i X (.builtin "len") (fun xs H Q=>∃ z,xs = [.str z] ∧ z.length ≤ sizeLine ∧ Q (.int z.length) H):=by
 intro pins s σ H xs us Q I r h
 obtain ⟨z,rfl,hz,q⟩:=h
 obtain ⟨u,rfl,t,rfl⟩:=J6x r
 have hn:=J36
 exact len_str (by omega) ⟨.int z.length,H,I.tok _,⟨_,rfl⟩,q⟩
theorem J5N : J1i X (.type "list") (fun xs H Q=>∃ p ys,xs = [.ref p] ∧ (SqL X.K H p ys ∨ SqT X.K H p ys) ∧ ∀ l,H l = none → Q (.ref l) (upd H l (.lst ys))):=by
 intro pins s σ H xs us Q I r h
 obtain ⟨p,ys,rfl,hq,q⟩:=h
 obtain ⟨u,rfl,rx⟩:=J6x r
 cases rx
 have fin : ∀ (its : List Value),Vals ys its → ys.length ≤ sizeLine → ∀ (h' : Heap) (c' : Nat),(∀ b o',s.heap.get? b = some o' → h'.get? b = some o') →
   h'.get? s.heap.objs.size = some { cls:=.type "list",dict:=none,data:=.seq its.toArray c',slots:=#[] } → EP X pins σ Q (.ref s.heap.objs.size) { s with heap:=h' }:=fun its r' hz h' c' kp e =>
  ⟨.ref s.heap.objs.size,_,I.laid (t':=s.toks) kp (Nat.le_refl _) (show J0H X.prog X.w _ h' _ (.lst ys) from ⟨hz,its,c',r',e⟩),rfl,q _ (I.hok.fresh (Nat.le_refl _))⟩
 rcases hq with hq | hq
 ·obtain ⟨its,r',pl,hz⟩:=I.list hq
  have hlen:=r'.length
  obtain ⟨o,ho,hc,n,hd⟩:=pl.isList
  exact call_list_seq p (.inl rfl) ho hc hd (fun h' c' kp e=>fin its r' hz h' c' kp e) (by simp only [List.size_toArray] <;> omega)
 ·obtain ⟨its,r',pl,hz⟩:=I.tuple hq
  have hlen:=r'.length
  obtain ⟨o,ho,hc,n,hd⟩:=pl
  exact call_list_seq p (.inr rfl) ho hc hd (fun h' c' kp e=>fin its r' hz h' c' kp e) (by simp only [List.size_toArray] <;> omega)
noncomputable def tyV (K : PySem.W.Frag) (T : String) (x : V) (H : Hp) : Prop:=match x with
 | .str _=>T = "str"
 | .int _=>T = "int"
 | .ref p=>(T = "list" ∧ ∃ xs,SqL K H p xs) ∨ (T = "tuple" ∧ ∃ o,K.lookup p = some o ∧ o.cls = .type "tuple" ∧ o.dict = none) ∨
   (T = "dict" ∧ ((∃ kvs,H p = some (.dK kvs)) ∨ ∃ kvs,H p = some (.dT kvs))) ∨ (T = "set" ∧ ∃ S n,H p = some (.set S n))
 | _=>False
theorem J9N {pins : List (Addr × Obj)} {σ : St} {H : Hp} {s : Shared} {T : String} {x : V} {v : Value} (I : Inv X pins σ H s) (r : RelV x v) (ty : tyV X.K T x H) :
  s.TypeIs v T ∧ ∀ a,v = .ref a → ∃ ob,s.heap.get? a = some ob ∧ ob.dict = none:=by
 cases x with
 | str z =>
  obtain ⟨t,rfl⟩:=r
  cases (show T = "str" from ty)
  exact ⟨typeIs_str s z t,fun _ e=>nomatch e⟩
 | int i =>
  obtain ⟨t,rfl⟩:=r
  cases (show T = "int" from ty)
  exact ⟨typeIs_int s i t,fun _ e=>nomatch e⟩
 | ref p =>
  cases r
  rcases ty with ⟨rfl,xs,hq⟩ | ⟨rfl,o,hk,hc,hd⟩ | ⟨rfl,hk⟩ | ⟨rfl,S,n,hk⟩
  ·obtain ⟨its,_,pl,_⟩:=I.list hq
   refine ⟨pl.isList.typeIs,fun a e=>?_⟩
   cases e
   obtain ⟨o,n,e,c,hd,_⟩:=pl
   exact ⟨o,e,hd⟩
  ·refine ⟨⟨o,I.kIn p o hk,hc⟩,fun a e=>?_⟩
   cases e
   exact ⟨o,I.kIn _ o hk,hd⟩
  ·have z : ∃ o,s.heap.get? p = some o ∧ o.ExactDict:=by
    rcases hk with ⟨kvs,hk⟩ | ⟨kvs,hk⟩
    ·obtain ⟨_,_,_,_,o,_,_,e,ex,_⟩:=I.hok p _ hk
     exact ⟨o,e,ex⟩
    ·obtain ⟨_,_,_,_,o,_,_,e,ex,_⟩:=I.hok p _ hk
     exact ⟨o,e,ex⟩
   obtain ⟨o,e,ex⟩:=z
   refine ⟨⟨o,e,ex.1⟩,fun a e2=>?_⟩
   cases e2
   exact ⟨o,e,ex.2.1⟩
  ·obtain ⟨o,_,_,_,e,ex,_⟩:=I.hok p _ hk
   refine ⟨⟨o,e,ex.1⟩,fun a e2=>?_⟩
   cases e2
   exact ⟨o,e,ex.2.1⟩
 | _=>exact False.elim ty
noncomputable def tBM0 (K : PySem.W.Frag) (T : String) (r : V → List V → Hp → VK → Prop) (to : TE) : TE:=fun σ H Q=>to σ H fun x H1=>tyV K T x H1 ∧ r x [] H1 Q
noncomputable def tBM (K : PySem.W.Frag) (T : String) (r : V → List V → Hp → VK → Prop) (to : TE) (t : TA) : TE:=fun σ H Q=>to σ H fun x H1=>tyV K T x H1 ∧ t σ H1 fun xs H2=>r x xs H2 Q
variable {o e : Expr} {es : List Expr} {to : TE} {t : TA} {name : Str} {apos cpos : Pos} {T id : String} {r : V → List V → Hp → VK → Prop}
theorem J2v (pa : PlainAttrs T) (slot : Slot T name id) (hty : typeOf (.builtin id) = pure (.type "method_descriptor")) (hm : MtR X id r) (ho : PE X o to)
  (hbase : attributeBase o name X.env (eval o X.env) = eval o X.env:=by rfl) (hline : (apos.endLine == cpos.line) = true:=by rfl) : PE X (.Call (.Attribute o name apos) [] [] cpos) (tBM0 X.K T r to):=by
 intro pins s σ H Q I h
 refine wpAny_Call_method0_late hbase hline (thn (ho pins s σ H _ I h) fun v s1 ⟨x,H1,I1,r1,ty,q1⟩=>?_)
 obtain ⟨h1,h2⟩:=J9N I1 r1 ty
 exact ⟨T,id,pa,slot,hty,h1,h2,Calls.callWith_builtin rfl (PySem.evalArgs_none (hm pins s1 σ H1 x [] v [] Q I1 r1 .nil q1))⟩
theorem J2S (pa : PlainAttrs T) (slot : Slot T name id) (hty : typeOf (.builtin id) = pure (.type "method_descriptor")) (hm : MtR X id r) (ho : PE X o to) (ha : PA X (e :: es) t)
  (hbase : attributeBase o name X.env (eval o X.env) = eval o X.env:=by rfl)
  (hfew : ((backTo cpos (starEach (e :: es) X.env)).all (fun x=>!x.1) && (backToKw cpos (keywordEach [] X.env)).all (fun x=>x.1.isSome)
   && decide ((e :: es).length + ([] : List Keyword).length + (if ([] : List Keyword).isEmpty then 0 else 1) < 30)) = true:=by rfl)
  (hline : (apos.endLine == cpos.line) = true:=by rfl) (hs : starEach (e :: es) X.env = (false,eval e X.env) :: starEach es X.env:=by rfl) (hplain : (backTo cpos (starEach es X.env)).any (·.1) = false:=by rfl) :
  PE X (.Call (.Attribute o name apos) (e :: es) [] cpos) (tBM X.K T r to t):=by
 intro pins s σ H Q I h
 refine wpAny_Call_method_late hbase hfew hline rfl (thn (ho pins s σ H _ I h) fun v s1 ⟨x,H1,I1,r1,ty,q1⟩=>?_)
 obtain ⟨h1,h2⟩:=J9N I1 r1 ty
 refine ⟨T,id,pa,slot,hty,h1,h2,?_⟩
 have hA:=ha cpos pins s1 σ H1 _ I1 q1
 rw [hs] at hA ⊢
 refine Calls.callWith_builtin (by show (false || (backTo cpos (starEach es X.env)).any (·.1)) = false; rw [hplain] <;> rfl) (Calls.evalArgs_plain ?_)
 exact thn hA fun us s2 ⟨vs,H2,I2,r2,q2⟩=>hm pins s2 σ H2 x vs v us Q I2 r1 r2 q2
end
end L2
namespace L2
open PySem PySem.Spec PyProof.Rows
noncomputable def MtM (X : Cx) (id : String) (r : V → List V → Hp → VK → Prop) : Prop :=
 ∀ (pins : List (Addr × Obj)) (s : Shared) (σ : St) (H : Hp) (x : V) (xs : List V) (v : Value) (us : List Value) (Q : VK),Inv X pins σ H s → RelV x v → Vals xs us → r x xs H Q →
  wpAny (model X.prog X.w) X.A (call (.builtin id) (v :: us)) (EP X pins σ Q) X.xe s
theorem Vals.one : ∀ {x : V} {us : List Value},Vals [x] us → ∃ u,us = [u] ∧ RelV x u
 | _,_,.cons r .nil=>⟨_,rfl,r⟩
theorem Vals.two : ∀ {x y : V} {us : List Value},Vals [x,y] us → ∃ u v,us = [u,v] ∧ RelV x u ∧ RelV y v
 | _,_,_,.cons r (.cons q .nil)=>⟨_,_,rfl,r,q⟩
theorem Vals.zero : ∀ {us : List Value},Vals [] us → us = []
 | _,.nil=>rfl
theorem Vals.dropLast {xs : List V} {us : List Value} (h : Vals xs us) : Vals xs.dropLast us.dropLast:=by
 induction h with
 | nil=>exact .nil
 | cons r t ih =>
  cases t with
  | nil=>exact .nil
  | cons q t'=>exact .cons r ih
theorem J7P {α : Type} (l : List α) : l.eraseIdx (l.length - 1) = l.dropLast:=by
 induction l with
 | nil=>rfl
 | cons a r ih =>
  cases r with
  | nil=>rfl
  | cons b r =>
   have e : (a :: b :: r).length - 1 = ((b :: r).length - 1) + 1:=by
    have h1 : (a :: b :: r).length = r.length + 2:=rfl
    have h2 : (b :: r).length = r.length + 1:=rfl
    omega
   rw [e,List.eraseIdx_cons_succ,ih]
   all_goals rfl
section
variable {X : Cx} {pins : List (Addr × Obj)} {σ : St} {H : Hp} {s : Shared} {l b : Addr} {xs ys zs : List V}
theorem Inv.lset {its its' : List Value} {n : Nat} {f : Array Value → Array Value} {t' : Nat} (I : Inv X pins σ H s) (hH : H l = some (.lst xs))
  (e : s.heap.get? l = some { cls:=.type "list",data:=.seq its.toArray n }) (hf : f its.toArray = its'.toArray) (hv : Vals ys its') (hz : ys.length ≤ sizeLine) :
  Inv X pins σ (upd H l (.lst ys)) { s with heap:=s.heap.update l (Obj.mapSeq f),toks:=t' }:=by
 have q:=PySem.IsL.update e f
 rw [hf] at q
 refine I.write (x:=l) (e:=l) (by rw [hH]; exact trivial) (.inl rfl) (fun b' u hb hu=>(Heap.get?_update_other s.heap (Obj.mapSeq f) (Ne.symm hb)).trans hu) ⟨_,q⟩ ?_
 exact ⟨hz,its',_,hv,q⟩
theorem Inv.lnew {its : List Value} {t' : Nat} (I : Inv X pins σ H s) (hv : Vals ys its) (hz : ys.length ≤ sizeLine) :
  Inv X pins σ (upd H s.heap.objs.size (.lst ys)) { s with heap:=s.heap.push { cls:=.type "list",data:=.seq its.toArray },toks:=t' } :=
 I.laid (fun _ _ q=>Heap.get?_push_of_some _ q) (Nat.le_refl _) ⟨hz,its,0,hv,Heap.get?_push_size _ rfl⟩
theorem Inv.fresh (I : Inv X pins σ H s) : H s.heap.objs.size = none:=I.hok.fresh (Nat.le_refl _)
theorem Inv.lstM (I : Inv X pins σ H s) (hH : H l = some (.lst xs)) : xs.length ≤ sizeLine ∧ ∃ (its : List Value) (n : Nat),Vals xs its ∧ xs.length = its.length ∧ s.heap.get? l = some { cls:=.type "list",data:=.seq its.toArray n }:=by
 obtain ⟨z,its,n,r,e⟩:=I.hok l _ hH
 exact ⟨z,its,n,r,r.length,e⟩
theorem J9z {n : Nat} (h : n ≤ sizeLine) : Builtin.List.listTooLong n = false:=by
 unfold Builtin.List.listTooLong
 exact decide_eq_false (by omega)
end
section
variable {X : Cx}
noncomputable def Jak : V → List V → Hp → VK → Prop:=fun x vs H Q=>∃ l xs y,x = .ref l ∧ vs = [y] ∧ H l = some (.lst xs) ∧ xs.length < sizeLine ∧ Q .non (upd H l (.lst (xs ++ [y])))
theorem J0D : MtM X "list.append" Jak:=by
 intro pins s σ H x vs v us Q I rx rv h
 obtain ⟨l,xs,y,rfl,rfl,hH,hz,q⟩:=h
 cases rx
 obtain ⟨u,rfl,ru⟩:=rv.one
 obtain ⟨z,its,n,r,hl,e⟩:=I.lstM hH
 refine call_meets F.slot_list_append ⟨_,e,rfl⟩ F.entry_list_append (F.args_list_append_2 _ _) (PySem.list_append l its.toArray n u (by rw [List.size_toArray]; omega)) ⟨e,?_⟩
 refine ⟨.non,_,I.lset (its':=its ++ [u]) hH e (by simp) (r.append (.cons ru .nil)) ?_,rfl,q⟩
 rw [List.length_append,List.length_singleton]
 omega
noncomputable def rPop : V → List V → Hp → VK → Prop:=fun x vs H Q=>∃ l xs y,x = .ref l ∧ vs = [] ∧ H l = some (.lst xs) ∧ xs[xs.length - 1]? = some y ∧ Q y (upd H l (.lst xs.dropLast))
theorem J39 : MtM X "list.pop" rPop:=by
 intro pins s σ H x vs v us Q I rx rv h
 obtain ⟨l,xs,y,rfl,rfl,hH,hy,q⟩:=h
 cases rx
 have hus:=rv.zero
 subst hus
 obtain ⟨z,its,n,r,hl,e⟩:=I.lstM hH
 obtain ⟨u,hu,ru⟩:=r.get hy
 have hy' : its.toArray[its.toArray.size - 1]? = some u:=by
  show its.toArray[its.length - 1]? = some u
  rw [← Array.getElem?_toList,← hl]
  exact hu
 refine call_meets F.slot_list_pop ⟨_,e,rfl⟩ F.entry_list_pop (F.args_list_pop_1 _) (MeetsSeq.list_pop_last l its.toArray n u hy' (by rw [List.size_toArray]; omega)) ⟨e,?_⟩
 refine ⟨y,_,I.lset (its':=its.dropLast) hH e ?_ r.dropLast ?_,ru,q⟩
 ·show its.toArray.eraseIdxIfInBounds (its.toArray.size - 1) = its.dropLast.toArray
  rw [List.size_toArray,List.eraseIdxIfInBounds_toArray,J7P]
 ·rw [List.length_dropLast]
  omega
noncomputable def Jbc : V → List V → Hp → VK → Prop:=fun x vs H Q=>∃ l xs,x = .ref l ∧ vs = [] ∧ H l = some (.lst xs) ∧ Q .non (upd H l (.lst []))
theorem J9r : MtM X "list.clear" Jbc:=by
 intro pins s σ H x vs v us Q I rx rv h
 obtain ⟨l,xs,rfl,rfl,hH,q⟩:=h
 cases rx
 have hus:=rv.zero
 subst hus
 obtain ⟨z,its,n,r,hl,e⟩:=I.lstM hH
 refine call_meets F.slot_list_clear ⟨_,e,rfl⟩ F.entry_list_clear (F.args_list_clear_1 _) (AutoSeq1.list_clear_list_0 l its.toArray n (by rw [List.size_toArray]; omega)) ⟨e,?_⟩
 exact ⟨.non,_,I.lset (its':=[]) (ys:=[]) hH e rfl .nil (Nat.zero_le _),rfl,q⟩
noncomputable def rCat : R2:=fun x y H Q=>∃ l b xs zs,x = .ref l ∧ y = .ref b ∧ H l = some (.lst xs) ∧ H b = some (.lst zs) ∧ xs.length + zs.length ≤ sizeLine ∧ ∀ p,H p = none → Q (.ref p) (upd H p (.lst (xs ++ zs)))
theorem Jba : OpR X (binaryOp .Add) rCat:=by
 intro pins s σ H x y v u Q I rx ry h
 obtain ⟨l,b,xs,zs,rfl,rfl,hH,hB,hz,q⟩:=h
 cases rx
 cases ry
 obtain ⟨z,its,n,r,hl,e⟩:=I.lstM hH
 obtain ⟨z2,its2,n2,r2,hl2,e2⟩:=I.lstM hB
 refine PySem.P.add_list e e2 ?_ (by rw [List.size_toArray,List.size_toArray]; omega)
 have ea : its.toArray ++ its2.toArray = (its ++ its2).toArray:=by simp
 rw [ea]
 exact ⟨.ref _,_,I.lnew (t':=s.toks) (r.append r2) (by rw [List.length_append]; omega),rfl,q _ I.fresh⟩
end
section
variable {prog : Program} {w : World} {A : Around} {E : Value → Shared → Prop} {s : Shared}
end
section
variable {X : Cx}
end
end L2
namespace Att
open PySem PySem.W PySem.Calls PyProof.Rows
theorem J3t {P : Params} {h : Heap} : ∀ (ns : List Int) (vs : List Value),WellAll P h vs (ns.map WData.int) → IntsAre vs ns:=by
 intro ns
 induction ns with
 | nil =>
  intro vs w
  rw [List.map_nil] at w
  cases w
  exact .nil
 | cons n ns ih =>
  intro vs w
  rw [List.map_cons] at w
  cases w with
  | cons a b =>
   cases a
   exact .cons _ _ (ih _ b)
theorem J92 {l : OpenLaw} {n : Nat} (hn : l.most = some n) {P : Params} {h : Heap} {args : List WData} {vals : List Value}
  (hpre : l.row.toRowW.claim.pre args = true) (hwl : WellAll P h vals args) :
  ∃ a vs ns,vals = [Value.ref a] ∧ args = [WData.list (ns.map WData.int)] ∧ h.get? a = some { cls:=.type "list",data:=.seq vs.toArray } ∧ IntsAre vs ns ∧ ns.length ≤ n:=by
 have hsh : WShape.hasAll [] args [.list .int] = true:=(pre_splitW hpre).1
 have hc : l.pre.holds [] { args:=args } = true:=(pre_splitW hpre).2
 obtain ⟨d,r,rfl,h1,h2⟩:=hasAllW_cons hsh
 obtain rfl:=hasAllW_nil h2
 obtain ⟨xs,rfl,h3⟩:=hasW_list h1
 obtain ⟨ns,rfl⟩:=items_int h3
 have hlen : ns.length ≤ n:=by
  unfold OpenLaw.pre at hc
  have h4 : (WTm.not (.lt (.lit (.int (n : Int))) (.len (.arg 0)))).holds [] { args:=[.list (ns.map .int)] } = true:=by
   have h4:=(holds_andW hc).1
   rw [hn] at h4
   exact h4
  have h5:=condW_of h4 (w_not (w_lt w_lit (w_len_list (w_arg rfl))))
  rw [List.length_map] at h5
  refine Nat.le_of_not_lt fun q=>?_
  have q' : (n : Int) < ((ns.length : Nat) : Int):=by omega
  first
   | (rw [decide_eq_true q'] at h5; exact absurd h5 (by decide))
   | (simp at h5; omega)
 cases hwl with
 | cons w1 w2 =>
  cases w2
  cases w1 with
  | list ho hall=>exact ⟨_,_,ns,rfl,rfl,ho,J3t ns _ hall,hlen⟩
theorem J8Y (l : OpenLaw) (args : List WData) : l.row.toRowW.claim.post args (.bool true) args = true :=
 postW_of (r:=l.row.toRowW) (X:=(true == true))
  (show WShape.has [] (.bool true) .bool = true by first | rfl | decide | simp [WShape.has,WShape.arms,WShape.armsAll])
  (show (WTm.eq .res (.lit (.bool true))).value [] { args:=args,res:=some (.bool true),after:=args } = some (.bool (true == true)) from w_eq_bool (w_res rfl) w_lit) rfl
theorem attach_call {l : OpenLaw} {n : Nat} {q : Program} {loose : List Str} {XP : (Str → Option Value) → Heap → Prop} {YP : World → Heap → Prop} {d : DefRec}
  (hn : l.most = some n) (hdf : d.params.defaults = [])
  (call : ∀ (w : World) (s₀ s₁ : Shared) (mg mb : Str → Option Value) (fa : Addr) (o : Obj) (pm cd doc : Value) (a : Addr) (vs : List Value) (ns : List Int),
   Ground q loose [] XP w s₀ mg mb s₁.heap → YP w s₁.heap →
   s₁.heap.get? fa = some o → o.data = .func (docDef d.name d.params d.body d.scope pm cd doc) → s₁.heap.CodeRec cd d.name → mg d.name = some (.ref fa) →
   s₁.heap.get? a = some { cls:=.type "list",data:=.seq vs.toArray } → IntsAre vs ns → ns.length ≤ n → s₁.gens = #[] →
   codeAny (model l.prog w) callerA (.call (.ref fa) ⟨[.ref a],[]⟩) (fun r s'=>r = .ok (.ret (.bool true)) ∧ OldK s₁.heap s'.heap ∧ s'.os = s₁.os ∧ AllBare s'.gens) s₁) :
  WalkO q loose XP YP l.row.toRowW d [] (fun f vs=>PySem.call f vs):=by
 intro w s₀ s₁ mg mb G Y fa o pm cd doc dV kV ho hd hcd hD hmg hg args vals as hpre hlay hrd hwl hlo
 obtain rfl : dV = .none:=Dflts.none hD hdf
 obtain rfl : kV = .none:=Dflts.noKw hD
 obtain ⟨a,vs,ns,rfl,rfl,hobj,hints,hlen⟩:=J92 hn hpre hwl
 refine enter_call (codeAny_mono (call w s₀ s₁ mg mb fa o pm cd doc a vs ns G Y ho (fd_plain hd) hcd hmg hobj hints hlen hg) fun r s' hq=>?_)
 obtain ⟨rfl,h2,h3,h4⟩:=hq
 exact ⟨.inl ⟨.bool true,.bool true,[],rfl,fun _=>rfl,.bool true,J8Y l _,fun _=>⟨List.Pairwise.nil,fun _ hm=>(nomatch hm)⟩⟩,h2,h3,h4⟩
section
variable {prog : Program} {w : World} {A : Around} {E : Value → Shared → Prop} {s : Shared} {K : Frag}
end
end Att
namespace L2
open PySem PySem.Spec PyProof.Rows
theorem J55 : ∀ {vs : List Value} {ns : List Int},IntsAre vs ns → Vals (ns.map V.int) vs
 | _,_,.nil=>.nil
 | _,_,.cons n t h=>.cons ⟨t,rfl⟩ (J55 h)
noncomputable def Only (H : Hp) : Prop:=∀ b,H b = none ∨ ∃ o xs,H b = some (.frz o (.lst xs))
theorem J9k {P : Program} {w : World} {K : PySem.W.Frag} {mg mb : Str → Option Value} {CX : CXT} {k : Nat} {fa a : Addr} {fd : FuncData} {x : Str} {sp : Sp} {s₁ : Shared} {vs : List Value} {ns : List Int}
  (KX : K.In s₁.heap) (hns : s₁.heap.Ns mainGlobals mg) (hb : s₁.heap.Ns builtinsNs mb) (hbb : ∀ x : Str,x ≠ "__name__" → mb x = bootBuiltins x) (hlim : s₁.heap.NoLimit) (hg : s₁.gens = #[])
  (ha : s₁.heap.get? a = some { cls:=.type "list",data:=.seq vs.toArray }) (hi : IntsAre vs ns) (hl : ns.length ≤ sizeLine) (hr : Room k callerA)
  (F : ∀ base : Heap,K.In base → base.Ns mainGlobals mg → FnOk P w K mg base CX k fa fd [x] sp) (hbind : ∀ (s : Shared) (u : Value),BindsTo s fd ⟨[u],[]⟩ [(x,u)])
  (hsp : ∀ H : Hp,Only H → SqL K H a (ns.map V.int) → sp [.ref a] H (fun v _=>v = .bl true) fun _ _ _=>False)
  (hCX : ∀ H e s',CX [] H s₁ (fun _ _ _=>False) e s' → False) :
  codeAny (model P w) callerA (.call (.ref fa) ⟨[.ref a],[]⟩) (fun r s'=>r = .ok (.ret (.bool true)) ∧ OldK s₁.heap s'.heap ∧ s'.os = s₁.os ∧ AllBare s'.gens) s₁:=by
 have rv:=J55 hi
 have lenV:=hi.length
 have core : ∀ H : Hp,Only H → SqL K H a (ns.map V.int) → HOk P w H s₁.heap → (∀ b,H b ≠ none → b = a) → (H a ≠ none → K.lookup a = none) →
   codeAny (model P w) callerA (.call (.ref fa) ⟨[.ref a],[]⟩) (fun r s'=>r = .ok (.ret (.bool true)) ∧ OldK s₁.heap s'.heap ∧ s'.os = s₁.os ∧ AllBare s'.gens) s₁:=by
  intro H hO hS hok hA hK
  have base_of : ∀ {b : Addr} {o : Obj},s₁.heap.get? b = some o → H b = none → (hidT s₁.heap H).get? b = some o:=fun e n=>J9i e n
  have noA : ∀ {b : Addr} {o : Obj} {es : Array DictEntry} {ep : Nat},s₁.heap.get? b = some o → o.data = .dict es ep → H b = none:=fun {b o es ep} e d=>by
   cases q : H b with
   | none=>rfl
   | some u =>
    have e' : b = a:=hA b (by rw [q]; simp)
    subst e'
    rw [ha] at e; cases e
    have d' : Data.seq vs.toArray _ = Data.dict es ep:=d
    cases d'
  have nsK : ∀ {b : Addr} {m : Str → Option Value},s₁.heap.Ns b m → (hidT s₁.heap H).Ns b m:=fun {b m} ⟨o,es,ep,e,d,r⟩=>⟨o,es,ep,base_of e (noA e d),d,r⟩
  have hKb : K.In (hidT s₁.heap H):=fun b o e=>base_of (KX b o e) (by
   cases q : H b with
   | none=>rfl
   | some u =>
    have e' : b = a:=hA b (by rw [q]; simp)
    subst e'
    rw [hK (by rw [q]; simp)] at e; cases e)
  have hM : Mod K mg (hidT s₁.heap H):=⟨hKb,nsK hns,⟨mb,nsK hb,hbb⟩,let ⟨mc,h1,h2⟩:=hlim; ⟨mc,nsK h1,h2⟩⟩
  have e0 : Env0 P w K mg (hidT s₁.heap H) callerA [] s₁ H:=⟨rfl,hM,fun b o e=>JaH e,Nat.le_of_eq (J8E _ _),trivial,fun b hb=>absurd (show b ∈ ([] : List Addr) from hb) (by simp),hok,.of_eq hg⟩
  refine codeAny_mono ((F _ hKb (nsK hns)).run callerA [] s₁ H ⟨[.ref a],[]⟩ [.ref a] [.ref a] _ _ hr e0 (hbind s₁ (.ref a)) (.cons rfl .nil) (hsp H hO hS)) fun r s' h=>?_
  cases r with
  | error e=>exact (hCX H e s' h).elim
  | ok fl =>
   cases fl with
   | next=>exact False.elim h
   | brk=>exact False.elim h
   | cont=>exact False.elim h
   | ret u =>
    obtain ⟨v,H',os,bare,un,hok',r',q⟩:=h
    have q' : v = .bl true:=q
    subst q'
    obtain rfl : u = Value.bool true:=r'
    refine ⟨rfl,OldK.of_keep fun b o e=>?_,os,bare⟩
    cases q : H b with
    | none=>exact un.keep b o e q (by intro z; exact absurd (show b ∈ ([] : List Addr) from z) (by simp)) (by simp)
    | some u =>
     rcases hO b with z | ⟨ob,xs,z⟩
     ·rw [q] at z; cases z
     ·have z2:=un.frzs b ob _ z
      obtain ⟨e1,_⟩:=hok b _ z
      obtain ⟨e2,_⟩:=hok' b _ z2
      rw [e] at e1; cases e1
      exact e2
 cases hk : K.lookup a with
 | some o =>
  have e:=KX a o hk
  rw [ha] at e
  cases e
  refine core (fun _=>none) (fun _=>.inl rfl) (.inr ⟨_,vs.toArray,_,hk,rfl,rfl,rfl,by rw [List.size_toArray,lenV]; exact hl,by simpa using rv⟩) (fun b u z=>by have z' : (none : Option HO) = some u:=z; cases z') (fun b z=>absurd rfl z) fun z=>absurd rfl z
 | none =>
  refine core (fun b=>if b = a then some (.frz { cls:=.type "list",data:=.seq vs.toArray } (.lst (ns.map V.int))) else none) (fun b=>?_) (.inl (.inr ⟨{ cls:=.type "list",data:=.seq vs.toArray },if_pos rfl⟩)) (fun b u z=>?_) (fun b z=>?_) fun _=>hk
  ·by_cases hb : b = a
   ·exact .inr ⟨_,_,if_pos hb⟩
   ·exact .inl (if_neg hb)
  ·by_cases hb : b = a
   ·have z':=(if_pos hb).symm.trans z
    cases z'
    subst hb
    exact ⟨ha,by rw [List.length_map]; exact hl,vs,_,rv,ha⟩
   ·have z':=(if_neg hb).symm.trans z
    cases z'
  ·by_cases hb : b = a
   ·exact hb
   ·exact absurd (if_neg hb) z
end L2
namespace L2
open PySem PySem.Spec PyProof.Rows
theorem walk_of {l : PySem.W.OpenLaw} {n k : Nat} {q : Program} {loose : List Str} {XP : (Str → Option Value) → Heap → Prop} {YP : World → Heap → Prop} {d : DefRec} {K : Params → PySem.W.Frag} {CX : World → CXT} {sp : World → Sp} {x : Str}
  (hn : l.most = some n) (hn2 : n ≤ sizeLine) (hdf : d.params.defaults = []) (hr : Room k callerA)
  (hY : ∀ (w : World) (h : Heap),YP w h → (K w.params).In h)
  (F : ∀ (w : World) (mg : Str → Option Value) (fa : Addr) (h : Heap),(K w.params).In h → h.Ns mainGlobals mg → mg d.name = some (.ref fa) →
   ∃ fd : FuncData,(∀ (s : Shared) (u : Value),BindsTo s fd ⟨[u],[]⟩ [(x,u)]) ∧
    ∀ base : Heap,(K w.params).In base → base.Ns mainGlobals mg → FnOk l.prog w (K w.params) mg base (CX w) k fa fd [x] (sp w))
  (hsp : ∀ (w : World) (H : Hp) (a : Addr) (ns : List Int),ns.length ≤ n → Only H → SqL (K w.params) H a (ns.map V.int) → sp w [.ref a] H (fun v _=>v = .bl true) fun _ _ _=>False)
  (hCX : ∀ (w : World) (H : Hp) (s : Shared) (e : Value) (s' : Shared),CX w [] H s (fun _ _ _=>False) e s' → False) :
  PySem.W.WalkO q loose XP YP l.row.toRowW d [] (fun f vs=>PySem.call f vs):=by
 refine Att.attach_call hn hdf fun w s₀ s₁ mg mb fa o pm cd doc a vs ns G Y ho hd hcd hmg hobj hints hlen hg=>?_
 have KX:=hY w _ Y
 obtain ⟨fd,hb,hF⟩:=F w mg fa _ KX G.T.g hmg
 exact J9k KX G.T.g G.T.b G.T.builtins G.T.nolimit hg hobj hints (Nat.le_trans hlen hn2) hr hF hb (fun H hO hS=>hsp w H a ns hlen hO hS) fun H e s'=>hCX w H s₁ e s'
end L2
namespace L2
open PySem PySem.Spec PyProof.Rows
noncomputable def JP (s : Stmt) (j : Nat) : Stmt:=match s with
 | .ClassDef _ _ _ body _ _ _ _ _ _ _=>body.getD j (.Pass ⟨0,0,0,0⟩)
 | _=>.Pass ⟨0,0,0,0⟩
noncomputable def Ji (s : Stmt) : Arguments:=match s with
 | .FunctionDef _ a _ _ _ _ _ _ _ _=>a
 | _=>{ posonlyargs:=[],args:=[],vararg:=none,kwonlyargs:=[],kw_defaults:=[],kwarg:=none,defaults:=[] }
noncomputable def Jg (s : Stmt) : List Stmt:=match s with
 | .FunctionDef _ _ b _ _ _ _ _ _ _=>b
 | _=>[]
noncomputable def J6 (s : Stmt) : Scope:=match s with
 | .FunctionDef _ _ _ _ _ _ sc _ _ _=>sc
 | _=>{ kind:=.function,names:=[],isGenerator:=false,isCoroutine:=false }
noncomputable abbrev CX0 : CXT:=fun _ _ _ _ _ _=>False
noncomputable abbrev E0 : XK:=fun _ _ _=>False
theorem J8t {X : Cx} : J5M CX0 X E0:=fun _ _ _ _ _ _ _ h=>h.elim
structure Fun (K : PySem.W.Frag) (x qual : Str) (st : Stmt) (f : Addr) (fd : FuncData) : Prop where
 ex : ∃ (oc : Value) (od : Option Addr) (kV doc pm : Value) (an : Option Addr) (cdv ct : Value) (osl : Array (Option Value)),
  fd = PySem.W.fnOf x qual (Ji st) (Jg st) (J6 st) .none kV doc pm an cdv ct ∧ K.lookup f = some ⟨oc,od,.func fd,osl⟩ ∧ PySem.W.codeIn K cdv qual = true
 kp : PySem.W.keepIn K (.ref f) = true
section
variable {P : Program} {w : World} {K : PySem.W.Frag} {mg : Str → Option Value} {base : Heap}
theorem Fun.ok {x qual : Str} {st : Stmt} {f : Addr} {fd : FuncData} {N ps : List Str} {k : Nat} {sp : Sp} (F : Fun K x qual st f fd) (S : Jm N ps (J6 st)) (len : ∀ vs H Q E,sp vs H Q E → vs.length = ps.length)
  (hbody : ∀ (cdv : Value) (A : Around) (outer : List Env) (s : Shared) (H : Hp) (vs : List V) (Q : VK) (E : XK),Room k (A.deeper (envOfC qual (J6 st) s.heap.objs.size f cdv)) → sp vs H Q E →
   ∃ t,PSs (cxOf CX0 P w K mg base N qual (J6 st) f cdv A outer s H E).nox (Jg st) t ∧ t { nx:=fun _ H'=>Q .non H',rt:=Q } (start N vs) H) : FnOk P w K mg base CX0 (k + 1) f fd ps sp:=by
 obtain ⟨oc,od,kV,doc,pm,an,cdv,ct,osl,rfl,lk,hcd⟩:=F.ex
 refine JbH lk hcd S len fun A outer s H vs Q E hr hsp=>?_
 obtain ⟨t,h,q⟩:=hbody cdv A outer s H vs Q E hr hsp
 exact ⟨t,h.nox,q⟩
theorem Fun.binds {x qual : Str} {st : Stmt} {f : Addr} {fd : FuncData} {ps : List Str} (F : Fun K x qual st f fd)
  (h : ∀ (kV doc pm : Value) (an : Option Addr) (cdv ct : Value) (us : List Value),us.length = ps.length → bindArgs (PySem.W.fnOf x qual (Ji st) (Jg st) (J6 st) .none kV doc pm an cdv ct) ⟨us,[]⟩ = pure (ps.zip us)) : J2N K fd ps []:=by
 obtain ⟨oc,od,kV,doc,pm,an,cdv,ct,osl,rfl,lk,hcd⟩:=F.ex
 exact .all (h kV doc pm an cdv ct)
theorem Jt {x qual : Str} {st : Stmt} {f : Addr} {oc : Value} {od an : Option Addr} {osl : Array (Option Value)} {kV doc pm cdv ct : Value} (l : K.lookup f = some ⟨oc,od,.func (PySem.W.fnOf x qual (Ji st) (Jg st) (J6 st) .none kV doc pm an cdv ct),osl⟩)
  (c : PySem.W.codeIn K cdv qual = true) (k : PySem.W.keepIn K (.ref f) = true) : Fun K x qual st f (PySem.W.fnOf x qual (Ji st) (Jg st) (J6 st) .none kV doc pm an cdv ct):=⟨⟨oc,od,kV,doc,pm,an,cdv,ct,osl,rfl,l,c⟩,k⟩
end
theorem J5f {A : Around} {k : Nat} (hr : Room k A) : A.units + 1 < cLine:=Nat.lt_of_le_of_lt (Nat.add_le_add_left (by decide : 1 ≤ 64) _) hr.units
section
variable {X : Cx}
theorem pv (i : Nat) {x : Str} {pos : Pos} (hN : X.N[i]? = some x:=by rfl) (hv : Vis X.env.scope x:=by first | exact Or.inl rfl | exact Or.inr (Or.inl rfl) | exact Or.inr (Or.inr rfl)) (hd : (x == ("__debug__" : Str)) = false:=by decide)
  (hcd : (x == ("__classdict__" : Str)) = false:=by decide) : PE X (.Name x pos) (tVar i):=Jbo hN hv hd hcd
end
theorem iteF {A B : Prop} (h : B) : if false = true then A else B:=by
 rw [if_neg Bool.false_ne_true]
 exact h
theorem iteT {A B : Prop} (h : A) : if true = true then A else B:=by
 rw [if_pos rfl]
 exact h
theorem ite2 {c A B : Prop} [Decidable c] (h1 : c → A) (h2 : ¬ c → B) : if c then A else B:=by
 by_cases h : c
 ·rw [if_pos h]
  exact h1 h
 ·rw [if_neg h]
  exact h2 h
noncomputable def Same (H H' : Hp) : Prop:=∀ b o,H b = some o → H' b = some o
theorem Same.refl (H : Hp) : Same H H:=fun _ _ h=>h
theorem Same.trans {H H1 H2 : Hp} (a : Same H H1) (b : Same H1 H2) : Same H H2:=fun c o h=>b c o (a c o h)
theorem Same.free {H H' : Hp} (e : Same H H') {l : Addr} (h : H' l = Option.none) : H l = Option.none:=by
 cases q : H l with
 | none=>rfl
 | some o =>
  rw [e l o q] at h
  cases h
theorem Same.seq {K : PySem.W.Frag} {H H' : Hp} {a : Addr} {xs : List V} (e : Same H H') (h : SqL K H a xs) : SqL K H' a xs:=by
 rcases h with (h | ⟨o,h⟩) | h
 ·exact .inl (.inl (e _ _ h))
 ·exact .inl (.inr ⟨o,e _ _ h⟩)
 ·exact .inr h
end L2
set_option linter.all false
set_option maxRecDepth 100000
set_option maxHeartbeats 4000000
namespace L2
open PySem PySem.Spec PyProof.Rows
theorem J4H {scope : Scope} {env : Env} (h : ∀ y ∈ scope.names,y.2 = .free → ∃ c,env.cells.lookup y.1 = some c) :
  ∃ cl,closureFor scope env = pure cl ∧ (∀ y ∈ scope.names,y.2 = NameKind.free → cl.lookup y.1 = env.cells.lookup y.1) ∧ (∀ x c,cl.lookup x = some c → env.cells.lookup x = some c):=by
 have key : ∀ (names : List (Str × NameKind)) (acc : List (Str × Addr)) (f : Str × NameKind → List (Str × Addr) → Sem (ForInStep (List (Str × Addr)))),
   (∀ x cs,f x cs = if (x.2 == NameKind.free) = true then (cellOf env x.1 >>= fun a=>pure (ForInStep.yield ((x.1,a) :: cs))) else pure (ForInStep.yield cs)) →
   (∀ y ∈ names,y.2 = .free → ∃ c,env.cells.lookup y.1 = some c) → (∀ x c,acc.lookup x = some c → env.cells.lookup x = some c) →
   ∃ cl,forIn names acc f = pure cl ∧ (∀ x c,acc.lookup x = some c → cl.lookup x = env.cells.lookup x) ∧ (∀ y ∈ names,y.2 = NameKind.free → cl.lookup y.1 = env.cells.lookup y.1) ∧ (∀ x c,cl.lookup x = some c → env.cells.lookup x = some c):=by
  intro names
  induction names with
  | nil =>
   intro acc f _ _ ha
   exact ⟨acc,rfl,fun x c e=>by rw [e,ha x c e],fun _ h=>(nomatch h),ha⟩
  | cons y r ih =>
   intro acc f hf hn ha
   obtain ⟨n,k⟩:=y
   rw [List.forIn_cons,hf]
   by_cases hk : k = .free
   ·subst hk
    obtain ⟨c,hc⟩:=hn (n,.free) List.mem_cons_self rfl
    have hc' : cellOf env n = pure c:=by unfold cellOf; rw [hc]
    have ha' : ∀ x d,((n,c) :: acc).lookup x = some d → env.cells.lookup x = some d:=fun x d e=>by
     rw [List.lookup_cons] at e
     cases hx : x == n with
     | true =>
      rw [hx] at e
      have e' : c = d:=Option.some.inj e
      have hx' : x = n:=by simpa using hx
      rw [hx',hc,e']
     | false =>
      rw [hx] at e
      exact ha x d e
    obtain ⟨cl,e,h1,h2,h3⟩:=ih ((n,c) :: acc) f hf (fun y hy=>hn y (List.mem_cons_of_mem _ hy)) ha'
    refine ⟨cl,?_,fun x d ex=>?_,fun y hy hyf=>?_,h3⟩
    ·rw [if_pos (by rfl)]
     show ((cellOf env n >>= fun a=>pure (ForInStep.yield ((n,a) :: acc))) >>= _) = pure cl
     rw [hc',pure_bind,pure_bind]
     exact e
    ·by_cases hxn : x = n
     ·subst hxn
      exact h1 x c (by rw [List.lookup_cons,beq_self_eq_true])
     ·refine h1 x d ?_
      rw [List.lookup_cons,beq_eq_false_iff_ne.mpr hxn]
      exact ex
    ·rcases List.mem_cons.mp hy with rfl | hy
     ·exact h1 _ c (by rw [List.lookup_cons,beq_self_eq_true])
     ·exact h2 y hy hyf
   ·have hb : (k == NameKind.free) = false:=by simpa using hk
    obtain ⟨cl,e,h1,h2,h3⟩:=ih acc f hf (fun y hy=>hn y (List.mem_cons_of_mem _ hy)) ha
    refine ⟨cl,?_,h1,fun y hy hyf=>?_,h3⟩
    ·show ((if (k == NameKind.free) = true then _ else pure (ForInStep.yield acc)) >>= _) = pure cl
     rw [if_neg (by rw [hb]; exact Bool.false_ne_true),pure_bind]
     exact e
    ·rcases List.mem_cons.mp hy with rfl | hy
     ·exact absurd hyf hk
     ·exact h2 y hy hyf
 have z:=key scope.names [] (fun x cs=>if (x.2 == NameKind.free) = true then (cellOf env x.1 >>= fun a=>pure (ForInStep.yield ((x.1,a) :: cs))) else pure (ForInStep.yield cs)) (fun _ _=>rfl) h (fun _ _ e=>(nomatch e))
 obtain ⟨cl,e,_,h2,h3⟩:=z
 refine ⟨cl,?_,h2,h3⟩
 show (forIn scope.names [] _ >>= pure) = pure cl
 exact (congrArg (· >>= pure) e).trans (pure_bind _ _)
noncomputable abbrev J21 (X : Cx) (scope : Scope) (N : List Str) (s₀ : Shared) (H₀ : Hp) (cl : List (Str × Addr)) (C : Addr) (ex : List Addr) : Cx :=
 {prog:=X.prog,w:=X.w,K:=X.K,mg:=X.mg,base:=X.base,A:=X.A,N:=N,s₀:=s₀,H₀:=H₀,env:=compEnvC scope cl C X.env,
  outer:=X.stack,stack:=X.stack,ex:=ex,fn:=fun _=>false,calm:=X.calm,pn:=[],xe:=fun _ _=>False }
theorem J5J {prog : Program} {w : World} {A : Around} {R : Result → Shared → Prop} {s : Shared} {elt target iter : Expr} {ifs : List Expr} {scope : Scope} {pos : Pos} {it acc : Value} {env : Env} (I : Nat → Shared → Prop)
  (turn : ∀ n s,I n s → wpAny (model prog w) A (pyNext it) (fun r s₁=>match r with
   | none=>R (.ok .next) s₁
   | some v=>wpAny (model prog w) A (letOwnedTupleGo target it v) (fun _ s₁'=>wpAny (model prog w) A (assign target env v) (fun _ s₂ =>
     wpAny (model prog w) A (forIn ifs true fun c r=>if r = true then do let ok ← isTrue c env (eval c env); pure (ForInStep.yield ok) else pure (ForInStep.yield r)) (fun ok s₃ =>
      if ok = true then wpAny (model prog w) A (eval elt env) (fun x s₄ =>
       wpAny (model prog w) A (call (.builtin "list.append") [acc,x]) (fun _ s₅=>∃ m,m < n ∧ I m s₅) (fun _ _=>False) s₄) (fun _ _=>False) s₃
      else ∃ m,m < n ∧ I m s₃) (fun _ _=>False) s₂) (fun _ _=>False) s₁') (fun _ _=>False) s₁) (fun _ _=>False) s)
  (n : Nat) (h : I n s) :
  codeAny (model prog w) A (.compLoop (.ListComp elt [⟨target,iter,ifs,0⟩] scope pos) 0 it acc env) R s:=by
 refine codeAny_loop rfl I (fun n s hI=>?_) n h
 show wpAny _ A ((compTurn (.ListComp elt [⟨target,iter,ifs,0⟩] scope pos) 0 it acc env).onRaise (fun x=>do noteFrame x env; theTreesLotGoes x)) _ _ s
 refine wpAny_noted ?_
 rw [compTurn_list]
 refine wpAny_bind (wpAny_standAt (wpAny_bind (wpAny_mono (turn n s hI) (fun r s₁ h₁=>?_) fun _ _ z=>z.elim)))
 cases r with
 | none=>exact wpAny_pure h₁
 | some v =>
  refine wpAny_bind (wpAny_mono h₁ (fun _ s₁' h₁'=>?_) fun _ _ z=>z.elim)
  refine wpAny_bind (wpAny_mono h₁' (fun _ s₂ h₂=>wpAny_bind (wpAny_mono h₂ (fun ok s₃ h₃=>?_) fun _ _ z=>z.elim)) fun _ _ z=>z.elim)
  cases ok with
  | false=>exact wpAny_pure ⟨rfl,h₃⟩
  | true =>
   exact wpAny_bind (wpAny_bind (wpAny_mono h₃ (fun x s₄ h₄=>wpAny_bind (wpAny_mono h₄ (fun _ s₅ h₅=>wpAny_pure (wpAny_pure ⟨rfl,h₅⟩)) fun _ _ z=>z.elim)) fun _ _ z=>z.elim))
noncomputable def PIfs (X : Cx) (ifs : List Expr) (t : TT) : Prop :=
 ∀ (pins : List (Addr × Obj)) (s : Shared) (σ : St) (H : Hp) (Q : Bool → Hp → Prop),Inv X pins σ H s → t σ H Q →
  wpAny (model X.prog X.w) X.A (forIn ifs true fun c r=>if r = true then do let ok ← isTrue c X.env (eval c X.env); pure (ForInStep.yield ok) else pure (ForInStep.yield r)) (TP X pins σ Q) X.xe s
noncomputable def tYes : TT:=fun _ H Q=>Q true H
theorem J2L {X : Cx} : PIfs X [] tYes:=fun _ _ _ H _ I h=>wpAny_tests_nil ⟨H,I,h⟩
theorem J49 {X : Cx} {c : Expr} {t : TT} (hc : PT X c t) : PIfs X [c] t:=fun pins s σ H Q I h=>wpAny_tests_one (hc pins s σ H Q I h)
noncomputable def J4Z (J : It) (H1 : Hp) (σ0 : St) (g : TG) (tc : TT) (te : TE) (Q : VK) : Prop:=∀ D,H1 D = none →
  ∃ W : Nat → Nat → St → List V → Hp → Prop,(∃ m,W 0 m σ0 [] (upd H1 D (.lst []))) ∧ ∀ i m σ1 ys H,W i m σ1 ys H →
    (J.stop i H ∧ Q (.ref D) H) ∨ (J.go i H ∧ ∀ x H',J.yld i H x H' → g x σ1 H' fun σ2 H2=>tc σ2 H2 fun b H3 =>
       if b = true then te σ2 H3 fun y H4=>H4 D = some (.lst ys) ∧ ys.length < sizeLine ∧ ∃ m',m' < m ∧ W (i + 1) m' σ2 (ys ++ [y]) (upd H4 D (.lst (ys ++ [y])))
       else ∃ m',m' < m ∧ W (i + 1) m' σ2 ys H3)
noncomputable def JbR (wi : TI) (sub : St → St) (g : TG) (tc : TT) (te : TE) : TE:=fun σ H Q=>wi σ H fun J H1=>J4Z J H1 (sub σ) g tc te Q
noncomputable def subσ (js : List (Option Nat)) (σ : St) : St:=js.map fun o=>o.bind fun j=>(σ[j]?).join
theorem J1p {env : Env} : ∀ {names : List (Str × NameKind)} {x : Str},names.lookup x = some .free →
  (names.map fun (n,k)=>if (k == NameKind.free && env.scope.kind == .function && env.kindOf n == some .cell) then (n,NameKind.cell) else (n,k)).lookup x = some .cell ∨
  (names.map fun (n,k)=>if (k == NameKind.free && env.scope.kind == .function && env.kindOf n == some .cell) then (n,NameKind.cell) else (n,k)).lookup x = some .free
 | [],_,h=>by simp at h
 | (n,k) :: r,x,h=>by
  have ih:=@J1p env r x
  show List.lookup x ((if (k == NameKind.free && env.scope.kind == .function && env.kindOf n == some .cell) = true then (n,NameKind.cell) else (n,k)) :: _) = _ ∨ List.lookup x ((if (k == NameKind.free && env.scope.kind == .function && env.kindOf n == some .cell) = true then (n,NameKind.cell) else (n,k)) :: _) = _
  cases hx : x == n with
  | true =>
   simp only [List.lookup_cons,hx] at h
   cases h
   by_cases hc : (NameKind.free == NameKind.free && env.scope.kind == .function && env.kindOf n == some .cell) = true
   ·rw [if_pos hc]; left; simp only [List.lookup_cons,hx]
   ·rw [if_neg hc]; right; simp only [List.lookup_cons,hx]
  | false =>
   simp only [List.lookup_cons,hx] at h
   by_cases hc : (k == NameKind.free && env.scope.kind == .function && env.kindOf n == some .cell) = true
   ·rw [if_pos hc]; simp only [List.lookup_cons,hx]; exact ih h
   ·rw [if_neg hc]; simp only [List.lookup_cons,hx]; exact ih h
theorem J2K {env : Env} : ∀ {names : List (Str × NameKind)} {x : Str},(∀ y ∈ names,y.2 ≠ NameKind.cell) →
  ((names.map fun (n,k)=>if (k == NameKind.free && env.scope.kind == .function && env.kindOf n == some .cell) then (n,NameKind.cell) else (n,k)).lookup x = some .cell ∨
  (names.map fun (n,k)=>if (k == NameKind.free && env.scope.kind == .function && env.kindOf n == some .cell) then (n,NameKind.cell) else (n,k)).lookup x = some .free) → (x,NameKind.free) ∈ names
 | [],_,_,h=>by simp at h
 | (n,k) :: r,x,hn,h=>by
  have ih:=@J2K env r x fun y hy=>hn y (List.mem_cons_of_mem _ hy)
  have hk : k ≠ .cell:=hn (n,k) List.mem_cons_self
  change List.lookup x ((if (k == NameKind.free && env.scope.kind == .function && env.kindOf n == some .cell) = true then (n,NameKind.cell) else (n,k)) :: _) = _ ∨ List.lookup x ((if (k == NameKind.free && env.scope.kind == .function && env.kindOf n == some .cell) = true then (n,NameKind.cell) else (n,k)) :: _) = _ at h
  cases hx : x == n with
  | true =>
   have hx' : x = n:=by simpa using hx
   subst hx'
   by_cases hc : (k == NameKind.free && env.scope.kind == .function && env.kindOf x == some .cell) = true
   ·have : k = .free:=by
     have:=(Bool.and_eq_true _ _).mp ((Bool.and_eq_true _ _).mp hc).1
     simpa using this.1
    subst this
    exact List.mem_cons_self
   ·rw [if_neg hc] at h
    simp only [List.lookup_cons,beq_self_eq_true] at h
    rcases h with h | h
    ·exact absurd (Option.some.inj h) hk
    ·have:=Option.some.inj h
     subst this
     exact List.mem_cons_self
  | false =>
   by_cases hc : (k == NameKind.free && env.scope.kind == .function && env.kindOf n == some .cell) = true
   ·rw [if_pos hc] at h; simp only [List.lookup_cons,hx] at h; exact List.mem_cons_of_mem _ (ih h)
   ·rw [if_neg hc] at h; simp only [List.lookup_cons,hx] at h; exact List.mem_cons_of_mem _ (ih h)
section
variable {X : Cx} {elt tg iter : Expr} {ifs : List Expr} {scope : Scope} {pos : Pos} {N : List Str} {js : List (Option Nat)} {wi : TI} {g : TG} {tc : TT} {te : TE}
structure J3e (osc : Scope) (ON : List Str) (scope : Scope) (N : List Str) (js : List (Option Nat)) : Prop where
 kind : scope.kind = .function
 cell : ∀ y ∈ scope.names,y.2 ≠ .cell
 names : ∀ y ∈ scope.names,y.2 = .local → scope.names.lookup y.1 = some .local
 free : ∀ y ∈ scope.names,y.2 = .free → osc.names.lookup y.1 = some .cell ∨ osc.names.lookup y.1 = some .free
 len : js.length = N.length
 slots : (js.zip N).all (fun p=>match p.1 with | none=>true | some j=>decide (ON[j]? = some p.2) && decide (scope.names.lookup p.2 = some .free)) = true
theorem J3e.sub {osc : Scope} {ON : List Str} {scope : Scope} {N : List Str} {js : List (Option Nat)} (cs : J3e osc ON scope N js) : ∀ (i j : Nat),js[i]? = some (some j) → ∃ x,N[i]? = some x ∧ ON[j]? = some x ∧ scope.names.lookup x = some .free:=by
 intro i j h
 have hi : i < js.length:=(List.getElem?_eq_some_iff.mp h).1
 have hN : N[i]? = some (N[i]'(by rw [← cs.len]; exact hi)):=List.getElem?_eq_getElem _
 have hz : (js.zip N)[i]? = some (some j,N[i]'(by rw [← cs.len]; exact hi)):=by
  rw [List.getElem?_zip_eq_some]
  exact ⟨h,hN⟩
 have hm:=List.all_eq_true.mp cs.slots _ (List.mem_of_getElem? hz)
 have hm2:=(Bool.and_eq_true _ _).mp hm
 exact ⟨_,hN,of_decide_eq_true hm2.1,of_decide_eq_true hm2.2⟩
theorem mem_of_lookup {α : Type} : ∀ {l : List (Str × α)} {x : Str} {k : α},l.lookup x = some k → (x,k) ∈ l
 | [],_,_,h=>by simp at h
 | (n,v) :: r,x,k,h=>by
  rw [List.lookup_cons] at h
  cases hx : x == n with
  | true =>
   rw [hx] at h
   have hx' : x = n:=by simpa using hx
   have : v = k:=Option.some.inj h
   subst hx' this
   exact List.mem_cons_self
  | false =>
   rw [hx] at h
   exact List.mem_cons_of_mem _ (mem_of_lookup h)
theorem J1Y {osc : Scope} {ON : List Str} (cs : J3e osc ON scope N js) (ho : X.env.scope = osc) (hON : X.N = ON) (hc : X.calm = true) (hi : PI X tg iter wi)
    (hg : ∀ s₀ H₀ cl C ex,PG (J21 X scope N s₀ H₀ cl C ex) tg g) (hif : ∀ s₀ H₀ cl C ex,PIfs (J21 X scope N s₀ H₀ cl C ex) ifs tc) (he : ∀ s₀ H₀ cl C ex,PE (J21 X scope N s₀ H₀ cl C ex) elt te)
    (hs : ∀ x,foldedSetIterable iter X.env x = pure x:=by intro _; rfl) : PE X (.ListComp elt [⟨tg,iter,ifs,0⟩] scope pos) (JbR wi (subσ js) g tc te):=by
  intro pins s σ H Q I h
  subst ho hON
  obtain ⟨cl,hcl,cl1,cl2⟩:=J4H (scope:=scope) (env:=X.env) fun y hy hf=>I.ok.has y.1 (cs.free y hy hf)
  rw [eval_ListComp]
  refine wpAny_comprehension_free (use:=none) rfl hs hcl cs.kind cs.names ?_
  refine thn (hi pins s σ H _ I h) fun v s1 h1=>thn h1 fun itv s2 h2=>?_
  obtain ⟨it,fp,tn,J,H2,e,I2,T,st2,f2,hW⟩:=h2
  subst e
  have hD0 : H2 s2.heap.objs.size = none:=I2.hok.fresh (Nat.le_refl _)
  obtain ⟨W,⟨m0,w0⟩,turn⟩:=hW s2.heap.objs.size hD0
  have I3:=I2.lnew (t':=s2.toks) (ys:=[]) (its:=[]) .nil (Nat.zero_le _)
  refine wpAny_newObj_type (wpAny_newFunctionEnv cs.cell (by intro y hy; simp at hy) (fun h₁ hns₁ hsb₁=>?_) cs.kind)
  dsimp only at hns₁ hsb₁ ⊢
  obtain ⟨s3,hs3⟩ : ∃ s3 : Shared,s3 = { s2 with heap:=s2.heap.push { cls:=.type "list",data:=.seq ([] : List Value).toArray },toks:=s2.toks }:=⟨_,rfl⟩
  rw [← hs3] at I3
  have e3 : s3.heap = s2.heap.push { cls:=.type "list",dict:=none,data:=.seq ([] : List Value).toArray }:=by rw [hs3]
  have e3o : s3.os = s2.os:=by rw [hs3]
  have e3g : s3.gens = s2.gens:=by rw [hs3]
  rw [← e3] at hns₁ hsb₁ ⊢
  obtain ⟨H3,hH3⟩ : ∃ H3 : Hp,H3 = upd H2 s2.heap.objs.size (.lst []):=⟨_,rfl⟩
  rw [← hH3] at I3 w0
  have up1 : ∀ b o,s2.heap.get? b = some o → s3.heap.get? b = some o:=fun b o q=>by rw [e3]; exact Heap.get?_push_of_some _ q
  have up2 : ∀ b o,s3.heap.get? b = some o → h₁.get? b = some o:=fun b o q=>hsb₁.extBut b o (Nat.ne_of_lt (Heap.lt_size q)) (Heap.get?_push_of_some _ q)
  have fpo : ∀ b ∈ fp,∃ o,s3.heap.get? b = some o:=fun b hb=>by
    obtain ⟨o,ho,_⟩:=T.obj 0 _ st2 b hb
    exact ⟨o,up1 b o ho⟩
  have fr3 : ∀ b ∈ fp,H3 b = none:=fun b hb=>by
    obtain ⟨o,ho,_⟩:=T.obj 0 _ st2 b hb
    rw [hH3,Jr (Nat.ne_of_lt (Heap.lt_size ho))]
    exact (f2 b hb).1
  have fpC : ∀ b ∈ fp,b ≠ s3.heap.objs.size:=fun b hb=>by
    obtain ⟨o,ho⟩:=fpo b hb
    exact Nat.ne_of_lt (Heap.lt_size ho)
  have fpS : ∀ b ∈ fp,b ∉ frs X.stack:=fun b hb hs'=>by
    rcases List.mem_cons.mp (I2.stkSub b hs') with z | z
    · exact (f2 b hb).2.1 z
    · exact (f2 b hb).2.2.1 z
  have ok' : (J21 X scope N s3 H3 cl s3.heap.objs.size fp).Ok:=by
    refine ⟨I.ok.mod,cs.kind,I.ok.glob,I.ok.blt,Nat.le_refl _,fun x y c e1 e2=>I.ok.inj x y c (cl2 x c e1) (cl2 y c e2),fun x hx=>?_,fun x c hf=>(nomatch hf),I.ok.hd,I.ok.frames,.inl rfl,fun b hb=>⟨fpC b hb,fun x c e=>(f2 b hb).2.2.2.2.1 x c (cl2 x c e)⟩,
      I3.bs,Nat.le_trans I.ok.bsz I3.sz,fun b o e hb=>?_,fun b hb=>fpS b hb,I3.stack,I3.stkFree⟩
    · have hm : (x,NameKind.free) ∈ scope.names:=J2K cs.cell hx
      obtain ⟨c,hc⟩:=I.ok.has x (cs.free _ hm rfl)
      exact ⟨c,(cl1 _ hm rfl).trans hc⟩
    · rcases (f2 b hb).2.2.2.1 with z | z
      · exact I.ok.noex b o e z
      · exact absurd (Nat.lt_of_lt_of_le (Heap.lt_size e) (Nat.le_trans I.ok.bsz z)) (Nat.lt_irrefl _)
  have cellK : ∀ c v,s3.heap.IsCell c v → h₁.IsCell c v:=fun c v ⟨o,ho,hd⟩=>⟨o,up2 c o ho,hd⟩
  have I4 : ∀ t : Nat,Inv (J21 X scope N s3 H3 cl s3.heap.objs.size fp) [] (subσ js σ) H3 { s2 with heap:=h₁,toks:=t }:=fun t=>by
    refine ⟨ok',e3o.symm,I2.bare,Un.kept up2,⟨_,hns₁,fun i x v hi hv hx=>?_⟩,fun x c e=>?_,I3.hok.fresh (Nat.le_refl _),fun x c e=>I3.freeC x c (cl2 x c e),fun p hp=>(nomatch hp),I3.hok.kept up2,?_⟩
    ·
      have hv' : ∃ j,js[i]? = some (some j) ∧ σ[j]? = some (some v):=by
        unfold subσ at hv
        rw [List.getElem?_map] at hv
        cases hj : js[i]? with
        | none=>rw [hj] at hv; cases hv
        | some o =>
          rw [hj] at hv
          cases o with
          | none=>cases hv
          | some j =>
            refine ⟨j,rfl,?_⟩
            have hv2 : (σ[j]?).join = some v:=Option.some.inj hv
            cases hs2 : σ[j]? with
            | none=>rw [hs2] at hv2; cases hv2
            | some u=>rw [hs2] at hv2; exact congrArg some hv2
      obtain ⟨j,hj,hσ⟩:=hv'
      obtain ⟨x',h1',h2',h3'⟩:=cs.sub i j hj
      have hxx : x = x':=Option.some.inj (hi.symm.trans h1')
      subst hxx
      have hm : (x,NameKind.free) ∈ scope.names:=mem_of_lookup h3'
      have hk:=cs.free _ hm rfl
      obtain ⟨m,hn,hl⟩:=id I3.loc
      obtain ⟨u,ru,lk⟩:=hl j x v h2' hσ (by rcases hk with z | z; exact .inr (.inl z); exact .inr (.inr z))
      refine ⟨u,ru,?_⟩
      rcases lk with ⟨k1,_⟩ | ⟨k1,c,e1,z⟩
      · rcases hk with z | z <;> (rw [show X.env.kindOf x = _ from z] at k1; cases k1)
      · exact .inr ⟨J1p h3',c,(cl1 _ hm rfl).trans e1,cellK c _ z⟩
    · obtain ⟨v,z⟩:=I3.cell x c (cl2 x c e)
      exact ⟨v,cellK c v z⟩
    · unfold subσ
      rw [List.length_map]
      exact cs.len
  have hst₁ : tn 0 h₁:=T.keep 0 _ _ st2 fun b hb o q=>up2 b o (up1 b o q)
  have stat : ∀ {H' : Hp},(∀ b ∈ fp,H' b = none) → ∀ b ∈ fp,FpOk (J21 X scope N s3 H3 cl s3.heap.objs.size fp) [] H' b:=fun hn b hb =>
    ⟨hn b hb,fpC b hb,fpS b hb,.inl hb,fun x c e=>(f2 b hb).2.2.2.2.1 x c (cl2 x c e),fun p hp=>(nomatch hp)⟩
  have loop : ∀ s4 : Shared,(∃ t,s4 = { s2 with heap:=h₁,toks:=t }) →
      codeAny (model X.prog X.w) X.A (.compLoop (.ListComp elt [⟨tg,iter,ifs,0⟩] scope pos) 0 (.ref it) (.ref s2.heap.objs.size) (compEnvC scope cl s3.heap.objs.size X.env))
        (compPost (model X.prog X.w) X.A X.xe none (EP X pins σ Q) (.ref s2.heap.objs.size) s3.heap.objs.size) s4:=by
    rintro s4 ⟨t,rfl⟩
    refine J5J (fun n s'=>∃ i σ' ys H',Inv (J21 X scope N s3 H3 cl s3.heap.objs.size fp) [] σ' H' s' ∧ tn i s'.heap ∧ (∀ b ∈ fp,H' b = none) ∧ W i n σ' ys H') ?_ m0 ⟨0,_,[],H3,I4 t,hst₁,fr3,w0⟩
    rintro n s5 ⟨i,σ5,ys,H5,I5,st5,fr5,w5⟩
    rcases turn i n σ5 ys H5 w5 with ⟨stop,qn⟩ | ⟨go,step⟩
    · refine thn (T.done (J21 X scope N s3 H3 cl s3.heap.objs.size fp) rfl rfl rfl hc i [] s5 σ5 H5 _ I5 (stat fr5) st5 stop) fun r s6 ⟨hr,I6⟩=>?_
      subst hr
      obtain ⟨m,hn,_⟩:=id I6.loc
      refine ⟨m,hn,fun h' hs'=>⟨.ref s2.heap.objs.size,H5,?_,rfl,qn⟩⟩
      have neC : ∀ b o,s3.heap.get? b = some o → b ≠ s3.heap.objs.size:=fun b o q=>Nat.ne_of_lt (Heap.lt_size q)
      have un : Un (frs X.stack) fp H3 H5 s3.heap h' :=
        ⟨fun b o q n1 hb hx=>(hs'.2 b (neC b o q)).trans (I6.base.keep b o q n1 hb hx),
         fun b o q n1 hb hx=>by
           obtain ⟨sl,e⟩:=I6.base.slot b o q n1 hb hx
           exact ⟨sl,(hs'.2 b (neC b o q)).trans e⟩,
         fun b o q n1 hx=>I6.base.free b o q n1 hx,
         fun b o q hx=>by
           obtain ⟨o',e⟩:=I6.base.there b o q hx
           exact ⟨o',(hs'.2 b (neC b o q)).trans e⟩,
         I6.base.tups,I6.base.frzs,I6.base.tbls⟩
      refine I3.call' (ch:=fp) (s':={ s6 with heap:=h' }) I6.os un (fun b ob e=>?_) I6.bare (fun b hb=>⟨(f2 b hb).2.2.2.1,(f2 b hb).2.1,(f2 b hb).2.2.2.2.1,(f2 b hb).2.2.2.2.2⟩)
      refine (I6.hok b ob e).stay (fun c w' hc' q=>(hs'.2 c ?_).trans q) (fun _ q=>q) fun _ _ q=>q
      rintro rfl
      have fC : H5 s3.heap.objs.size = none:=I6.free
      rcases hc' with z | z
      · rw [← z,fC] at e; cases e
      · rw [fC] at z; cases z
    · refine thn (T.item (J21 X scope N s3 H3 cl s3.heap.objs.size fp) rfl rfl rfl hc i [] s5 σ5 H5 _ I5 (stat fr5) st5 go) fun r s6 ⟨u,hr,h6⟩=>?_
      subst hr
      refine thn h6 fun _ s7 ⟨x,H7,I7,r7,y7,st7,fr7⟩=>?_
      have I7':=I7.pinned (stat fr7) (T.obj _ _ st7)
      refine thn (hg _ _ _ _ _ _ s7 σ5 H7 x u _ I7' r7 (step x H7 y7)) fun _ s8 ⟨σ8,H8,I8,q8⟩=>?_
      refine thn (hif _ _ _ _ _ _ s8 σ8 H8 _ I8 q8) fun ok s9 ⟨H9,I9,q9⟩=>?_
      have again : ∀ {σ' : St} {H' : Hp} {s' : Shared},Inv (J21 X scope N s3 H3 cl s3.heap.objs.size fp) ([] ++ J4n fp s7.heap) σ' H' s' →
          Inv (J21 X scope N s3 H3 cl s3.heap.objs.size fp) [] σ' H' s' ∧ tn (i + 1) s'.heap ∧ ∀ b ∈ fp,H' b = none:=fun {σ' H' s'} I'=>by
        refine ⟨I'.unpinned,T.keep _ _ _ st7 fun b hb o e=>(I'.pin (b,o) (List.mem_append_right _ (List.mem_append_right _ (J1V hb e)))).1,fun b hb=>?_⟩
        obtain ⟨o,e,d⟩:=T.obj _ _ st7 b hb
        exact (I'.pin (b,o) (List.mem_append_right _ (List.mem_append_right _ (J1V hb e)))).2.1
      cases ok with
      | false =>
        rw [if_neg Bool.false_ne_true] at q9 ⊢
        obtain ⟨m',hm,w9⟩:=q9
        obtain ⟨a1,a2,a3⟩:=again I9
        exact ⟨m',hm,i + 1,σ8,ys,H9,a1,a2,a3,w9⟩
      | true =>
        rw [if_pos rfl] at q9 ⊢
        refine thn (he _ _ _ _ _ _ s9 σ8 H9 _ I9 q9) fun yv s10 ⟨y,H10,I10,r10,q10⟩=>?_
        obtain ⟨hD,hz,m',hm,w10⟩:=q10
        refine thn (J0D (X:=J21 X scope N s3 H3 cl s3.heap.objs.size fp) _ s10 σ8 H10 (.ref s2.heap.objs.size) [y] (.ref s2.heap.objs.size) [yv] (fun v H'=>H' = upd H10 s2.heap.objs.size (.lst (ys ++ [y]))) I10 rfl (.cons r10 .nil)
          ⟨s2.heap.objs.size,ys,y,rfl,rfl,hD,hz,rfl⟩) fun _ s11 ⟨v11,H11,I11,_,e11⟩=>?_
        have e11' : H11 = upd H10 s2.heap.objs.size (.lst (ys ++ [y])):=e11
        subst e11'
        obtain ⟨a1,a2,a3⟩:=again I11
        exact ⟨m',hm,i + 1,σ8,ys ++ [y],_,a1,a2,a3,w10⟩
  exact codeAny_compStart_list (loop _ ⟨_,rfl⟩) (T.self X.A 0 _ _ _ hst₁ (loop _ ⟨_,rfl⟩))
end
structure J59 (J : It) (H0 : Hp) (xs : List V) : Prop where
 go : ∀ i H,Same H0 H → i < xs.length → J.go i H
 yld : ∀ i H x H',Same H0 H → i < xs.length → J.yld i H x H' → H' = H ∧ xs[i]? = some x
 stop : ∀ H,Same H0 H → J.stop xs.length H
theorem J7H {K : PySem.W.Frag} {a : Addr} {H : Hp} {xs : List V} (h : SqL K H a xs) : J59 (Itl K a) H xs where
 go:=fun i H' s hi=>⟨xs,xs[i],s.seq h,by simp [hi]⟩
 yld:=fun i H' x H'' s hi y=>⟨y.1,y.2 xs (s.seq h)⟩
 stop:=fun H' s=>⟨xs,s.seq h,Nat.le_refl _⟩
theorem J6B {H : Hp} (lo : Int) (n : Nat) : J59 (Itr lo n) H ((List.range n).map fun i=>.int (lo + (i : Nat))) where
 go:=fun i H' s hi=>by rw [List.length_map,List.length_range] at hi; exact hi
 yld:=fun i H' x H'' s hi y=>by
  rw [List.length_map,List.length_range] at hi
  refine ⟨y.1,?_⟩
  rw [List.getElem?_map,List.getElem?_range hi]
  exact congrArg some y.2.symm
 stop:=fun H' s=>by rw [List.length_map,List.length_range]; exact Nat.le_refl _
theorem JJ {H : Hp} {p : Addr} (h : H p = none) (o : HO) : Same H (upd H p o):=fun b u q=>by rw [Jr (Jp q h)]; exact q
theorem Same.upd {H H' : Hp} {p : Addr} {o : HO} (s : Same H H') (h : H p = none) : Same H (upd H' p o):=fun b u q=>by rw [Jr (Jp q h)]; exact s b u q
theorem J64 {J : It} {H : Hp} {xs : List V} {σ0 : St} {k : Nat} {tc : TT} {te : TE} {Q : VK} (p : V → Bool) (f : V → V) (hJ : J59 J H xs) (hx : xs.length ≤ 1000000)
  (hc : ∀ x ∈ xs,∀ H',Same H H' → ∀ R : Bool → Hp → Prop,(∀ H'',Same H' H'' → R (p x) H'') → tc (σ0.set k (some x)) H' R)
  (he : ∀ x ∈ xs,p x = true → ∀ H',Same H H' → ∀ R : VK,(∀ H'',Same H' H'' → R (f x) H'') → te (σ0.set k (some x)) H' R)
  (hQ : ∀ D H',H D = none → Same H H' → H' D = some (.lst ((xs.filter p).map f)) → Q (.ref D) H') :
  J4Z J H σ0 (J2M k) tc te Q:=by
 intro D hD
 refine ⟨fun i m σ1 ys H'=>m = xs.length - i ∧ i ≤ xs.length ∧ (σ1 = σ0 ∨ ∃ v,σ1 = σ0.set k v) ∧ ys = ((xs.take i).filter p).map f ∧ H' D = some (.lst ys) ∧ Same H H',⟨xs.length,by simp,Nat.zero_le _,.inl rfl,rfl,Jb,JJ hD _⟩,?_⟩
 rintro i m σ1 ys H' ⟨rfl,hi,hσ,rfl,hDD,hs⟩
 by_cases hlt : i < xs.length
 ·refine .inr ⟨hJ.go i H' hs hlt,fun x H'' hy=>?_⟩
  obtain ⟨e1,hx1⟩:=hJ.yld i H' x H'' hs hlt hy
  subst e1
  have hm : x ∈ xs:=List.mem_of_getElem? hx1
  have hset : σ1.set k (some x) = σ0.set k (some x):=by
   rcases hσ with rfl | ⟨v,rfl⟩
   ·rfl
   ·rw [List.set_set]
  show tc (σ1.set k (some x)) H'' _
  rw [hset]
  have tk : ((xs.take (i + 1)).filter p).map f = ((xs.take i).filter p).map f ++ (if p x = true then [f x] else []):=by
   rw [List.take_add_one,hx1,List.filter_append,List.map_append]
   cases hp : p x <;> simp [hp]
  refine hc x hm H'' hs _ fun H3 s3=>?_
  have s03 : Same H H3:=hs.trans s3
  have lenk : (((xs.take i).filter p).map f).length < sizeLine:=by
   have h1:=List.length_filter_le p (xs.take i)
   rw [List.length_take] at h1
   rw [List.length_map]
   have : (1000001 : Nat) ≤ sizeLine:=by decide
   omega
  refine ite2 (fun hp=>?_) (fun hp=>?_)
  ·refine he x hm hp H3 s03 _ fun H4 s4=>⟨s4 _ _ (s3 _ _ hDD),lenk,xs.length - (i + 1),by omega,rfl,hlt,.inr ⟨_,rfl⟩,?_,?_,?_⟩
   ·rw [tk,if_pos hp]
   ·exact Jb
   ·exact (s03.trans s4).upd hD
  ·refine ⟨xs.length - (i + 1),by omega,rfl,hlt,.inr ⟨_,rfl⟩,?_,s3 _ _ hDD,s03⟩
   rw [tk,if_neg hp,List.append_nil]
 ·have e : i = xs.length:=by omega
  subst e
  refine .inl ⟨hJ.stop H' hs,hQ D H' hD hs ?_⟩
  rw [hDD,List.take_length]
theorem J7d {J : It} {H : Hp} {xs : List V} {σ0 : St} {k : Nat} {te : TE} {Q : VK} (f : V → V) (hJ : J59 J H xs) (hx : xs.length ≤ 1000000)
  (he : ∀ x ∈ xs,∀ H',Same H H' → ∀ R : VK,(∀ H'',Same H' H'' → R (f x) H'') → te (σ0.set k (some x)) H' R)
  (hQ : ∀ D H',H D = none → Same H H' → H' D = some (.lst (xs.map f)) → Q (.ref D) H') :
  J4Z J H σ0 (J2M k) tYes te Q :=
 J64 (fun _=>true) f hJ hx (fun x _ H' _ R hR=>hR H' (Same.refl _)) (fun x hm _=>he x hm) (fun D H' h1 h2 h3=>hQ D H' h1 h2 (by rw [h3,List.filter_eq_self.mpr fun _ _=>rfl]))
end L2
set_option linter.all false
set_option maxRecDepth 100000
set_option maxHeartbeats 4000000
namespace L2
open PySem PySem.Spec PyProof.Rows
noncomputable abbrev T (l : List Nat) : V:=.str ⟨l.toArray⟩
theorem JaJ {a b : List Nat} (h : T a = T b) : a = b:=by
 have h1 : (⟨a.toArray⟩ : Str) = ⟨b.toArray⟩:=V.str.inj h
 have h2 : a.toArray = b.toArray:=congrArg Str.cps h1
 simpa using h2
theorem J2W (l : List Nat) : (⟨l.toArray⟩ : Str).length = l.length:=by simp [Str.length]
theorem J9I (a b : List Nat) : (⟨a.toArray⟩ : Str) ++ ⟨b.toArray⟩ = ⟨(a ++ b).toArray⟩:=by
 show (⟨a.toArray ++ b.toArray⟩ : Str) = _
 simp
section
variable {X : Cx}
theorem Js {x : Str} {l : List Nat} {j pos} (h : x = ⟨l.toArray⟩) : PE X (.Constant (.str x) j pos) (tC (T l)):=by subst h; exact JaZ
noncomputable def JbJ : R2:=fun x y H Q=>∃ a b,x = T a ∧ y = T b ∧ a.length + b.length ≤ sizeLine ∧ Q (T (a ++ b)) H
theorem Jv : OpR X (binaryOp .Add) JbJ:=by
 intro pins s σ H x y v u Q I rx ry h
 obtain ⟨a,b,rfl,rfl,hz,q⟩:=h
 exact J7K pins s σ H _ _ v u Q I rx ry ⟨_,_,rfl,rfl,by rw [J2W,J2W]; exact hz,by rw [J9I]; exact q⟩
noncomputable def Jbz : R2:=fun x y H Q=>∃ l i c,x = T l ∧ y = .int i ∧ l.length ≤ sizeLine ∧ atI l i = some c ∧ Q (T [c]) H
theorem J1d : IxR X Jbz:=by
 intro value slice pins s σ H x y v u Q I rx ry h hs
 obtain ⟨l,i,c,rfl,rfl,hz,he,q⟩:=h
 exact Jbf value slice pins s σ H _ _ v u Q I rx ry ⟨_,i,c,rfl,rfl,by rw [J2W]; exact hz,by simpa using he,q⟩ hs
theorem J90 : OpR X (compareOp .NotIn) (fun x y H Q=>∃ c m,x = T [c] ∧ y = T m ∧ Q (.bl (!decide (c ∈ m))) H):=by
 intro pins s σ H x y v u Q I rx ry h
 obtain ⟨c,m,rfl,rfl,q⟩:=h
 refine J65 pins s σ H _ _ v u Q I rx ry ⟨_,_,rfl,rfl,?_⟩
 have e:=StrLaws.found_one ⟨m.toArray⟩ c
 rw [show (!(Builtin.Str.occurrences ⟨m.toArray⟩ ⟨[c].toArray⟩ 0 (⟨m.toArray⟩ : Str).length 1).isEmpty) = decide (c ∈ m) from by simpa using e]
 exact q
theorem JE : J1i X (.builtin "len") (fun xs H Q=>∃ l,xs = [T l] ∧ l.length ≤ sizeLine ∧ Q (.int l.length) H):=by
 intro pins s σ H xs us Q I r h
 obtain ⟨l,rfl,hz,q⟩:=h
 exact J5V pins s σ H _ us Q I r ⟨_,rfl,by rw [J2W]; exact hz,by rw [J2W]; exact q⟩
end
noncomputable def cutN {α : Type} (xs : List α) (lo hi : Option Int) : List α:=(xs.drop (HT.sIx xs.length 0 lo)).take (HT.sIx xs.length xs.length hi - HT.sIx xs.length 0 lo)
noncomputable def J9V (n : Nat) (d : Int) : Option Int → Int
 | none=>d
 | some i=>max 0 (min (if i < 0 then i + (n : Int) else i) (n : Int))
theorem J78 (n d : Nat) (o : Option Int) : J9V n (d : Int) o = ((HT.sIx n d o : Nat) : Int):=by
 cases o with
 | none=>rfl
 | some i =>
  show max 0 (min (if i < 0 then i + (n : Int) else i) (n : Int)) = (((if i < 0 then (i + (n : Int)).toNat else min i.toNat n) : Nat) : Int)
  by_cases hi : i < 0
  ·rw [if_pos hi,if_pos hi]; omega
  ·rw [if_neg hi,if_neg hi]; omega
theorem Jb8 (a b : Nat) : sliceRange (a : Int) (b : Int) 1 = (List.range (b - a)).map fun k=>a + k:=by
 unfold sliceRange
 simp only [show (1 : Int) > 0 by decide,if_true]
 have e1 : (if (a : Int) < (b : Int) then ((b : Int) - (a : Int) + 1 - 1) / 1 else 0).toNat = b - a:=by
  split <;> simp <;> omega
 rw [e1]
 refine List.map_congr_left fun k _=>?_
 omega
theorem J5R (lo hi : Option Int) (n : Nat) : Builtin.Str.strSliceIndices lo hi 1 n = (List.range (HT.sIx n n hi - HT.sIx n 0 lo)).map fun k=>HT.sIx n 0 lo + k:=by
 have e : Builtin.Str.strSliceIndices lo hi 1 n = sliceRange (J9V n ((0 : Nat) : Int) lo) (J9V n ((n : Nat) : Int) hi) 1:=by
  cases lo <;> cases hi <;> rfl
 rw [e,J78,J78,Jb8]
theorem JbE (l : List Nat) (i k : Nat) : ((List.range k).map fun m=>i + m).filterMap (fun j=>l.toArray[j]?) = (l.drop i).take k:=by
 induction k generalizing i with
 | zero=>simp
 | succ k ih =>
  rw [List.range_succ_eq_map,List.map_cons,List.filterMap_cons,List.map_map]
  have e : ((fun m=>i + m) ∘ Nat.succ) = fun m=>(i + 1) + m:=by funext m; simp; omega
  rw [e,ih (i + 1)]
  by_cases h : i < l.length
  ·have : l.toArray[i + 0]? = some l[i]:=by simp [h]
   rw [this,List.drop_eq_getElem_cons h,List.take_succ_cons]
  ·have : l.toArray[i + 0]? = none:=by simp; omega
   rw [this,List.drop_eq_nil_of_le (by omega),List.drop_eq_nil_of_le (by omega)]
   simp
theorem J93 {α : Type} {l : List α} {lo hi : Option Int} (h : (cutN l lo hi).length = l.length) : cutN l lo hi = l:=by
 unfold cutN at h ⊢
 rw [List.length_take,List.length_drop] at h
 have h2:=HT.sIx_le l.length l.length (Nat.le_refl _) hi
 by_cases h0 : l.length = 0
 ·have : l = []:=List.length_eq_zero_iff.mp h0
  subst this; simp
 ·have e0 : HT.sIx l.length 0 lo = 0:=by omega
  rw [e0,List.drop_zero]
  exact List.take_of_length_le (by omega)
theorem J8G (l : List Nat) (lo hi : Option Int) : Txt.slice ⟨l.toArray⟩ lo hi = ⟨(cutN l lo hi).toArray⟩:=by
 unfold Txt.slice
 rw [J2W,J5R]
 have e:=JbE l (HT.sIx l.length 0 lo) (HT.sIx l.length l.length hi - HT.sIx l.length 0 lo)
 have e2 : ((List.range (HT.sIx l.length l.length hi - HT.sIx l.length 0 lo)).map fun k=>HT.sIx l.length 0 lo + k).filterMap (fun x=>(⟨l.toArray⟩ : Str).cps[x]?) = cutN l lo hi:=e
 by_cases h : ((1 : Int) == 1 && ((List.range (HT.sIx l.length l.length hi - HT.sIx l.length 0 lo)).map fun k=>HT.sIx l.length 0 lo + k).length == l.length) = true
 ·rw [if_pos h]
  have h' : HT.sIx l.length l.length hi - HT.sIx l.length 0 lo = l.length:=by
   have:=((Bool.and_eq_true _ _).mp h).2
   simpa using this
  have : (cutN l lo hi).length = l.length:=by
   unfold cutN
   rw [List.length_take,List.length_drop]
   have:=HT.sIx_le l.length l.length (Nat.le_refl _) hi
   omega
  rw [J93 this]
 ·rw [if_neg h,e2]
section
variable {X : Cx}
noncomputable def rSlS : V → Option Int → Option Int → Hp → VK → Prop:=fun x lo hi H Q=>∃ l,x = T l ∧ l.length ≤ sizeLine ∧ Q (T (cutN l lo hi)) H
theorem J7S : SlR X rSlS:=by
 intro pins s σ H x v vl vu lo hi sl Q I rx hs pl pu h
 obtain ⟨l,rfl,hz,q⟩:=h
 obtain ⟨t,rfl⟩:=rx
 refine ⟨"str",_,F.slot_str_getitem.lookup,typeIs_str _ _ _,?_⟩
 have fin : ∀ t' k,EP X pins σ Q (.str (Txt.slice ⟨l.toArray⟩ lo hi) t') { s with toks:=k }:=fun t' k=>⟨T (cutN l lo hi),H,I.tok _,⟨t',by rw [J8G]⟩,q⟩
 have hlen : (Txt.slice ⟨l.toArray⟩ lo hi).length ≤ sizeLine:=Nat.le_trans (Txt.slice_le _ _ _) (by rw [J2W]; exact hz)
 cases pl with
 | none =>
  cases pu with
  | none=>exact wpAny_getItem_str_slice (l:=none) (u:=none) (st:=none) hs rfl (post_val_or_str ⟨hlen,fin⟩)
  | int j uj=>exact wpAny_getItem_str_slice (l:=none) (u:=some (j,uj)) (st:=none) hs rfl (post_val_or_str ⟨hlen,fin⟩)
 | int i ui =>
  cases pu with
  | none=>exact wpAny_getItem_str_slice (l:=some (i,ui)) (u:=none) (st:=none) hs rfl (post_val_or_str ⟨hlen,fin⟩)
  | int j uj=>exact wpAny_getItem_str_slice (l:=some (i,ui)) (u:=some (j,uj)) (st:=none) hs rfl (post_val_or_str ⟨hlen,fin⟩)
end
noncomputable def Its (l : List Nat) : It:=⟨fun i _=>i < l.length,fun i H x H'=>H' = H ∧ ∃ c,l[i]? = some c ∧ x = T [c],fun i _=>l.length ≤ i⟩
theorem Ja1 {P : Program} {w : World} {K : PySem.W.Frag} {tg : Expr} {it : Addr} {l : List Nat} {t : Tok} {nm : String} (hn : nm = "str_ascii_iterator" ∨ nm = "str_iterator") :
  Turn P w K tg (Its l) [it] it (fun i h=>h.IsStrIter it nm ⟨l.toArray⟩ t i) where
 mem:=by simp
 obj:=fun i h st b hb=>by
  have e : b = it:=by simpa using hb
  subst e
  obtain ⟨o,e,c,d⟩:=st
  exact ⟨o,e,fun v z=>by rw [d] at z; cases z⟩
 keep:=fun i h h' st k=>by
  obtain ⟨o,e,r⟩:=st
  exact ⟨o,k it (by simp) o e,r⟩
 item:=by
  intro X hP hw hK hc i pins s σ H E I hf st hg
  subst hP hw hK
  obtain ⟨f0,f1,f2,f3,f4,f5⟩:=hf it (by simp)
  have hi : i < l.length:=hg
  have hx : (⟨l.toArray⟩ : Str).cps[i]? = some l[i]:=by simp [hi]
  have fin : ∀ h',h'.IsStrIter it nm ⟨l.toArray⟩ t (i + 1) → Heap.SameBut it s.heap h' → ∃ u,(some (Value.str ⟨#[l[i]]⟩ s.toks) : Option Value) = some u ∧
    wpAny (model X.prog X.w) X.A (letOwnedTupleGo tg (.ref it) u) (fun _ s2=>∃ x H',Inv X pins σ H' s2 ∧ RelV x u ∧ (Its l).yld i H x H' ∧ s2.heap.IsStrIter it nm ⟨l.toArray⟩ t (i + 1) ∧ ∀ b ∈ [it],H' b = none) E { s with heap:=h',toks:=s.toks + 1 }:=fun h' st' sb=>by
   have I1 : Inv X pins σ H { s with heap:=h',toks:=s.toks + 1 }:=I.turned (t':=s.toks + 1) (fun b o hb e=>(sb.2 b hb).trans e) f0 f1 f3 f4 f5
   obtain ⟨o,e,c,d⟩:=id st'
   refine ⟨_,rfl,J9s (s:={ s with heap:=h',toks:=s.toks + 1 }) e c d (by rcases hn with rfl | rfl <;> decide) ⟨T [l[i]],H,I1,⟨_,rfl⟩,⟨rfl,l[i],by simp [hi],rfl⟩,st',fun b hb=>(hf b hb).1⟩⟩
  rcases hn with rfl | rfl
  ·exact wpAny_pyNext_ascii_item st hx fin
  ·exact wpAny_pyNext_wide_item st hx fin
 done:=by
  intro X hP hw hK hc i pins s σ H E I hf st hg
  subst hP hw hK
  obtain ⟨f0,f1,f2,f3,f4,f5⟩:=hf it (by simp)
  have hi : l.length ≤ i:=hg
  have hx : (⟨l.toArray⟩ : Str).cps[i]? = none:=by simp; exact hi
  have fin : ∀ h',Heap.ExtBut it s.heap h' → (none : Option Value) = none ∧ Inv X pins σ H { s with heap:=h' }:=fun h' eb=>⟨rfl,I.turned (t':=s.toks) (fun b o hb e=>eb b o hb e) f0 f1 f3 f4 f5⟩
  rcases hn with rfl | rfl
  ·exact wpAny_pyNext_ascii_end (I.ok.hd hc) st hx fin
  ·exact wpAny_pyNext_wide_end (I.ok.hd hc) st hx fin
 self:=fun _ _ _ _ _ st h=>by
  rcases hn with rfl | rfl
  ·exact wpAny_pyIter_striter_ascii st h
  ·exact wpAny_pyIter_striter_wide st h
section
variable {X : Cx} {tg : Expr}
noncomputable def iTxt (tl : TE) : TI:=fun σ H R=>tl σ H fun x H1=>∃ l,x = T l ∧ R (Its l) H1
theorem J4p {e : Expr} {tl : TE} (hl : PE X e tl) : PI X tg e (iTxt tl):=by
 intro pins s σ H R I h
 refine thn (hl pins s σ H _ I h) fun v s1 ⟨x,H1,I1,r1,q1⟩=>?_
 obtain ⟨l,e,q⟩:=q1
 subst e
 obtain ⟨t,rfl⟩:=r1
 have fin : ∀ nm : String,(nm = "str_ascii_iterator" ∨ nm = "str_iterator") → PIE X pins σ tg R (.ref s1.heap.objs.size) { s1 with heap:=s1.heap.push { cls:=.type nm,data:=.fields #[.str ⟨l.toArray⟩ t,.int 0 0] } }:=fun nm hn=>by
  refine ⟨s1.heap.objs.size,[s1.heap.objs.size],_,_,H1,rfl,I1.kept (t':=s1.toks) fun b o e=>Heap.get?_push_of_some _ e,Ja1 (t:=t) hn,⟨_,Heap.get?_push_size _ rfl,rfl,rfl⟩,fun b hb=>?_,q⟩
  have e : b = s1.heap.objs.size:=by simpa using hb
  subst e
  exact I1.fpOk (Nat.le_refl _) (I1.hok.fresh (Nat.le_refl _))
 cases ha : (⟨l.toArray⟩ : Str).cps.all (· < 128) with
 | true=>exact wpAny_pyIter_ascii ha (fin _ (.inl rfl))
 | false=>exact wpAny_pyIter_wide ha (fin _ (.inr rfl))
end
theorem J2c {H : Hp} (l : List Nat) : J59 (Its l) H (l.map fun c=>T [c]) where
 go:=fun i H' s hi=>by rw [List.length_map] at hi; exact hi
 yld:=fun i H' x H'' s hi y=>by
  obtain ⟨e,c,hc,rfl⟩:=y
  exact ⟨e,by rw [List.getElem?_map,hc]; rfl⟩
 stop:=fun H' s=>by rw [List.length_map]; exact Nat.le_refl _
theorem Jay {l : List Nat} {g : TG} {tb : TS} {D : Ends} {σ : St} {H : Hp} (Pv : Nat → St → Hp → Prop) (h0 : Pv 0 σ H)
  (hs : ∀ i c σ H,l[i]? = some c → Pv i σ H → g (T [c]) σ H fun σ2 H2=>tb { D with nx:=Pv (i + 1),ct:=Pv (i + 1),bk:=D.nx } σ2 H2) (hd : ∀ σ H,Pv l.length σ H → D.nx σ H) :
  ∃ W : Nat → Nat → St → Hp → Prop,(∃ m,W 0 m σ H) ∧ ∀ i m σ H,W i m σ H →
   ((Its l).stop i H ∧ D.nx σ H) ∨ ((Its l).go i H ∧ ∃ N : St → Hp → Prop,(∀ σ' H',N σ' H' → ∃ m',m' < m ∧ W (i + 1) m' σ' H') ∧ ∀ x H',(Its l).yld i H x H' → g x σ H' fun σ2 H2=>tb { D with nx:=N,ct:=N,bk:=D.nx } σ2 H2):=by
 refine ⟨fun i m σ H=>m = l.length - i ∧ i ≤ l.length ∧ Pv i σ H,⟨l.length,by simp,Nat.zero_le _,h0⟩,?_⟩
 rintro i m σ H ⟨rfl,hi,p⟩
 by_cases hlt : i < l.length
 ·refine .inr ⟨hlt,Pv (i + 1),fun σ' H' p'=>⟨l.length - (i + 1),by omega,rfl,hlt,p'⟩,fun x H' y=>?_⟩
  obtain ⟨e,c,hc,rfl⟩:=y
  subst e
  exact hs i c σ _ hc p
 ·have e : i = l.length:=by omega
  subst e
  exact .inl ⟨Nat.le_refl _,hd σ H p⟩
theorem J51 : ∀ {ts : List (List Nat)} {us : List Value},Vals (ts.map T) us → PyProof.Rows.StrsAre us (ts.map fun l=>⟨l.toArray⟩)
 | [],_,h=>by cases h; exact .nil
 | l :: r,_,h=>by
  cases h with
  | cons r1 r2 =>
   obtain ⟨t,rfl⟩:=r1
   exact .cons _ t (J51 r2)
noncomputable def J43 (sep : List Nat) : List (List Nat) → List Nat
 | []=>[]
 | [x]=>x
 | x :: y :: r=>x ++ sep ++ J43 sep (y :: r)
theorem J6Y (sep : List Nat) : ∀ ts : List (List Nat),Str.join ⟨sep.toArray⟩ (ts.map fun l=>⟨l.toArray⟩) = ⟨(J43 sep ts).toArray⟩
 | []=>rfl
 | [x]=>rfl
 | x :: y :: r=>by
  show (⟨x.toArray⟩ : Str) ++ ⟨sep.toArray⟩ ++ Str.join ⟨sep.toArray⟩ ((y :: r).map fun l=>⟨l.toArray⟩) = _
  rw [J6Y sep (y :: r),J9I,J9I]
  rfl
theorem J4U : ∀ ts : List (List Nat),J43 [] ts = ts.flatten
 | []=>rfl
 | [x]=>by simp [J43]
 | x :: y :: r=>by
  show x ++ [] ++ J43 [] (y :: r) = _
  rw [J4U (y :: r),List.append_nil]
  rfl
theorem J77 : ∀ cs : List Nat,(((cs.map fun c=>[c]).map List.length).sum) = cs.length
 | []=>rfl
 | c :: r=>by
  rw [List.map_cons,List.map_cons,List.sum_cons,J77 r]
  simp
  omega
theorem J4R : ∀ cs : List Nat,(cs.map fun c=>[c]).flatten = cs
 | []=>rfl
 | c :: r=>by
  rw [List.map_cons,List.flatten_cons,J4R r]
  rfl
section
variable {X : Cx}
noncomputable def J9t (K : PySem.W.Frag) : V → List V → Hp → VK → Prop:=fun x vs H Q=>∃ sep ts D,x = T sep ∧ vs = [.ref D] ∧ SqL K H D (ts.map T) ∧ (ts.map List.length).sum + ts.length * sep.length ≤ 16777216 ∧ Q (T (J43 sep ts)) H
theorem JaB : MtR X "str.join" (J9t X.K):=by
 intro pins s σ H x vs v us Q I rx rv h
 obtain ⟨sep,ts,D,rfl,rfl,hq,hz,q⟩:=h
 obtain ⟨t,rfl⟩:=rx
 obtain ⟨u,rfl,ru⟩:=rv.one
 cases ru
 obtain ⟨its,r,pl,_⟩:=I.list hq
 refine join_list (ys:=ts.map fun l=>⟨l.toArray⟩) pl.isList (by simpa using J51 r) ?_ fun t' k=>⟨T (J43 sep ts),H,I.tok _,⟨t',?_⟩,q⟩
 ·rw [List.map_map,List.length_map,J2W]
  have e : ((fun x=>x.length) ∘ fun l : List Nat=>(⟨l.toArray⟩ : Str)) = List.length:=by funext l; exact J2W l
  rw [e]
  exact hz
 ·rw [← J6Y]
  show Value.str (Builtin.Str.glued _ _) t' = _
  rw [StrLaws.glued_eq_join]
end
theorem Jaj {X : Cx} {o e : Expr} {to : TE} {t : TA} {apos cpos : Pos} (ho : PE X o to) (ha : PA X [e] t)
  (hbase : attributeBase o "join" X.env (eval o X.env) = eval o X.env:=by rfl)
  (hfew : ((backTo cpos (starEach [e] X.env)).all (fun x=>!x.1) && (backToKw cpos (keywordEach [] X.env)).all (fun x=>x.1.isSome)
   && decide ([e].length + ([] : List Keyword).length + (if ([] : List Keyword).isEmpty then 0 else 1) < 30)) = true:=by rfl)
  (hline : (apos.endLine == cpos.line) = true:=by rfl) (hs : starEach [e] X.env = (false,eval e X.env) :: starEach [] X.env:=by rfl) (hplain : (backTo cpos (starEach [] X.env)).any (·.1) = false:=by rfl) :
  PE X (.Call (.Attribute o "join" apos) [e] [] cpos) (tBM X.K "str" (J9t X.K) to t) :=
 J2S F.plainAttrs_str F.slot_str_join F.type_str_join JaB ho ha hbase hfew hline hs hplain
theorem J7b {bs : List Bool} {us : List Value} (h : Vals (bs.map V.bl) us) : us = bs.map Value.bool:=by
 induction bs generalizing us with
 | nil=>cases h; rfl
 | cons b r ih =>
  cases h with
  | cons r1 r2 =>
   cases r1
   rw [ih r2]; rfl
theorem J8R (bs : List Bool) : (List.range bs.length).all (fun i=>bs.getD i false) = bs.all id:=by
 rw [Bool.eq_iff_iff,List.all_eq_true,List.all_eq_true]
 constructor
 ·intro h b hb
  obtain ⟨i,hi,rfl⟩:=List.mem_iff_getElem.mp hb
  have:=h i (List.mem_range.mpr hi)
  simpa [List.getD_eq_getElem?_getD,hi] using this
 ·intro h i hi
  have hi:=List.mem_range.mp hi
  have:=h bs[i] (List.getElem_mem hi)
  simpa [List.getD_eq_getElem?_getD,hi] using this
theorem J8X (bs : List Bool) : (List.range bs.length).any (fun i=>bs.getD i false) = bs.any id:=by
 rw [Bool.eq_iff_iff,List.any_eq_true,List.any_eq_true]
 constructor
 ·rintro ⟨i,hi,h⟩
  have hi:=List.mem_range.mp hi
  refine ⟨bs[i],List.getElem_mem hi,?_⟩
  simpa [List.getD_eq_getElem?_getD,hi] using h
 ·rintro ⟨b,hb,h⟩
  obtain ⟨i,hi,rfl⟩:=List.mem_iff_getElem.mp hb
  refine ⟨i,List.mem_range.mpr hi,?_⟩
  simpa [List.getD_eq_getElem?_getD,hi] using h
section
variable {X : Cx}
theorem J4X (bs : List Bool) {A : Around} : TruthOf X.prog X.w A (fun i v=>(bs.map Value.bool).toArray[i]? = some v) (fun i=>bs.getD i false):=fun i v s Q E hP hQ=>by
 have : ∃ b,bs[i]? = some b ∧ v = .bool b:=by
  have hP' : (bs.map Value.bool).toArray[i]? = some v:=hP
  rw [List.getElem?_toArray,List.getElem?_map] at hP'
  cases hb : bs[i]? with
  | none=>rw [hb] at hP'; cases hP'
  | some b=>rw [hb] at hP'; exact ⟨b,rfl,(Option.some.inj hP').symm⟩
 obtain ⟨b,hb,rfl⟩:=this
 refine wpAny_truthy_bool ?_
 simpa [List.getD_eq_getElem?_getD,hb] using hQ
theorem J8U (hc : X.calm = true) : J1i X (.builtin "all") (fun xs H Q=>∃ (D : Addr) (bs : List Bool),xs = [.ref D] ∧ SqL X.K H D (bs.map V.bl) ∧ Q (.bl (bs.all id)) H):=by
 intro pins s σ H xs us Q I r h
 obtain ⟨D,bs,rfl,hq,q⟩:=h
 obtain ⟨u,rfl,ru⟩:=r.one
 cases ru
 obtain ⟨its,rv,pl,_⟩:=I.list hq
 obtain rfl:=J7b rv
 have hD : D < s.heap.objs.size:=by obtain ⟨o,n,e,_⟩:=pl; exact Heap.lt_size e
 refine call_all_walk (wpAny_pyIter_list pl.isList ⟨s.heap.objs.size,_,_,_,_,_,fun i=>bs.getD i false,rfl,Walks.list (A:=X.A.in1) (I.ok.hd hc) _ D (Nat.ne_of_lt hD) (bs.map Value.bool).toArray,
  ⟨⟨_,Heap.get?_push_size _ rfl,rfl,rfl⟩,pl.isList.push _⟩,J4X bs,fun h' tk hk=>?_⟩)
 rw [List.size_toArray,List.length_map,J8R]
 exact ⟨.bl (bs.all id),H,I.kept fun b o e=>hk b o (by simpa using Nat.ne_of_lt (Heap.lt_size e)) (Heap.get?_push_of_some _ e),rfl,q⟩
theorem J8F (hc : X.calm = true) : J1i X (.builtin "any") (fun xs H Q=>∃ (D : Addr) (bs : List Bool),xs = [.ref D] ∧ SqL X.K H D (bs.map V.bl) ∧ Q (.bl (bs.any id)) H):=by
 intro pins s σ H xs us Q I r h
 obtain ⟨D,bs,rfl,hq,q⟩:=h
 obtain ⟨u,rfl,ru⟩:=r.one
 cases ru
 obtain ⟨its,rv,pl,_⟩:=I.list hq
 obtain rfl:=J7b rv
 have hD : D < s.heap.objs.size:=by obtain ⟨o,n,e,_⟩:=pl; exact Heap.lt_size e
 refine call_any_walk (wpAny_pyIter_list pl.isList ⟨s.heap.objs.size,_,_,_,_,_,fun i=>bs.getD i false,rfl,Walks.list (A:=X.A.in1) (I.ok.hd hc) _ D (Nat.ne_of_lt hD) (bs.map Value.bool).toArray,
  ⟨⟨_,Heap.get?_push_size _ rfl,rfl,rfl⟩,pl.isList.push _⟩,J4X bs,fun h' tk hk=>?_⟩)
 rw [List.size_toArray,List.length_map,J8X]
 exact ⟨.bl (bs.any id),H,I.kept fun b o e=>hk b o (by simpa using Nat.ne_of_lt (Heap.lt_size e)) (Heap.get?_push_of_some _ e),rfl,q⟩
theorem J53 : J1i X (.builtin "isinstance") (fun xs H Q=>(∃ b,xs = [.bl b,.ty "bool"] ∧ Q (.bl true) H) ∨ (∃ i,xs = [.int i,.ty "bool"] ∧ Q (.bl false) H) ∨ (∃ i,xs = [.int i,.ty "int"] ∧ Q (.bl true) H) ∨ (∃ x,xs = [.str x,.ty "str"] ∧ Q (.bl true) H) ∨
  (∃ p ys,xs = [.ref p,.ty "list"] ∧ H p = some (.lst ys) ∧ Q (.bl true) H)):=by
 intro pins s σ H xs us Q I r h
 rcases h with ⟨b,rfl,q⟩ | ⟨i,rfl,q⟩ | ⟨i,rfl,q⟩ | ⟨x,rfl,q⟩ | ⟨p,ys,rfl,hp,q⟩
 ·obtain ⟨u,v,rfl,r1,r2⟩:=r.two
  cases r1; cases r2
  exact PySem.W.kia_one PySem.W.kitx_bool I.kIn True.intro (by rfl) (fun z=>nomatch z) fun tk=>⟨.bl true,H,I.tok _,rfl,q⟩
 ·obtain ⟨u,v,rfl,r1,r2⟩:=r.two
  obtain ⟨t,rfl⟩:=r1; cases r2
  exact PySem.W.kia_one PySem.W.kitx_int I.kIn True.intro (by rfl) (fun z=>nomatch z) fun tk=>⟨.bl false,H,I.tok _,rfl,q⟩
 ·obtain ⟨u,v,rfl,r1,r2⟩:=r.two
  obtain ⟨t,rfl⟩:=r1; cases r2
  exact PySem.W.kia_one PySem.W.kitx_int I.kIn True.intro (by rfl) (fun z=>nomatch z) fun tk=>⟨.bl true,H,I.tok _,rfl,q⟩
 ·obtain ⟨u,v,rfl,r1,r2⟩:=r.two
  obtain ⟨t,rfl⟩:=r1; cases r2
  exact PySem.W.kia_one PySem.W.kitx_str I.kIn True.intro (by rfl) (fun z=>nomatch z) fun tk=>⟨.bl true,H,I.tok _,rfl,q⟩
 ·obtain ⟨u,v,rfl,r1,r2⟩:=r.two
  cases r1; cases r2
  obtain ⟨_,its,n,_,h1⟩:=I.hok p _ hp
  exact PySem.W.kia_one PySem.W.kitx_list I.kIn ⟨_,h1,rfl⟩ (by rfl) (fun z=>nomatch z) fun tk=>⟨.bl true,H,I.tok _,rfl,q⟩
end
end L2
set_option linter.all false
set_option maxRecDepth 100000
set_option maxHeartbeats 4000000
namespace L2
open PySem PySem.Spec PyProof.Rows
open Builtin Builtin.Str
section
variable {prog : Program} {w : World} {A : Around} {E : Value → Shared → Prop} {s : Shared}
structure J44 (z TI TO i1 i2 : Addr) : Prop where
 TIz : TI ≠ z
 TOz : TO ≠ z
 i1z : i1 ≠ z
 i2z : i2 ≠ z
 TITO : TI ≠ TO
 TIi1 : TI ≠ i1
 TIi2 : TI ≠ i2
 TOi1 : TO ≠ i1
 TOi2 : TO ≠ i2
 i12 : i1 ≠ i2
theorem J7U (n : Nat) : J44 (n + 4) (n + 2) (n + 3) n (n + 1) :=
 ⟨Nat.ne_of_lt (by omega),Nat.ne_of_lt (by omega),Nat.ne_of_lt (by omega),Nat.ne_of_lt (by omega),Nat.ne_of_lt (by omega),Nat.ne_of_gt (by omega),Nat.ne_of_gt (by omega),Nat.ne_of_gt (by omega),Nat.ne_of_gt (by omega),Nat.ne_of_lt (by omega)⟩
theorem J8P {z TI TO i1 i2 : Addr} {k n1 n2 : Nat} {P1 P2 : Nat → Value → Prop} {St1 St2 : Nat → Heap → Prop} {a b : Value} {Q : Value → Shared → Prop} (F : J44 z TI TO i1 i2)
  (D1 : Draws prog w A i1 [i1] n1 P1 St1) (D2 : Draws prog w A i2 [i2] n2 P2 St2)
  (hz : IsZip s.heap z TI TO .none) (hTI : IsPair s.heap TI (.ref i1) (.ref i2)) (hTO : IsPair s.heap TO a b)
  (h1 : St1 k s.heap) (h2 : St2 k s.heap) (hk1 : k < n1) (hk2 : k < n2)
  (hQ : ∀ x y h' tk,P1 k x → P2 k y → IsZip h' z TI TO (rawInt s.heap.objs.size) → IsPair h' TO x y → St1 (k + 1) h' → St2 (k + 1) h' → IsPair h' s.heap.objs.size x y → h'.objs.size = s.heap.objs.size + 1 →
   (∀ c o,c ≠ z → c ≠ TO → c ≠ i1 → c ≠ i2 → s.heap.get? c = some o → h'.get? c = some o) → Q (.ref s.heap.objs.size) { s with heap:=h',toks:=tk }) :
  wpAny (model prog w) A (Builtin.«zip.__next__» ⟨[.ref z],[]⟩) (fun fin s'=>∃ v,fin = .done (.ret v) ∧ Q v s') E s:=by
 have fr1 : ∀ i h h',St1 i h → (∀ o,h.get? i1 = some o → h'.get? i1 = some o) → St1 i h':=fun i h h' st hk=>D1.frame i h h' st fun b hb o e=>by
  have : b = i1:=by simpa using hb
  subst this; exact hk o e
 have fr2 : ∀ i h h',St2 i h → (∀ o,h.get? i2 = some o → h'.get? i2 = some o) → St2 i h':=fun i h h' st hk=>D2.frame i h h' st fun b hb o e=>by
  have : b = i2:=by simpa using hb
  subst this; exact hk o e
 show wpAny _ _ (field (.ref z) 2 >>= _) _ _ _
 refine wpAny_bind (wpAny_field hz rfl (x:=.bool false) rfl ?_)
 show wpAny _ _ (field (.ref z) 3 >>= _) _ _ _
 refine wpAny_bind (wpAny_field hz rfl (x:=.ref TI) rfl ?_)
 refine wpAny_bind (wpAny_seqItems hTI rfl ?_)
 show wpAny _ _ (Builtin.SmallTypes.ownedTupleIsFree (.ref z) >>= _) _ _ _
 refine wpAny_bind ?_
 unfold Builtin.SmallTypes.ownedTupleIsFree
 refine wpAny_bind (wpAny_field hz rfl (x:=.none) rfl (wpAny_pure ?_))
 simp only [if_true]
 refine wpAny_bind (wpAny_rule ?_)
 refine wpAny_bind (wpAny_field hz rfl (x:=.ref TO) rfl ?_)
 refine wpAny_bind (wpAny_setField_rec hz (by simp) fun h₁ hz₁ hs₁=>?_)
 replace hz₁ : IsZip h₁ z TI TO .ellipsis:=hz₁
 refine wpAny_bind ?_
 simp only [List.zipIdx_cons,List.zipIdx_nil,List.forIn_cons,List.forIn_nil]
 refine wpAny_bind (wpAny_bind (wpAny_onRaise ?_))
 show wpAny _ _ (Builtin.SmallTypes.nextOf (.ref i1) >>= _) _ _ _
 refine wpAny_bind (D1.item k _ _ _ hk1 (fr1 _ _ _ h1 fun o e=>hs₁.extBut _ _ F.i1z e) fun x h₂ tk₂ hx h1₂ hs₂=>wpAny_pure ?_)
 replace hs₂ : Heap.SameBut i1 h₁ h₂:=hs₂
 have hTO₂ : IsPair h₂ TO a b:=hs₂.extBut _ _ F.TOi1 (hs₁.extBut _ _ F.TOz hTO)
 refine wpAny_bind (wpAny_seqItems hTO₂ rfl ?_)
 refine wpAny_bind (wpAny_updateSeq_pair hTO₂ fun h₃ hTO₃ hs₃=>?_)
 replace hTO₃ : IsPair h₃ TO x b:=hTO₃
 replace hs₃ : Heap.SameBut TO h₂ h₃:=hs₃
 refine wpAny_bind (wpAny_letGo (wpAny_pure ?_))
 refine wpAny_bind (wpAny_bind (wpAny_onRaise ?_))
 show wpAny _ _ (Builtin.SmallTypes.nextOf (.ref i2) >>= _) _ _ _
 refine wpAny_bind (D2.item k _ _ _ hk2 (fr2 _ _ _ h2 fun o e=>hs₃.extBut _ _ F.TOi2.symm (hs₂.extBut _ _ F.i12.symm (hs₁.extBut _ _ F.i2z e))) fun y h₄ tk₄ hy h2₄ hs₄=>wpAny_pure ?_)
 replace hs₄ : Heap.SameBut i2 h₃ h₄:=hs₄
 have hTO₄ : IsPair h₄ TO x b:=hs₄.extBut _ _ F.TOi2 hTO₃
 refine wpAny_bind (wpAny_seqItems hTO₄ rfl ?_)
 refine wpAny_bind (wpAny_updateSeq_pair hTO₄ fun h₅ hTO₅ hs₅=>?_)
 replace hTO₅ : IsPair h₅ TO x y:=hTO₅
 replace hs₅ : Heap.SameBut TO h₄ h₅:=hs₅
 refine wpAny_bind (wpAny_letGo (wpAny_pure (wpAny_pure ?_)))
 refine wpAny_bind (wpAny_seqItems hTO₅ rfl ?_)
 refine wpAny_bind (wpAny_newTuple ?_)
 have hsz : h₅.objs.size = s.heap.objs.size:=by rw [hs₅.1,hs₄.1,hs₃.1,hs₂.1,hs₁.1]
 have hz₅ : IsZip h₅ z TI TO .ellipsis:=hs₅.extBut _ _ F.TOz.symm (hs₄.extBut _ _ F.i2z.symm (hs₃.extBut _ _ F.TOz.symm (hs₂.extBut _ _ F.i1z.symm hz₁)))
 have hk₅ : ∀ c o,c ≠ z → c ≠ TO → c ≠ i1 → c ≠ i2 → s.heap.get? c = some o → h₅.get? c = some o:=fun c o c1 c2 c3 c4 e =>
  hs₅.extBut _ _ c2 (hs₄.extBut _ _ c4 (hs₃.extBut _ _ c2 (hs₂.extBut _ _ c3 (hs₁.extBut _ _ c1 e))))
 have h1₅ : St1 (k + 1) h₅:=fr1 _ _ _ h1₂ fun o e=>hs₅.extBut _ _ F.TOi1.symm (hs₄.extBut _ _ F.i12 (hs₃.extBut _ _ F.TOi1.symm e))
 have h2₅ : St2 (k + 1) h₅:=fr2 _ _ _ h2₄ fun o e=>hs₅.extBut _ _ F.TOi2.symm e
 have hzlt : z < h₅.objs.size:=Heap.lt_size hz₅
 show wpAny _ _ (Builtin.SmallTypes.ownedTupleHandOut (.ref z) (.ref h₅.objs.size) >>= _) _ _ _
 refine wpAny_bind ?_
 unfold Builtin.SmallTypes.ownedTupleHandOut
 have hz₆ : IsZip (h₅.push { cls:=.type "tuple",data:=.seq #[x,y] }) z TI TO .ellipsis:=Heap.get?_push_of_some _ hz₅
 refine wpAny_bind (wpAny_setField_rec hz₆ (by simp) fun h₇ hz₇ hs₇=>?_)
 replace hz₇ : IsZip h₇ z TI TO (rawInt h₅.objs.size):=hz₇
 replace hs₇ : Heap.SameBut z (h₅.push { cls:=.type "tuple",data:=.seq #[x,y] }) h₇:=hs₇
 refine wpAny_setField_rec hz₇ (by simp) fun h₈ hz₈ hs₈=>?_
 replace hz₈ : IsZip h₈ z TI TO (rawInt h₅.objs.size):=hz₈
 replace hs₈ : Heap.SameBut z h₇ h₈:=hs₈
 have up : ∀ c o,c ≠ z → h₅.get? c = some o → h₈.get? c = some o:=fun c o c1 e=>hs₈.extBut _ _ c1 (hs₇.extBut _ _ c1 (Heap.get?_push_of_some _ e))
 have hT₈ : IsPair h₈ h₅.objs.size x y:=hs₈.extBut _ _ (Nat.ne_of_gt hzlt) (hs₇.extBut _ _ (Nat.ne_of_gt hzlt) (Heap.get?_push_size _ rfl))
 have hz8 : h₈.objs.size = h₅.objs.size + 1:=by rw [hs₈.1,hs₇.1,Heap.size_push]
 rw [hsz] at hz₈ hT₈ hz8
 refine wpAny_pure ⟨_,rfl,?_⟩
 show Q (.ref h₅.objs.size) _
 rw [hsz]
 exact hQ x y h₈ tk₄ hx hy hz₈ (up _ _ F.TOz hTO₅) (fr1 _ _ _ h1₅ fun o e=>up _ o F.i1z e) (fr2 _ _ _ h2₅ fun o e=>up _ o F.i2z e) hT₈ hz8 fun c o c1 c2 c3 c4 e=>up c o c1 (hk₅ c o c1 c2 c3 c4 e)
theorem J9p {z TI TO i1 i2 : Addr} {k n1 n2 : Nat} {P1 P2 : Nat → Value → Prop} {St1 St2 : Nat → Heap → Prop} {a b : Value} {Q : Fin → Shared → Prop} (F : J44 z TI TO i1 i2)
  (D1 : Draws prog w A i1 [i1] n1 P1 St1) (D2 : Draws prog w A i2 [i2] n2 P2 St2)
  (hz : IsZip s.heap z TI TO .none) (hTI : IsPair s.heap TI (.ref i1) (.ref i2)) (hTO : IsPair s.heap TO a b)
  (h1 : St1 k s.heap) (h2 : St2 k s.heap) (hend : k = n1 ∨ (k < n1 ∧ k = n2))
  (hE : ∀ h' tk e,(∀ c o,c ≠ z → c ≠ TO → c ≠ i1 → c ≠ i2 → s.heap.get? c = some o → h'.get? c = some o) → (∃ o,h'.get? e = some o ∧ o.cls = .type "StopIteration") → E (.ref e) { s with heap:=h',toks:=tk }) :
  wpAny (model prog w) A (Builtin.«zip.__next__» ⟨[.ref z],[]⟩) Q E s:=by
 have fr1 : ∀ i h h',St1 i h → (∀ o,h.get? i1 = some o → h'.get? i1 = some o) → St1 i h':=fun i h h' st hk=>D1.frame i h h' st fun b hb o e=>by
  have : b = i1:=by simpa using hb
  subst this; exact hk o e
 have fr2 : ∀ i h h',St2 i h → (∀ o,h.get? i2 = some o → h'.get? i2 = some o) → St2 i h':=fun i h h' st hk=>D2.frame i h h' st fun b hb o e=>by
  have : b = i2:=by simpa using hb
  subst this; exact hk o e
 show wpAny _ _ (field (.ref z) 2 >>= _) _ _ _
 refine wpAny_bind (wpAny_field hz rfl (x:=.bool false) rfl ?_)
 show wpAny _ _ (field (.ref z) 3 >>= _) _ _ _
 refine wpAny_bind (wpAny_field hz rfl (x:=.ref TI) rfl ?_)
 refine wpAny_bind (wpAny_seqItems hTI rfl ?_)
 show wpAny _ _ (Builtin.SmallTypes.ownedTupleIsFree (.ref z) >>= _) _ _ _
 refine wpAny_bind ?_
 unfold Builtin.SmallTypes.ownedTupleIsFree
 refine wpAny_bind (wpAny_field hz rfl (x:=.none) rfl (wpAny_pure ?_))
 simp only [if_true]
 refine wpAny_bind (wpAny_rule ?_)
 refine wpAny_bind (wpAny_field hz rfl (x:=.ref TO) rfl ?_)
 refine wpAny_bind (wpAny_setField_rec hz (by simp) fun h₁ hz₁ hs₁=>?_)
 replace hz₁ : IsZip h₁ z TI TO .ellipsis:=hz₁
 refine wpAny_bind ?_
 simp only [List.zipIdx_cons,List.zipIdx_nil,List.forIn_cons,List.forIn_nil]
 refine wpAny_bind (wpAny_bind (wpAny_onRaise ?_))
 show wpAny _ _ (Builtin.SmallTypes.nextOf (.ref i1) >>= _) _ _ _
 rcases hend with hk | ⟨hk1,hk⟩
 ·subst hk
  refine wpAny_bind (D1.done _ _ _ (fr1 _ _ _ h1 fun o e=>hs₁.extBut _ _ F.i1z e) fun h₂ e hs₂ he=>?_)
  obtain ⟨oe,hoe,hce⟩:=he
  replace hs₂ : Heap.ExtBut i1 h₁ h₂:=hs₂
  have hz₂ : IsZip h₂ z TI TO .ellipsis:=hs₂ _ _ F.i1z.symm hz₁
  have hez : e ≠ z:=fun x=>by subst x; rw [hz₂] at hoe; cases hoe; simp at hce
  exact wpAny_setField_rec hz₂ (by simp) fun h₃ _ hs₃=>hE h₃ _ e (fun c o c1 _ c3 _ x=>hs₃.extBut _ _ c1 (hs₂ _ _ c3 (hs₁.extBut _ _ c1 x))) ⟨oe,hs₃.extBut _ _ hez hoe,hce⟩
 ·subst hk
  refine wpAny_bind (D1.item k _ _ _ hk1 (fr1 _ _ _ h1 fun o e=>hs₁.extBut _ _ F.i1z e) fun x h₂ tk₂ hx h1₂ hs₂=>wpAny_pure ?_)
  replace hs₂ : Heap.SameBut i1 h₁ h₂:=hs₂
  have hTO₂ : IsPair h₂ TO a b:=hs₂.extBut _ _ F.TOi1 (hs₁.extBut _ _ F.TOz hTO)
  refine wpAny_bind (wpAny_seqItems hTO₂ rfl ?_)
  refine wpAny_bind (wpAny_updateSeq_pair hTO₂ fun h₃ hTO₃ hs₃=>?_)
  replace hs₃ : Heap.SameBut TO h₂ h₃:=hs₃
  refine wpAny_bind (wpAny_letGo (wpAny_pure ?_))
  refine wpAny_bind (wpAny_bind (wpAny_onRaise ?_))
  show wpAny _ _ (Builtin.SmallTypes.nextOf (.ref i2) >>= _) _ _ _
  refine wpAny_bind (D2.done _ _ _ (fr2 _ _ _ h2 fun o e=>hs₃.extBut _ _ F.TOi2.symm (hs₂.extBut _ _ F.i12.symm (hs₁.extBut _ _ F.i2z e))) fun h₄ e hs₄ he=>?_)
  obtain ⟨oe,hoe,hce⟩:=he
  replace hs₄ : Heap.ExtBut i2 h₃ h₄:=hs₄
  have hz₄ : IsZip h₄ z TI TO .ellipsis:=hs₄ _ _ F.i2z.symm (hs₃.extBut _ _ F.TOz.symm (hs₂.extBut _ _ F.i1z.symm hz₁))
  have hez : e ≠ z:=fun x=>by subst x; rw [hz₄] at hoe; cases hoe; simp at hce
  exact wpAny_setField_rec hz₄ (by simp) fun h₅ _ hs₅=>hE h₅ _ e (fun c o c1 c2 c3 c4 x=>hs₅.extBut _ _ c1 (hs₄ _ _ c4 (hs₃.extBut _ _ c2 (hs₂.extBut _ _ c3 (hs₁.extBut _ _ c1 x))))) ⟨oe,hs₅.extBut _ _ hez hoe,hce⟩
theorem J2T {it : Addr} {l : List Nat} {t : Tok} {nm : String} (hh : A.handled = none) (hn : nm = "str_ascii_iterator" ∨ nm = "str_iterator") :
  Draws prog w A it [it] l.length (fun i v=>∃ c u,l[i]? = some c ∧ v = .str ⟨#[c]⟩ u) (fun i h=>h.IsStrIter it nm ⟨l.toArray⟩ t i):=by
 rcases hn with rfl | rfl
 ·have D:=Draws.strAscii (prog:=prog) (w:=w) hh it ⟨l.toArray⟩ t
  simpa using D
 ·have D:=Draws.strWide (prog:=prog) (w:=w) hh it ⟨l.toArray⟩ t
  simpa using D
end
theorem Inv.turnedN {X : Cx} {pins : List (Addr × Obj)} {σ : St} {H : Hp} {s : Shared} {h' : Heap} {t' : Nat} {ch : List Addr} (I : Inv X pins σ H s) (k : ∀ b o,b ∉ ch → s.heap.get? b = some o → h'.get? b = some o) (hf : ∀ b ∈ ch,FpOk X pins H b) :
  Inv X pins σ H { s with heap:=h',toks:=t' }:=by
 have nch : ∀ b u,H b = some u → b ∉ ch:=fun b u e z=>by rw [(hf b z).1] at e; cases e
 refine I.step (g':=s.gens) (d':=s.drawn) (ch:=ch) (fun b hb=>?_) (fun b o _ _ hc e _=>k b o hc e) (fun b o _ _ hc e _=>⟨o.slots,k b o hc e⟩) (fun _ _ _ _ n=>n)
  (fun b o hc e=>⟨o,k b o hc e⟩) (fun _ _ e=>e) (fun _ _ _ e=>e) (fun b ps e=>⟨#[],by rw [e]; simp⟩) (fun m hm=>?_) (fun b u e=>?_) I.bare
 ·obtain ⟨f0,f1,f2,f3,f4,f5⟩:=hf b hb
  exact ⟨f3,f1,f4,f5⟩
 ·obtain ⟨o,es,ep,ho,r⟩:=hm
  exact ⟨o,es,ep,k _ o (fun z=>(hf _ z).2.1 rfl) ho,r⟩
 ·refine (I.hok b u e).stay (fun c v hc q=>k c v ?_ q) (fun _ q=>q) fun _ _ q=>q
  rcases hc with z | z
  ·rw [z]; exact nch b u e
  ·exact nch c _ z
noncomputable def Itz (l1 l2 : List Nat) : It :=
 ⟨fun i _=>i < l1.length ∧ i < l2.length,fun i H x H'=>∃ p c d,H p = none ∧ l1[i]? = some c ∧ l2[i]? = some d ∧ x = .ref p ∧ H' = upd H p (.tup [T [c],T [d]]),fun i _=>i = l1.length ∨ (i < l1.length ∧ i = l2.length)⟩
theorem J8L {P : Program} {w : World} {K : PySem.W.Frag} {es : List Expr} {k : Nat} {pos : Pos} {z TI TO i1 i2 : Addr} {l1 l2 : List Nat} {t1 t2 : Tok} {n1 n2 : String} (F : J44 z TI TO i1 i2)
  (hn1 : n1 = "str_ascii_iterator" ∨ n1 = "str_iterator") (hn2 : n2 = "str_ascii_iterator" ∨ n2 = "str_iterator") :
  Turn P w K (.Tuple es k pos) (Itz l1 l2) [z,TI,TO,i1,i2] z (fun i h=>IsZip h z TI TO .none ∧ IsPair h TI (.ref i1) (.ref i2) ∧ (∃ a b,IsPair h TO a b) ∧ h.IsStrIter i1 n1 ⟨l1.toArray⟩ t1 i ∧ h.IsStrIter i2 n2 ⟨l2.toArray⟩ t2 i) where
 mem:=by simp
 obj:=fun i h st b hb=>by
  obtain ⟨hz,hTI,⟨a,b',hTO⟩,⟨o1,e1,c1,d1⟩,o2,e2,c2,d2⟩:=st
  simp only [List.mem_cons,List.not_mem_nil,or_false] at hb
  rcases hb with rfl | rfl | rfl | rfl | rfl
  ·exact ⟨_,hz,fun v q=>by cases q⟩
  ·exact ⟨_,hTI,fun v q=>by cases q⟩
  ·exact ⟨_,hTO,fun v q=>by cases q⟩
  ·exact ⟨o1,e1,fun v q=>by rw [d1] at q; cases q⟩
  ·exact ⟨o2,e2,fun v q=>by rw [d2] at q; cases q⟩
 keep:=fun i h h' st kk=>by
  obtain ⟨hz,hTI,⟨a,b',hTO⟩,⟨o1,e1,r1⟩,o2,e2,r2⟩:=st
  exact ⟨kk z (by simp) _ hz,kk TI (by simp) _ hTI,⟨a,b',kk TO (by simp) _ hTO⟩,⟨o1,kk i1 (by simp) _ e1,r1⟩,o2,kk i2 (by simp) _ e2,r2⟩
 item:=by
  intro X hP hw hK hc i pins s σ H E I hf st hg
  subst hP hw hK
  obtain ⟨hz,hTI,⟨a,b,hTO⟩,h1,h2⟩:=st
  have hh : X.A.in1.handled = none:=I.ok.hd hc
  have hT : s.TypeIs (.ref z) "zip":=⟨_,hz,rfl⟩
  have D1:=J2T (prog:=X.prog) (w:=X.w) (it:=i1) (l:=l1) (t:=t1) hh hn1
  have D2:=J2T (prog:=X.prog) (w:=X.w) (it:=i2) (l:=l2) (t:=t2) hh hn2
  unfold pyNext
  refine wpAny_bind (wpAny_attempt (wpAny_callSpecial?_slot (name:=Str.ofString "__next__") hT PySem.F.slot_zip_next (wpAny_call_entry PySem.F.slot_zip_next hT PySem.F.entry_zip_next
   (J8P F D1 D2 hz hTI hTO h1 h2 hg.1 hg.2 fun x y h' tk hx hy a1 a2 a3 a4 a5 a6 kp=>wpAny_pure ?_) (PySem.F.args_zip_next_1 _))))
  obtain ⟨c,u,hc1,rfl⟩:=hx
  obtain ⟨d,v,hd1,rfl⟩:=hy
  refine ⟨_,rfl,?_⟩
  refine wpAny_letOwnedTupleGo_zip (s:={ s with heap:=h',toks:=tk }) a1 fun h2' hz' hs'=>?_
  replace hs' : Heap.SameBut z h' h2':=hs'
  have zlt : z < s.heap.objs.size:=Heap.lt_size hz
  have far : ∀ q ∈ [z,TI,TO,i1,i2],q < s.heap.objs.size:=by
   intro q hq
   obtain ⟨o1,e1,_⟩:=h1
   obtain ⟨o2,e2,_⟩:=h2
   simp only [List.mem_cons,List.not_mem_nil,or_false] at hq
   rcases hq with rfl | rfl | rfl | rfl | rfl
   ·exact zlt
   ·exact Heap.lt_size hTI
   ·exact Heap.lt_size hTO
   ·exact Heap.lt_size e1
   ·exact Heap.lt_size e2
  have fz:=hf z (by simp)
  have fTO:=hf TO (by simp)
  have f1:=hf i1 (by simp)
  have f2:=hf i2 (by simp)
  have I1 : Inv X pins σ H { s with heap:=s.heap.push { cls:=.type "tuple",data:=.seq #[.str ⟨#[c]⟩ u,.str ⟨#[d]⟩ v] },toks:=tk }:=I.kept fun b o e=>Heap.get?_push_of_some _ e
  have keepAll : ∀ b o,b ≠ z → b ≠ TO → b ≠ i1 → b ≠ i2 → s.heap.get? b = some o → h2'.get? b = some o:=fun b o b1 b2 b3 b4 e=>hs'.extBut _ _ b1 (kp b o b1 b2 b3 b4 e)
  have hnew : H s.heap.objs.size = none:=I.hok.fresh (Nat.le_refl _)
  have Tz : s.heap.objs.size ≠ z:=Nat.ne_of_gt zlt
  have ht2 : h2'.get? s.heap.objs.size = some { cls:=.type "tuple",data:=.seq #[.str ⟨#[c]⟩ u,.str ⟨#[d]⟩ v] }:=hs'.extBut _ _ Tz a5
  have I2 : Inv X pins σ (upd H s.heap.objs.size (.tup [T [c],T [d]])) { s with heap:=h2',toks:=tk }:=by
   have there : ∀ q ∈ [z,TO,i1,i2],∃ o',h2'.get? q = some o':=by
    intro q hq
    obtain ⟨o1,e1,_⟩:=a3
    obtain ⟨o2,e2,_⟩:=a4
    simp only [List.mem_cons,List.not_mem_nil,or_false] at hq
    rcases hq with rfl | rfl | rfl | rfl
    ·exact ⟨_,hz'⟩
    ·exact ⟨_,hs'.extBut _ _ F.TOz a2⟩
    ·exact ⟨_,hs'.extBut _ _ F.i1z e1⟩
    ·exact ⟨_,hs'.extBut _ _ F.i2z e2⟩
   have nch : ∀ b,b ∉ [z,TO,i1,i2] → b ≠ z ∧ b ≠ TO ∧ b ≠ i1 ∧ b ≠ i2:=fun b hb=>by
    simp only [List.mem_cons,List.not_mem_nil,or_false,not_or] at hb
    exact hb
   have trk : ∀ b u',H b = some u' → b ≠ z ∧ b ≠ TO ∧ b ≠ i1 ∧ b ≠ i2:=fun b u' e =>
    ⟨fun q=>(by rw [q,fz.1] at e; cases e),fun q=>(by rw [q,fTO.1] at e; cases e),fun q=>(by rw [q,f1.1] at e; cases e),fun q=>(by rw [q,f2.1] at e; cases e)⟩
   have okH : HOk X.prog X.w (upd H s.heap.objs.size (.tup [T [c],T [d]])) h2':=fun b u' e=>by
    by_cases hb : b = s.heap.objs.size
    ·subst hb
     rw [Jb] at e
     cases e
     exact ⟨(show 2 ≤ sizeLine by decide),[.str ⟨#[c]⟩ u,.str ⟨#[d]⟩ v],.cons ⟨u,rfl⟩ (.cons ⟨v,rfl⟩ .nil),⟨_,ht2,rfl,_,rfl⟩⟩
    ·rw [Jr hb] at e
     have hx:=I.hok b u' e
     refine hx.stay (fun q o hq e2=>?_) (fun q e2=>?_) (fun q xs e2=>?_)
     ·rcases hq with rfl | hq
      ·obtain ⟨b1,b2,b3,b4⟩:=trk q _ e
       exact keepAll q o b1 b2 b3 b4 e2
      ·obtain ⟨b1,b2,b3,b4⟩:=trk q _ hq
       exact keepAll q o b1 b2 b3 b4 e2
     ·rw [Jr (Jp e2 hnew)]; exact e2
     ·rw [Jr (Jp e2 hnew)]; exact e2
   refine I.step (g':=s.gens) (d':=s.drawn) (ch:=[z,TO,i1,i2]) (fun b hb=>?_) (fun b o _ _ hcb e n=>?_) (fun b o _ _ hcb e n=>?_) (fun b o hcb e n=>?_) (fun b o hcb e=>?_) (fun b xs e=>?_) (fun b o u' e=>?_) (fun b ps e=>?_) (fun m hm=>?_) okH I.bare
   ·simp only [List.mem_cons,List.not_mem_nil,or_false] at hb
    rcases hb with rfl | rfl | rfl | rfl
    ·exact ⟨fz.2.2.2.1,fz.2.1,fz.2.2.2.2.1,fz.2.2.2.2.2⟩
    ·exact ⟨fTO.2.2.2.1,fTO.2.1,fTO.2.2.2.2.1,fTO.2.2.2.2.2⟩
    ·exact ⟨f1.2.2.2.1,f1.2.1,f1.2.2.2.2.1,f1.2.2.2.2.2⟩
    ·exact ⟨f2.2.2.2.1,f2.2.1,f2.2.2.2.2.1,f2.2.2.2.2.2⟩
   ·obtain ⟨b1,b2,b3,b4⟩:=nch b hcb
    exact keepAll b o b1 b2 b3 b4 e
   ·obtain ⟨b1,b2,b3,b4⟩:=nch b hcb
    exact ⟨o.slots,keepAll b o b1 b2 b3 b4 e⟩
   ·rw [Jr (Nat.ne_of_lt (Heap.lt_size e))]; exact n
   ·obtain ⟨b1,b2,b3,b4⟩:=nch b hcb
    exact ⟨o,keepAll b o b1 b2 b3 b4 e⟩
   ·rw [Jr (Jp e hnew)]; exact e
   ·rw [Jr (Jp e hnew)]; exact e
   ·exact ⟨#[],by rw [Jr (Jp e hnew),e]; simp⟩
   ·obtain ⟨o,es',ep,ho,r⟩:=hm
    exact ⟨o,es',ep,keepAll _ o fz.2.1.symm fTO.2.1.symm f1.2.1.symm f2.2.1.symm ho,r⟩
  refine ⟨.ref s.heap.objs.size,_,I2,rfl,⟨_,c,d,hnew,hc1,hd1,rfl,rfl⟩,⟨hz',hs'.extBut _ _ F.TIz (kp _ _ F.TIz F.TITO F.TIi1 F.TIi2 hTI),⟨_,_,hs'.extBut _ _ F.TOz a2⟩,?_,?_⟩,fun b hb=>?_⟩
  ·obtain ⟨o,e,r⟩:=a3; exact ⟨o,hs'.extBut _ _ F.i1z e,r⟩
  ·obtain ⟨o,e,r⟩:=a4; exact ⟨o,hs'.extBut _ _ F.i2z e,r⟩
  ·rw [Jr (Nat.ne_of_lt (far b hb))]; exact (hf b hb).1
 done:=by
  intro X hP hw hK hc i pins s σ H E I hf st hg
  subst hP hw hK
  obtain ⟨hz,hTI,⟨a,b,hTO⟩,h1,h2⟩:=st
  have hh : X.A.in1.handled = none:=I.ok.hd hc
  have hT : s.TypeIs (.ref z) "zip":=⟨_,hz,rfl⟩
  have D1:=J2T (prog:=X.prog) (w:=X.w) (it:=i1) (l:=l1) (t:=t1) hh hn1
  have D2:=J2T (prog:=X.prog) (w:=X.w) (it:=i2) (l:=l2) (t:=t2) hh hn2
  unfold pyNext
  refine wpAny_bind (wpAny_attempt (wpAny_callSpecial?_slot (name:=Str.ofString "__next__") hT PySem.F.slot_zip_next (wpAny_call_entry PySem.F.slot_zip_next hT PySem.F.entry_zip_next
   (J9p F D1 D2 hz hTI hTO h1 h2 hg fun h' tk e kp he=>?_) (PySem.F.args_zip_next_1 _))))
  obtain ⟨o,ho,hc'⟩:=he
  refine wpAny_bind (wpAny_isInstance (T:="StopIteration") (b:=true) ⟨o,ho,hc'⟩ isSubtype_stop ?_)
  refine wpAny_pure ⟨rfl,?_⟩
  refine I.turnedN (ch:=[z,TO,i1,i2]) (fun b o hb q=>?_) fun b hb=>hf b ?_
  ·simp only [List.mem_cons,List.not_mem_nil,or_false,not_or] at hb
   exact kp b o hb.1 hb.2.1 hb.2.2.1 hb.2.2.2 q
  ·simp only [List.mem_cons,List.not_mem_nil,or_false] at hb ⊢
   rcases hb with q | q | q | q
   ·exact .inl q
   ·exact .inr (.inr (.inl q))
   ·exact .inr (.inr (.inr (.inl q)))
   ·exact .inr (.inr (.inr (.inr q)))
 self:=fun _ _ _ _ _ st h=>wpAny_pyIter_zip st.1 h
noncomputable def J1n (l : List Nat) : String:=if (⟨l.toArray⟩ : Str).cps.all (· < 128) = true then "str_ascii_iterator" else "str_iterator"
theorem J4T (l : List Nat) : J1n l = "str_ascii_iterator" ∨ J1n l = "str_iterator":=by
 unfold J1n; split
 ·exact .inl rfl
 ·exact .inr rfl
theorem J6M {prog : Program} {w : World} {A : Around} {E : Value → Shared → Prop} {hp : Heap} {g : Array GenState} {d : Drawn} {tk : Nat} {os : OsState} {l : List Nat} {t : Tok} {Q : Value → Shared → Prop}
  (h : Q (.ref hp.objs.size) ⟨hp.push { cls:=.type (J1n l),data:=.fields #[.str ⟨l.toArray⟩ t,.int 0 0] },g,d,tk,os⟩) : wpAny (model prog w) A (pyIter (.str ⟨l.toArray⟩ t)) Q E ⟨hp,g,d,tk,os⟩:=by
 cases ha : (⟨l.toArray⟩ : Str).cps.all (· < 128) with
 | true =>
  have e : J1n l = "str_ascii_iterator":=by unfold J1n; rw [if_pos ha]
  rw [e] at h
  exact wpAny_pyIter_ascii (s:=⟨hp,g,d,tk,os⟩) ha h
 | false =>
  have e : J1n l = "str_iterator":=by unfold J1n; rw [if_neg (by rw [ha]; exact Bool.false_ne_true)]
  rw [e] at h
  exact wpAny_pyIter_wide (s:=⟨hp,g,d,tk,os⟩) ha h
noncomputable abbrev J8u (h : Heap) (l1 : List Nat) (t1 : Tok) : Heap:=h.push { cls:=.type (J1n l1),data:=.fields #[.str ⟨l1.toArray⟩ t1,.int 0 0] }
noncomputable abbrev J8v (h : Heap) (l1 l2 : List Nat) (t1 t2 : Tok) : Heap:=(J8u h l1 t1).push { cls:=.type (J1n l2),data:=.fields #[.str ⟨l2.toArray⟩ t2,.int 0 0] }
noncomputable abbrev J8k (h : Heap) (l1 l2 : List Nat) (t1 t2 : Tok) : Heap:=(J8v h l1 l2 t1 t2).push { cls:=.type "tuple",data:=.seq #[.ref h.objs.size,.ref (J8u h l1 t1).objs.size] }
noncomputable abbrev J89 (h : Heap) (l1 l2 : List Nat) (t1 t2 : Tok) : Heap:=(J8k h l1 l2 t1 t2).push { cls:=.type "tuple",data:=.seq #[.none,.none] }
noncomputable abbrev J50 (h : Heap) (l1 l2 : List Nat) (t1 t2 : Tok) : Heap:=(J89 h l1 l2 t1 t2).push { cls:=.type "zip",data:=.fields #[.none,.bool false,.bool false,.ref (J8v h l1 l2 t1 t2).objs.size,.ref (J8k h l1 l2 t1 t2).objs.size] }
theorem J85 (l1 l2 : List Nat) (t1 t2 : Tok) :
  Meets (Builtin.«zip.__new__» ⟨[.type "zip",.str ⟨l1.toArray⟩ t1,.str ⟨l2.toArray⟩ t2],[]⟩) (fun _ R s=>R (.ok (.ret (.ref (J89 s.heap l1 l2 t1 t2).objs.size))) { s with heap:=J50 s.heap l1 l2 t1 t2 }) :=
 .of_wp fun prog w A R s h=>by
  obtain ⟨hp,g,d,tk,os⟩:=s
  have hsub:=sub_zip
  wp_walk using J6M (l:=l1) (t:=t1),J6M (l:=l2) (t:=t2)
  exact ⟨_,rfl,h⟩
theorem J8D {prog : Program} {w : World} {A : Around} {E : Value → Shared → Prop} {s : Shared} {l1 l2 : List Nat} {t1 t2 : Tok} {Q : Value → Shared → Prop}
  (h : ∀ h',IsZip h' (s.heap.objs.size + 4) (s.heap.objs.size + 2) (s.heap.objs.size + 3) .none → IsPair h' (s.heap.objs.size + 2) (.ref s.heap.objs.size) (.ref (s.heap.objs.size + 1)) →
   IsPair h' (s.heap.objs.size + 3) .none .none → h'.IsStrIter s.heap.objs.size (J1n l1) ⟨l1.toArray⟩ t1 0 → h'.IsStrIter (s.heap.objs.size + 1) (J1n l2) ⟨l2.toArray⟩ t2 0 →
   (∀ c o,s.heap.get? c = some o → h'.get? c = some o) → Q (.ref (s.heap.objs.size + 4)) { s with heap:=h' }) :
  wpAny (model prog w) A (call (.type "zip") [.str ⟨l1.toArray⟩ t1,.str ⟨l2.toArray⟩ t2]) Q E s:=by
 refine callType_new F.called_zip (by decide) (F.typeCall_zip_2 _ _) (F.newCall_zip_2 _ _) (fun obj=>F.args_object_init_3 obj _ _) F.entry_zip_new (J85 l1 l2 t1 t2) ?_
 have z1 : (J8u s.heap l1 t1).objs.size = s.heap.objs.size + 1:=Heap.size_push ..
 have z2 : (J8v s.heap l1 l2 t1 t2).objs.size = s.heap.objs.size + 2:=by rw [Heap.size_push,z1]
 have z3 : (J8k s.heap l1 l2 t1 t2).objs.size = s.heap.objs.size + 3:=by rw [Heap.size_push,z2]
 have z4 : (J89 s.heap l1 l2 t1 t2).objs.size = s.heap.objs.size + 4:=by rw [Heap.size_push,z3]
 have g5 : (J50 s.heap l1 l2 t1 t2).get? (J89 s.heap l1 l2 t1 t2).objs.size = some _:=Heap.get?_push_size _ rfl
 have g4 : (J50 s.heap l1 l2 t1 t2).get? (J8k s.heap l1 l2 t1 t2).objs.size = some _:=Heap.get?_push_of_some _ (Heap.get?_push_size _ rfl)
 have g3 : (J50 s.heap l1 l2 t1 t2).get? (J8v s.heap l1 l2 t1 t2).objs.size = some _:=Heap.get?_push_of_some _ (Heap.get?_push_of_some _ (Heap.get?_push_size _ rfl))
 have g2 : (J50 s.heap l1 l2 t1 t2).get? (J8u s.heap l1 t1).objs.size = some _:=Heap.get?_push_of_some _ (Heap.get?_push_of_some _ (Heap.get?_push_of_some _ (Heap.get?_push_size _ rfl)))
 have g1 : (J50 s.heap l1 l2 t1 t2).get? s.heap.objs.size = some _:=Heap.get?_push_of_some _ (Heap.get?_push_of_some _ (Heap.get?_push_of_some _ (Heap.get?_push_of_some _ (Heap.get?_push_size _ rfl))))
 show _ ∧ _
 rw [z2,z3,z4] at g5
 rw [z1,z2] at g3
 rw [z3] at g4
 rw [z1] at g2
 rw [z4]
 exact ⟨⟨_,g5,rfl⟩,h _ g5 g3 g4 ⟨_,g1,rfl,rfl⟩ ⟨_,g2,rfl,rfl⟩ fun c o x =>
  Heap.get?_push_of_some _ (Heap.get?_push_of_some _ (Heap.get?_push_of_some _ (Heap.get?_push_of_some _ (Heap.get?_push_of_some _ x))))⟩
section
variable {X : Cx} {es : List Expr} {k : Nat} {tpos : Pos}
noncomputable def Jbu (ta : TA) : TI:=fun σ H R=>ta σ H fun vs H1=>∃ l1 l2,vs = [T l1,T l2] ∧ R (Itz l1 l2) H1
theorem Jax {a b : Expr} {ta : TA} {p pos : Pos} (hg : Gl X "zip") (hm : X.mg "zip" = none) (ha : PA X [a,b] ta) (hv : bootBuiltins "zip" = some (.type "zip"):=by decide +kernel) (hs : starEach [a,b] X.env = [(false,eval a X.env),(false,eval b X.env)]:=by rfl) (hs2 : starEach [b] X.env = [(false,eval b X.env)]:=by rfl) :
  PI X (.Tuple es k tpos) (.Call (.Name "zip" p) [a,b] [] pos) (Jbu ta):=by
 intro pins s σ H R I h
 refine Call_ (J3f I hg hm hv (PyProof.Rows.callWith_type1 (thn (ha pos pins s σ H _ I h) fun us s1 ⟨vs,H1,I1,r1,q1⟩=>?_) (by rw [hs,hs2]) (by rw [hs2]; rfl)))
 obtain ⟨l1,l2,e,q⟩:=q1
 subst e
 obtain ⟨u,v,rfl,ru,rv⟩:=r1.two
 obtain ⟨t1,rfl⟩:=ru
 obtain ⟨t2,rfl⟩:=rv
 refine J8D fun h' a1 a2 a3 a4 a5 kp=>?_
 have far : J44 (s1.heap.objs.size + 4) (s1.heap.objs.size + 2) (s1.heap.objs.size + 3) s1.heap.objs.size (s1.heap.objs.size + 1):=J7U _
 have I2 : Inv X pins σ H1 { s1 with heap:=h' }:=I1.kept (t':=s1.toks) kp
 refine wpAny_pyIter_zip a1 ⟨s1.heap.objs.size + 4,[s1.heap.objs.size + 4,s1.heap.objs.size + 2,s1.heap.objs.size + 3,s1.heap.objs.size,s1.heap.objs.size + 1],_,_,H1,rfl,I2,J8L (t1:=t1) (t2:=t2) far (J4T l1) (J4T l2),⟨a1,a2,⟨_,_,a3⟩,a4,a5⟩,fun b hb=>?_,q⟩
 have hb' : s1.heap.objs.size ≤ b:=by
  simp only [List.mem_cons,List.not_mem_nil,or_false] at hb
  rcases hb with rfl | rfl | rfl | rfl | rfl
  ·exact Nat.le_add_right _ _
  ·exact Nat.le_add_right _ _
  ·exact Nat.le_add_right _ _
  ·exact Nat.le_refl _
  ·exact Nat.le_add_right _ _
 exact I1.fpOk hb' (I1.hok.fresh hb')
end
end L2
set_option linter.all false
set_option maxRecDepth 100000
set_option maxHeartbeats 4000000
namespace L2
open PySem PySem.Spec PyProof.Rows
theorem J8V {K : PySem.W.Frag} {H : Hp} {l1 l2 : List Nat} {rest : St} {te : TE} {Q : VK} (f : Nat → Nat → V) (hx : l1.length ≤ 1000000)
  (he : ∀ c d H',Same H H' → ∀ R : VK,(∀ H'',Same H' H'' → R (f c d) H'') → te (some (T [c]) :: some (T [d]) :: rest) H' R)
  (hQ : ∀ D H',H D = none → Same H H' → H' D = some (.lst ((l1.zip l2).map fun p=>f p.1 p.2)) → Q (.ref D) H') :
  J4Z (Itz l1 l2) H (none :: none :: rest) (gTup K 2 (J6F (J2M 0) (J6F (J2M 1) gNil))) tYes te Q:=by
 intro D hD
 refine ⟨fun i m σ1 ys H'=>m = l1.length - i ∧ i ≤ l1.length ∧ i ≤ l2.length ∧ (∃ a b,σ1 = a :: b :: rest) ∧ ys = ((l1.zip l2).take i).map (fun p=>f p.1 p.2) ∧ H' D = some (.lst ys) ∧ Same H H',⟨l1.length,by simp,Nat.zero_le _,Nat.zero_le _,⟨_,_,rfl⟩,rfl,Jb,JJ hD _⟩,?_⟩
 rintro i m σ1 ys H' ⟨rfl,hi1,hi2,⟨a,b,rfl⟩,rfl,hDD,hs⟩
 by_cases hlt : i < l1.length ∧ i < l2.length
 ·refine .inr ⟨hlt,fun x H'' hy=>?_⟩
  obtain ⟨p,c,d,hp,hc,hd,rfl,rfl⟩:=hy
  refine ⟨p,[T [c],T [d]],rfl,SqT.of Jb,rfl,T [c],[T [d]],rfl,T [d],[],rfl,rfl,?_⟩
  unfold tYes
  dsimp only
  refine iteT ?_
  have pD : D ≠ p:=fun z=>by subst z; rw [hp] at hDD; cases hDD
  have s1 : Same H (upd H' p (.tup [T [c],T [d]])):=hs.trans (JJ hp _)
  have hz : (l1.zip l2)[i]? = some (c,d):=by rw [List.getElem?_zip_eq_some]; exact ⟨hc,hd⟩
  refine he c d _ s1 _ fun H4 s4=>⟨s4 _ _ (by rw [Jr pD]; exact hDD),?_,l1.length - (i + 1),by omega,rfl,hlt.1,hlt.2,⟨_,_,rfl⟩,?_,Jb,(s1.trans s4).upd hD⟩
  ·rw [List.length_map,List.length_take]
   have : (1000001 : Nat) ≤ sizeLine:=by decide
   omega
  ·rw [List.take_add_one,hz,List.map_append]
   rfl
 ·have e : i = l1.length ∨ (i < l1.length ∧ i = l2.length):=by omega
  refine .inl ⟨e,hQ D H' hD hs ?_⟩
  rw [hDD,List.take_of_length_le]
  rw [List.length_zip]
  omega
end L2
set_option linter.all false
set_option maxRecDepth 100000
set_option maxHeartbeats 4000000
namespace L2
open PySem PySem.Spec PyProof.Rows
noncomputable def GF (K : PySem.W.Frag) (mg : Str → Option Value) (x : Str) (st : Stmt) : Prop:=∃ f fd,Fun K x x st f fd ∧ mg x = some (.ref f)
noncomputable def FnG (P : Program) (w : World) (K : PySem.W.Frag) (mg : Str → Option Value) (base : Heap) (x : Str) (k : Nat) (ps : List Str) (sp : Sp) : Prop :=
 ∃ f fd,FnOk P w K mg base CX0 k f fd ps sp ∧ mg x = some (.ref f) ∧ PySem.W.keepIn K (.ref f) = true ∧ J2N K fd ps []
noncomputable def MF (K : PySem.W.Frag) (C : Addr) (m qual : Str) (st : Stmt) : Prop:=∃ f fd,Fun K m qual st f fd ∧ Meth K C m f
noncomputable def MtG (P : Program) (w : World) (K : PySem.W.Frag) (mg : Str → Option Value) (base : Heap) (C : Addr) (m : Str) (k : Nat) (ps : List Str) (sp : Sp) : Prop :=
 ∃ f fd,FnOk P w K mg base CX0 k f fd ps sp ∧ Cls K C ∧ Meth K C m f ∧ J2N K fd ps []
structure CF (K : PySem.W.Frag) (mg : Str → Option Value) (x : Str) (C : Addr) : Prop where
 cl : Cls K C
 mg : mg x = some (.ref C)
 makes : PySem.W.makesIn K C = true
 kp : PySem.W.keepIn K (.ref C) = true
noncomputable def MkG (P : Program) (w : World) (K : PySem.W.Frag) (mg : Str → Option Value) (base : Heap) (C : Addr) (x : Str) (k : Nat) (ps : List Str) (sp : Sp) : Prop :=
 ∃ f fd,FnOk P w K mg base CX0 k f fd ps sp ∧ Mk K C f ∧ mg x = some (.ref C) ∧ J2N K fd ps []
section
variable {P : Program} {w : World} {K : PySem.W.Frag} {mg : Str → Option Value} {base : Heap}
theorem MtG.mono {C : Addr} {m : Str} {j k : Nat} {ps : List Str} {sp : Sp} (G : MtG P w K mg base C m j ps sp) (h : j ≤ k) : MtG P w K mg base C m k ps sp:=by
 obtain ⟨f,fd,a,b⟩:=G
 exact ⟨f,fd,a.mono h,b⟩
theorem MtG.imp {C : Addr} {m : Str} {k : Nat} {ps : List Str} {sp sp' : Sp} (G : MtG P w K mg base C m k ps sp) (h : ∀ vs H Q E,sp' vs H Q E → sp vs H Q E) : MtG P w K mg base C m k ps sp':=by
 obtain ⟨f,fd,a,b⟩:=G
 exact ⟨f,fd,a.imp h,b⟩
theorem GF.g {x : Str} {st : Stmt} {N ps : List Str} {k : Nat} {sp : Sp} (F : GF K mg x st) (S : Jm N ps (J6 st))
  (bnd : ∀ (kV doc pm : Value) (an : Option Addr) (cdv ct : Value) (us : List Value),us.length = ps.length → bindArgs (PySem.W.fnOf x x (Ji st) (Jg st) (J6 st) .none kV doc pm an cdv ct) ⟨us,[]⟩ = pure (ps.zip us))
  (len : ∀ vs H Q E,sp vs H Q E → vs.length = ps.length)
  (hbody : ∀ (f : Addr) (cdv : Value) (A : Around) (outer : List Env) (s : Shared) (H : Hp) (vs : List V) (Q : VK) (E : XK),Room k (A.deeper (envOfC x (J6 st) s.heap.objs.size f cdv)) → sp vs H Q E →
   ∃ t,PSs (cxOf CX0 P w K mg base N x (J6 st) f cdv A outer s H E).nox (Jg st) t ∧ t { nx:=fun _ H'=>Q .non H',rt:=Q } (start N vs) H) : FnG P w K mg base x (k + 1) ps sp:=by
 obtain ⟨f,fd,F,m⟩:=F
 exact ⟨f,fd,F.ok S len fun cdv A outer s H vs Q E hr h=>hbody f cdv A outer s H vs Q E hr h,m,F.kp,F.binds bnd⟩
theorem MF.g {C : Addr} {m qual : Str} {st : Stmt} {N ps : List Str} {k : Nat} {sp : Sp} (F : MF K C m qual st) (cl : Cls K C) (S : Jm N ps (J6 st))
  (bnd : ∀ (kV doc pm : Value) (an : Option Addr) (cdv ct : Value) (us : List Value),us.length = ps.length → bindArgs (PySem.W.fnOf m qual (Ji st) (Jg st) (J6 st) .none kV doc pm an cdv ct) ⟨us,[]⟩ = pure (ps.zip us))
  (len : ∀ vs H Q E,sp vs H Q E → vs.length = ps.length)
  (hbody : ∀ (f : Addr) (cdv : Value) (A : Around) (outer : List Env) (s : Shared) (H : Hp) (vs : List V) (Q : VK) (E : XK),Room k (A.deeper (envOfC qual (J6 st) s.heap.objs.size f cdv)) → sp vs H Q E →
   ∃ t,PSs (cxOf CX0 P w K mg base N qual (J6 st) f cdv A outer s H E).nox (Jg st) t ∧ t { nx:=fun _ H'=>Q .non H',rt:=Q } (start N vs) H) : MtG P w K mg base C m (k + 1) ps sp:=by
 obtain ⟨f,fd,F,m⟩:=F
 exact ⟨f,fd,F.ok S len fun cdv A outer s H vs Q E hr h=>hbody f cdv A outer s H vs Q E hr h,cl,m,F.binds bnd⟩
theorem CF.g {C : Addr} {x : Str} {k : Nat} {ps : List Str} {sp : Sp} (c : CF K mg x C) (G : MtG P w K mg base C "__init__" k ps sp) : MkG P w K mg base C x k ps sp:=by
 obtain ⟨f,fd,a,_,m,b⟩:=G
 exact ⟨f,fd,a,⟨c.makes,m.at_,m.fn,c.kp⟩,c.mg,b⟩
end
section
variable {X : Cx} {x m : Str} {k : Nat} {ps : List Str} {sp : Sp} {C : Addr} {p pos apos : Pos} {e o : Expr} {es : List Expr} {t : TA} {to : TE}
theorem Jz (G : FnG X.prog X.w X.K X.mg X.base x k ps sp) (hr : Room k X.A) (ha : PA X (e :: es) t) (hg : Gl X x:=by rfl) (hdb : (x == ("__debug__" : Str)) = false:=by decide)
  (he : starEach (e :: es) X.env = (false,eval e X.env) :: starEach es X.env:=by rfl) (hpl : (backTo pos (starEach es X.env)).any (·.1) = false:=by rfl) : PE X (.Call (.Name x p) (e :: es) [] pos) (JaO sp [] E0 t):=by
 obtain ⟨f,fd,a,b,c,d⟩:=G
 exact Jal a hr hg b c d .nil J8t ha hdb he hpl
noncomputable def J9w (P : Program) (w : World) (K : PySem.W.Frag) (mg : Str → Option Value) (base : Heap) (n : Nat) (m : Str) (ta : TE) (t : TA) : TE:=fun σ H Q=>ta σ H fun x H1=>∃ a C dx fs k ps sp,x = .ref a ∧ H1 a = some (.ins C dx fs) ∧ fs.lookup m = none ∧
 MtG P w K mg base C m k ps sp ∧ k ≤ n ∧ t σ H1 fun vs H2=>sp (x :: vs) H2 Q E0
theorem J1B {P : Program} {w : World} {K : PySem.W.Frag} {mg : Str → Option Value} {base : Heap} {n : Nat} {pl : Sem Bool} (hr : Room n X.A) (ho : PE X o to) (ha : PA X (e :: es) t) (hP : X.prog = P) (hw : X.w = w) (hK : X.K = K) (hmg : X.mg = mg) (hbs : X.base = base)
  (hst : starEach (e :: es) X.env = (false,eval e X.env) :: starEach es X.env:=by rfl) (hpl : (backTo pos (starEach es X.env)).any (·.1) = false:=by rfl)
  (ht : eval (.Call (.Attribute o m apos) (e :: es) [] pos) X.env = (do
   let ov ← eval o X.env
   standAt apos.atName
   let (f,first) ← holding [ov] (getMethod ov m pl)
   callWith pos f first (backTo pos (starEach (e :: es) X.env)) (backToKw pos (keywordEach [] X.env))):=by rfl) :
  PE X (.Call (.Attribute o m apos) (e :: es) [] pos) (J9w P w K mg base n m to t):=by
 subst hP hw hK hmg hbs
 intro pins s σ H Q I h
 refine PySem.W.methodCall_KW (pl:=pl) (thn (ho pins s σ H _ I h) fun u s1 ⟨x,H1,I1,rx,a,C,dx,fs,k,ps,sp,ex,ea,l,G,hk,q⟩=>?_) ht
 have hr:=hr.mono hk
 obtain ⟨f,fd,F,c,hm,hb⟩:=G
 subst ex
 obtain rfl : u = Value.ref a:=rx
 refine J47 I1 ea c hm l ?_
 refine PySem.W.callWith_K (first:=[.ref a]) (h₀:=X.base) I.ok.mod.kin hm.kp (thn (ha pos pins s1 σ H1 _ I1 q) fun us s2 ⟨vs,H2,I2,r,q2⟩=>⟨I2.kIn,?_⟩) hst hpl
 exact J7V (us:=.ref a :: us) (vs:=.ref a :: vs) (E:=E0) F hr hb .nil J8t I2 (.cons rfl r) (by rw [List.append_nil]; exact q2)
theorem J1t {P : Program} {w : World} {K : PySem.W.Frag} {mg : Str → Option Value} {base : Heap} {n : Nat} {pl : Sem Bool} (hr : Room n X.A) (ho : PE X o to) (hP : X.prog = P) (hw : X.w = w) (hK : X.K = K) (hmg : X.mg = mg) (hbs : X.base = base)
  (ht : eval (.Call (.Attribute o m apos) [] [] pos) X.env = (do
   let ov ← eval o X.env
   standAt apos.atName
   let (f,first) ← holding [ov] (getMethod ov m pl)
   callWith pos f first (backTo pos (starEach [] X.env)) (backToKw pos (keywordEach [] X.env))):=by rfl) :
  PE X (.Call (.Attribute o m apos) [] [] pos) (J9w P w K mg base n m to tNil):=by
 subst hP hw hK hmg hbs
 intro pins s σ H Q I h
 refine PySem.W.methodCall_KW (pl:=pl) (thn (ho pins s σ H _ I h) fun u s1 ⟨x,H1,I1,rx,a,C,dx,fs,k,ps,sp,ex,ea,l,G,hk,q⟩=>?_) ht
 have hr:=hr.mono hk
 obtain ⟨f,fd,F,c,hm,hb⟩:=G
 subst ex
 obtain rfl : u = Value.ref a:=rx
 refine J47 I1 ea c hm l ?_
 exact PySem.W.callWith_K0 (first:=[.ref a]) I1.kIn hm.kp (J7V (us:=[.ref a]) (vs:=[.ref a]) (E:=E0) F hr hb .nil J8t I1 (.cons rfl .nil) (by rw [List.append_nil]; exact q))
theorem J8g {n : Str} {T : String} (hm : X.mg n = none) (hv : bootBuiltins n = some (.type T)) (hg : Gl X n:=by rfl) (hn : n ≠ "__name__":=by decide) (hd : (n == ("__debug__" : Str)) = false:=by decide) : PE X (.Name n pos) (tC (.ty T)) :=
 Jau hg hm hv rfl hn hd
end
section
variable {X : Cx} {K : PySem.W.Frag}
theorem J0I (h : X.K = K) : IxR X (rIxL K):=h ▸ Jag
theorem J0L (h : X.K = K) : IxR X (rIxT K):=h ▸ JaX
theorem J3Z (h : X.K = K) : SlR X (rSlL K):=h ▸ Jaw
theorem JH (h : X.K = K) : J1i X (.builtin "len") (fun xs H Q=>∃ p ys,xs = [.ref p] ∧ (SqL K H p ys ∨ SqT K H p ys) ∧ Q (.int ys.length) H):=h ▸ J5U
theorem J7Y (hc : X.calm = true) (h : X.K = K) : J1i X (.builtin "all") (fun xs H Q=>∃ (D : Addr) (bs : List Bool),xs = [.ref D] ∧ SqL K H D (bs.map V.bl) ∧ Q (.bl (bs.all id)) H):=h ▸ J8U hc
theorem J7G (hc : X.calm = true) (h : X.K = K) : J1i X (.builtin "any") (fun xs H Q=>∃ (D : Addr) (bs : List Bool),xs = [.ref D] ∧ SqL K H D (bs.map V.bl) ∧ Q (.bl (bs.any id)) H):=h ▸ J8F hc
theorem JC {e : Expr} {f : Str} {ta : TE} {pos : Pos} (h : X.K = K) (he : PE X e ta) (hb : attributeBase e f X.env (eval e X.env) = eval e X.env) : PE X (.Attribute e f pos) (tFld K ta f):=h ▸ Jb5 he hb
theorem J9J {o e : Expr} {to : TE} {t : TA} {apos cpos : Pos} (h : X.K = K) (ho : PE X o to) (ha : PA X [e] t)
  (hbase : attributeBase o "join" X.env (eval o X.env) = eval o X.env:=by rfl)
  (hfew : ((backTo cpos (starEach [e] X.env)).all (fun x=>!x.1) && (backToKw cpos (keywordEach [] X.env)).all (fun x=>x.1.isSome)
   && decide ([e].length + ([] : List Keyword).length + (if ([] : List Keyword).isEmpty then 0 else 1) < 30)) = true:=by rfl)
  (hline : (apos.endLine == cpos.line) = true:=by rfl) (hs : starEach [e] X.env = (false,eval e X.env) :: starEach [] X.env:=by rfl) (hplain : (backTo cpos (starEach [] X.env)).any (·.1) = false:=by rfl) :
  PE X (.Call (.Attribute o "join" apos) [e] [] cpos) (tBM K "str" (J9t K) to t):=h ▸ Jaj ho ha hbase hfew hline hs hplain
theorem J1P {tg l : Expr} {tl : TE} (h : X.K = K) (hl : PE X l tl) : PI X tg l (JaN K tl):=h ▸ Jah hl
theorem Jbn {i j : Nat} {x y : Str} {px py pos : Pos} {k : Nat} (h : X.K = K) (hc : X.calm = true) (hN : X.N.Nodup) (hi : X.N[i]? = some x) (hj : X.N[j]? = some y) (hx : Loc X.env.scope x) (hy : Loc X.env.scope y)
  (hfx : X.fn x = true ∨ X.env.scope.names.lookup x = some .local:=by first | exact .inl rfl | exact .inr rfl | assumption) (hfy : X.fn y = true ∨ X.env.scope.names.lookup y = some .local:=by first | exact .inl rfl | exact .inr rfl | assumption) :
  PG X (.Tuple [.Name x px,.Name y py] k pos) (gTup K 2 (J6F (J2M i) (J6F (J2M j) gNil))):=h ▸ JaY hc (J6w (JU hN hi hx hfx) (J6w (JU hN hj hy hfy) Jat))
end
theorem J4Q : bootBuiltins "str" = some (.type "str"):=by decide +kernel
theorem J42 : bootBuiltins "list" = some (.type "list"):=by decide +kernel
theorem J38 : bootBuiltins "max" = some (.builtin "max"):=by decide +kernel
theorem Jbl : bootBuiltins "all" = some (.builtin "all"):=by decide +kernel
theorem Jb6 : bootBuiltins "any" = some (.builtin "any"):=by decide +kernel
theorem J1e : bootBuiltins "isinstance" = some (.builtin "isinstance"):=by decide +kernel
end L2
set_option linter.all false
set_option maxRecDepth 100000
set_option maxHeartbeats 4000000
namespace L2
open PySem PySem.Spec PyProof.Rows
theorem Vals.rel {xs : List V} {us : List Value} (r : Vals xs us) : ∀ (j : Nat) (h1 : j < xs.length) (h2 : j < us.length),RelV xs[j] us[j]:=by
 induction r with
 | nil=>intro j h1; simp at h1
 | cons a t ih =>
  intro j h1 h2
  cases j with
  | zero=>exact a
  | succ j=>exact ih j (by simpa using h1) (by simpa using h2)
noncomputable def eqVs : List V → List V → Bool
 | [],[]=>true
 | x :: xs,y :: ys=>eqV x y && eqVs xs ys
 | _,_=>false
theorem J4q : ∀ {xs ys : List V},xs.length ≠ ys.length → eqVs xs ys = false
 | [],[],h=>absurd rfl h
 | [],_ :: _,_=>rfl
 | _ :: _,[],_=>rfl
 | x :: xs,y :: ys,h=>by
  have : xs.length ≠ ys.length:=fun e=>h (by simp [e])
  rw [eqVs,J4q this,Bool.and_false]
theorem J2u : ∀ {xs ys : List V},xs.length = ys.length → (List.range xs.length).all (fun j=>eqV (xs.getD j .non) (ys.getD j .non)) = eqVs xs ys
 | [],[],_=>rfl
 | [],_ :: _,h=>by simp at h
 | _ :: _,[],h=>by simp at h
 | x :: xs,y :: ys,h=>by
  have h' : xs.length = ys.length:=by simpa using h
  rw [List.length_cons,List.range_succ_eq_map,List.all_cons,List.all_map,eqVs,← J2u h']
  rfl
theorem J9T (ms : List Int) : (ms.map V.int).all J1h = true:=by
 rw [List.all_map]; exact List.all_eq_true.mpr fun _ _=>rfl
section
variable {X : Cx} {K : PySem.W.Frag}
theorem J2V {A : Around} {s : Shared} {xs ys : List V} {ia ib : List Value} (ra : Vals xs ia) (rb : Vals ys ib) (fx : xs.all J1h = true) (fy : ys.all J1h = true) :
  ∀ j (h1 : j < ia.toArray.size) (h2 : j < ib.toArray.size),SeqAt.EqAt A s ia.toArray[j] ib.toArray[j] (eqV (xs.getD j .non) (ys.getD j .non)):=by
 intro j h1 h2
 have la:=ra.length
 have lb:=rb.length
 have g1 : j < ia.length:=by simpa using h1
 have g2 : j < ib.length:=by simpa using h2
 have e1 : xs.getD j .non = xs[j]'(by omega):=by rw [List.getD_eq_getElem?_getD,List.getElem?_eq_getElem (by omega)]; rfl
 have e2 : ys.getD j .non = ys[j]'(by omega):=by rw [List.getD_eq_getElem?_getD,List.getElem?_eq_getElem (by omega)]; rfl
 rw [e1,e2]
 have k1:=ra.rel j (by omega) g1
 have k2:=rb.rel j (by omega) g2
 have q:=Jbe (A:=A) (s:=s) k1 k2 (List.all_eq_true.mp fx _ (List.getElem_mem _)) (List.all_eq_true.mp fy _ (List.getElem_mem _))
 simpa using q
noncomputable def rEqL (K : PySem.W.Frag) (neg : Bool) : R2:=fun x y H Q=>∃ p r xs ys,x = .ref p ∧ y = .ref r ∧ SqL K H p xs ∧ SqL K H r ys ∧ xs.all J1h = true ∧ ys.all J1h = true ∧ Q (.bl (if neg then !eqVs xs ys else eqVs xs ys)) H
theorem Ja0 (h : X.K = K) (hu : X.A.units < cLine) : OpR X (compareOp .Eq) (rEqL K false):=by
 subst h
 intro pins s σ H x y v u Q I rx ry h
 obtain ⟨p,r,xs,ys,rfl,rfl,hp,hr,fx,fy,q⟩:=h
 cases rx; cases ry
 obtain ⟨ia,ra,pa,za⟩:=I.list hp
 obtain ⟨ib,rb,pb,zb⟩:=I.list hr
 have la:=ra.length
 have lb:=rb.length
 by_cases hsz : xs.length = ys.length
 ·refine SeqAt.eq_listAt (e:=fun j=>eqV (xs.getD j .non) (ys.getD j .non)) pa.isList pb.isList (by simp; omega) hu (J2V ra rb fx fy) ⟨.bl _,H,I,rfl,?_⟩
  rw [List.size_toArray,← la,J2u hsz]
  exact q
 ·refine SeqAt.eq_list_lengthsAt pa.isList pb.isList (by simp; omega) hu ⟨.bl false,H,I,rfl,?_⟩
  have q' : Q (.bl (eqVs xs ys)) H:=q
  rw [J4q hsz] at q'
  exact q'
theorem J9M (h : X.K = K) (hu : X.A.units < cLine) : OpR X (compareOp .NotEq) (rEqL K true):=by
 subst h
 intro pins s σ H x y v u Q I rx ry h
 obtain ⟨p,r,xs,ys,rfl,rfl,hp,hr,fx,fy,q⟩:=h
 cases rx; cases ry
 obtain ⟨ia,ra,pa,za⟩:=I.list hp
 obtain ⟨ib,rb,pb,zb⟩:=I.list hr
 have la:=ra.length
 have lb:=rb.length
 have q' : Q (.bl (!eqVs xs ys)) H:=q
 by_cases hsz : xs.length = ys.length
 ·refine SeqAt.RcNeAt.lists (e:=fun j=>eqV (xs.getD j .non) (ys.getD j .non)) pa.isList pb.isList (by simp; omega) hu (J2V ra rb fx fy) _ _ _ _ ⟨.bl _,H,I,rfl,?_⟩
  rw [List.size_toArray,← la,J2u hsz]
  exact q'
 ·refine SeqAt.RcNeAt.lists_lengths pa.isList pb.isList (by simp; omega) hu _ _ _ _ ⟨.bl true,H,I,rfl,?_⟩
  rw [J4q hsz] at q'
  exact q'
end
end L2
set_option linter.all false
set_option maxRecDepth 100000
set_option maxHeartbeats 4000000
namespace L2
open PySem PySem.Spec PyProof.Rows
section
variable {X : Cx} {K : PySem.W.Frag}
end
section
variable {prog : Program} {w : World} {A : Around} {E : Value → Shared → Prop} {s : Shared}
end
section
variable {X : Cx} {K : PySem.W.Frag} {pos : Pos}
end
end L2
set_option linter.all false
set_option maxRecDepth 100000
set_option maxHeartbeats 4000000
namespace L2
open PySem PySem.Spec PyProof.Rows
section
variable {X : Cx} {es : List Expr} {k : Nat} {tpos : Pos}
end
end L2
set_option linter.all false
set_option maxRecDepth 100000
set_option maxHeartbeats 4000000
namespace L2
open PySem PySem.Spec PyProof.Rows
section
variable {X : Cx} {elt tg iter : Expr} {ifs : List Expr} {scope : Scope} {pos : Pos} {N : List Str} {js : List (Option Nat)} {wi : TI} {g : TG} {tc : TT} {te : TE}
end
end L2
set_option linter.all false
namespace L2
open PySem PySem.StrLaws Builtin Builtin.Str
end L2
set_option linter.all false
set_option maxRecDepth 100000
set_option maxHeartbeats 4000000
namespace L2
open PySem PySem.Spec PyProof.Rows
section
variable {X : Cx} {e : Expr} {es : List Expr} {te : TE} {tr : TF} {pos : Pos}
end
end L2
set_option linter.all false
set_option maxRecDepth 100000
set_option maxHeartbeats 4000000
namespace L2
open PySem PySem.Spec PyProof.Rows
section
variable {X : Cx} {x m : Str} {k : Nat} {ps : List Str} {sp : Sp} {C : Addr} {p pos apos : Pos} {e o : Expr} {es : List Expr} {t : TA} {to : TE}
theorem JL {r : List V → Hp → VK → Prop} (G : MkG X.prog X.w X.K X.mg X.base C x k ps sp) (hr : Room (k + 1) X.A)
  (imp : ∀ vs H Q,r vs H Q → ∀ x dx,H x = none → H dx = none → dx ≠ x → sp (.ref x :: (vs ++ [])) (upd (upd H dx (.own x)) x (.ins C dx [])) (fun v H2=>v = .non ∧ Q (.ref x) H2) E0)
  (ha : PA X (e :: es) t) (hg : Gl X x:=by rfl) (hdb : (x == ("__debug__" : Str)) = false:=by decide)
  (he : starEach (e :: es) X.env = (false,eval e X.env) :: starEach es X.env:=by rfl) (hpl : (backTo pos (starEach es X.env)).any (·.1) = false:=by rfl) : PE X (.Call (.Name x p) (e :: es) [] pos) (tCB r t):=by
 obtain ⟨f,fd,a,M,hm,hb⟩:=G
 intro pins s σ H Q I h
 refine wpAny_Call_Name_kw (J5Q I hg hm ?_ hdb)
 refine PySem.W.callWith_K (h₀:=X.base) I.ok.mod.kin M.kp (thn (ha pos pins s σ H _ I h) fun us s1 ⟨vs,H1,I1,rv,q⟩=>⟨I1.kIn,?_⟩) he hpl
 exact J9R M a hr hb .nil J8t I1 rv (imp vs H1 Q q)
end
end L2
set_option linter.all false
set_option maxRecDepth 100000
set_option maxHeartbeats 4000000
namespace L2
open PySem PySem.Spec PyProof.Rows
noncomputable def All2 {α : Type} (P : α → V → Hp → Prop) (H : Hp) : List α → List V → Prop
 | [],[]=>True
 | a :: as,y :: ys=>P a y H ∧ All2 P H as ys
 | _,_=>False
section
variable {α : Type} {P : α → V → Hp → Prop} {H H' : Hp}
theorem All2.len : ∀ {as : List α} {ys : List V},All2 P H as ys → ys.length = as.length
 | [],[],_=>rfl
 | _ :: _,_ :: _,h=>by rw [List.length_cons,List.length_cons,All2.len h.2]
 | [],_ :: _,h=>h.elim
 | _ :: _,[],h=>h.elim
theorem All2.snoc : ∀ {as : List α} {ys : List V} {a : α} {y : V},All2 P H as ys → P a y H → All2 P H (as ++ [a]) (ys ++ [y])
 | [],[],_,_,_,p=>⟨p,trivial⟩
 | _ :: _,_ :: _,_,_,h,p=>⟨h.1,All2.snoc h.2 p⟩
 | [],_ :: _,_,_,h,_=>h.elim
 | _ :: _,[],_,_,h,_=>h.elim
theorem All2.imp {P' : α → V → Hp → Prop} : ∀ {as : List α} {ys : List V},All2 P H as ys → (∀ a y,P a y H → P' a y H') → All2 P' H' as ys
 | [],[],_,_=>trivial
 | _ :: _,_ :: _,h,f=>⟨f _ _ h.1,All2.imp h.2 f⟩
 | [],_ :: _,h,_=>h.elim
 | _ :: _,[],h,_=>h.elim
theorem All2.back : ∀ {as : List α} {ys : List V} {i : Nat} {y : V},All2 P H as ys → ys[i]? = some y → ∃ a,as[i]? = some a ∧ P a y H
 | [],[],_,_,_,e=>by simp at e
 | b :: _,z :: _,0,y,h,e=>⟨b,rfl,by rw [← (Option.some.inj e : z = y)]; exact h.1⟩
 | _ :: as,_ :: ys,i + 1,y,h,e=>All2.back (as:=as) (ys:=ys) (i:=i) h.2 (by simpa using e)
 | [],_ :: _,_,_,h,_=>h.elim
 | _ :: _,[],_,_,h,_=>h.elim
end
noncomputable def J2Q (Ha Hb : Hp) : Prop:=∀ a ob,Ha a = some ob → (∀ zs,ob ≠ .lst zs) → Hb a = some ob
theorem Same.keeps {Ha Hb : Hp} (h : Same Ha Hb) : J2Q Ha Hb:=fun a ob e _=>h a ob e
theorem J2Q.trans {Ha Hb Hc : Hp} (h : J2Q Ha Hb) (h' : J2Q Hb Hc) : J2Q Ha Hc:=fun a ob e n=>h' a ob (h a ob e n) n
theorem J8S {Ha : Hp} {D : Addr} {zs ys : List V} (h : Ha D = some (.lst zs)) : J2Q Ha (upd Ha D (.lst ys)):=fun a ob e hn=>by
 by_cases c : a = D
 ·subst c; rw [h] at e; cases e; exact absurd rfl (hn zs)
 ·rw [Jr c]; exact e
theorem J9h {α : Type} {J : It} {H : Hp} {σ0 : St} {g : TG} {tc : TT} {te : TE} {Q : VK} (xs : List α) (p : α → Bool) (P : α → V → Hp → Prop) (sh : St → Prop) (hx : xs.length ≤ 1000000) (h0 : sh σ0)
  (hgo : ∀ i H',Same H H' → i < xs.length → J.go i H') (hstop : ∀ H',Same H H' → J.stop xs.length H')
  (hk : ∀ a y Ha Hb,J2Q Ha Hb → P a y Ha → P a y Hb)
  (step : ∀ (i : Nat) a σ x H' H'',xs[i]? = some a → sh σ → Same H H' → J.yld i H' x H'' → ∀ (Rf : St → Hp → Prop) (Rt : St → V → Hp → Prop),
   (∀ σ2 H3,p a = false → sh σ2 → Same H' H3 → Rf σ2 H3) → (∀ σ2 y H4,p a = true → sh σ2 → Same H' H4 → P a y H4 → Rt σ2 y H4) →
   g x σ H'' fun σ2 H2=>tc σ2 H2 fun b H3=>if b = true then te σ2 H3 (fun y H4=>Rt σ2 y H4) else Rf σ2 H3)
  (hQ : ∀ D H' ys,H D = none → Same H H' → All2 P H' (xs.filter p) ys → H' D = some (.lst ys) → Q (.ref D) H') : J4Z J H σ0 g tc te Q:=by
 intro D hD
 refine ⟨fun i m σ1 ys H'=>m = xs.length - i ∧ i ≤ xs.length ∧ sh σ1 ∧ All2 P H' ((xs.take i).filter p) ys ∧ H' D = some (.lst ys) ∧ Same H H',⟨xs.length,by simp,Nat.zero_le _,h0,trivial,Jb,JJ hD _⟩,?_⟩
 rintro i m σ1 ys H' ⟨rfl,hi,hσ,hP,hDD,hs⟩
 by_cases hlt : i < xs.length
 ·refine .inr ⟨hgo i H' hs hlt,fun x H'' hy=>?_⟩
  have ha : xs[i]? = some xs[i]:=List.getElem?_eq_getElem hlt
  have ht : xs.take (i + 1) = xs.take i ++ [xs[i]]:=by rw [List.take_add_one,ha]; rfl
  refine step i xs[i] σ1 x H' H'' ha hσ hs hy _ _ (fun σ2 H3 hf sh2 s3=>?_) (fun σ2 y H4 hf sh2 s4 py=>?_)
  ·refine ⟨xs.length - (i + 1),by omega,rfl,hlt,sh2,?_,s3 _ _ hDD,hs.trans s3⟩
   rw [ht,List.filter_append,List.filter_cons,hf]
   show All2 P H3 (List.filter p (xs.take i) ++ []) ys
   rw [List.append_nil]
   exact hP.imp fun a y=>hk a y _ _ s3.keeps
  ·have hl:=hP.len
   refine ⟨s4 _ _ hDD,?_,xs.length - (i + 1),by omega,rfl,hlt,sh2,?_,Jb,(hs.trans s4).upd hD⟩
   ·have h1:=List.length_filter_le p (xs.take i)
    rw [List.length_take] at h1
    have : (1000001 : Nat) ≤ sizeLine:=by decide
    omega
   ·rw [ht,List.filter_append,List.filter_cons,hf]
    have kk : J2Q H4 (upd H4 D (.lst (ys ++ [y]))):=J8S (s4 _ _ hDD)
    exact All2.snoc (hP.imp fun a y=>hk a y _ _ (s4.keeps.trans kk)) (hk _ _ _ _ kk py)
 ·have e : i = xs.length:=by omega
  subst e
  refine .inl ⟨hstop H' hs,hQ D H' ys hD hs ?_ hDD⟩
  rw [List.take_of_length_le (Nat.le_refl _)] at hP
  exact hP
theorem J46 {α : Type} {J : It} {H : Hp} {σ0 : St} {g : TG} {tc : TT} {te : TE} {Q : VK} {vs : List V} (xs : List α) (p : α → Bool) (P : α → V → Hp → Prop) (sh : St → Prop) (hJ : J59 J H vs) (hv : vs.length = xs.length) (hx : xs.length ≤ 1000000) (h0 : sh σ0)
  (hk : ∀ a y Ha Hb,J2Q Ha Hb → P a y Ha → P a y Hb)
  (step : ∀ (i : Nat) a v σ H',xs[i]? = some a → vs[i]? = some v → sh σ → Same H H' → ∀ (Rf : St → Hp → Prop) (Rt : St → V → Hp → Prop),
   (∀ σ2 H3,p a = false → sh σ2 → Same H' H3 → Rf σ2 H3) → (∀ σ2 y H4,p a = true → sh σ2 → Same H' H4 → P a y H4 → Rt σ2 y H4) →
   g v σ H' fun σ2 H2=>tc σ2 H2 fun b H3=>if b = true then te σ2 H3 (fun y H4=>Rt σ2 y H4) else Rf σ2 H3)
  (hQ : ∀ D H' ys,H D = none → Same H H' → All2 P H' (xs.filter p) ys → H' D = some (.lst ys) → Q (.ref D) H') : J4Z J H σ0 g tc te Q:=by
 refine J9h xs p P sh hx h0 (fun i H' s hi=>hJ.go i H' s (by omega)) (fun H' s=>by rw [← hv]; exact hJ.stop H' s) hk (fun i a σ x H' H'' ha hσ s hy=>?_) hQ
 have hi : i < xs.length:=(List.getElem?_eq_some_iff.mp ha).1
 obtain ⟨e,hx⟩:=hJ.yld i H' x H'' s (by omega) hy
 subst e
 exact step i a x σ H'' ha hx hσ s
section
variable {X : Cx} {K : PySem.W.Frag}
end
theorem J6D : bootBuiltins "tuple" = some (.type "tuple"):=by decide +kernel
end L2
set_option linter.all false
set_option maxRecDepth 100000
set_option maxHeartbeats 4000000
namespace L2
open PySem PySem.Spec PyProof.Rows
section
variable {X : Cx} {es : List Expr} {k : Nat} {tpos : Pos}
end
end L2
set_option linter.all false
set_option maxRecDepth 100000
set_option maxHeartbeats 4000000
namespace L2
open PySem PySem.Spec PyProof.Rows
theorem J1R : ∀ {xs : List V},xs.all J1h = true → eqVs xs xs = true
 | [],_=>rfl
 | x :: xs,h=>by
  rw [List.all_cons,Bool.and_eq_true] at h
  rw [eqVs,J1R h.2,Bool.and_true]
  cases x <;> first | rfl | exact beq_self_eq_true _ | exact absurd h.1 Bool.false_ne_true
section
variable {X : Cx} {K : PySem.W.Frag} {pins : List (Addr × Obj)} {s : Shared} {σ : St} {H : Hp} {A : Around}
noncomputable def rEqE (K : PySem.W.Frag) (neg : Bool) : R2:=fun x y H Q=>∃ p r xs,x = .ref p ∧ y = .ref r ∧ SqL K H p xs ∧ SqL K H r [] ∧ Q (.bl (if neg then !xs.isEmpty else xs.isEmpty)) H
theorem J9O (h : X.K = K) (hu : X.A.units < cLine) : OpR X (compareOp .Eq) (rEqE K false):=by
 subst h
 intro pins s σ H x y v u Q I rx ry h
 obtain ⟨p,r,xs,rfl,rfl,hp,hr,q⟩:=h
 cases xs with
 | nil=>exact Ja0 rfl hu pins s σ H _ _ v u Q I rx ry ⟨p,r,[],[],rfl,rfl,hp,hr,rfl,rfl,q⟩
 | cons a t =>
  cases rx; cases ry
  obtain ⟨ia,ra,pa,za⟩:=I.list hp
  obtain ⟨ib,rb,pb,zb⟩:=I.list hr
  have la:=ra.length
  have lb:=rb.length
  rw [List.length_cons] at la
  rw [List.length_nil] at lb
  exact SeqAt.eq_list_lengthsAt pa.isList pb.isList (by simp; omega) hu ⟨.bl false,H,I,rfl,q⟩
theorem J9H (h : X.K = K) (hu : X.A.units < cLine) : OpR X (compareOp .NotEq) (rEqE K true):=by
 subst h
 intro pins s σ H x y v u Q I rx ry h
 obtain ⟨p,r,xs,rfl,rfl,hp,hr,q⟩:=h
 cases xs with
 | nil=>exact J9M rfl hu pins s σ H _ _ v u Q I rx ry ⟨p,r,[],[],rfl,rfl,hp,hr,rfl,rfl,q⟩
 | cons a t =>
  cases rx; cases ry
  obtain ⟨ia,ra,pa,za⟩:=I.list hp
  obtain ⟨ib,rb,pb,zb⟩:=I.list hr
  have la:=ra.length
  have lb:=rb.length
  rw [List.length_cons] at la
  rw [List.length_nil] at lb
  exact SeqAt.RcNeAt.lists_lengths pa.isList pb.isList (by simp; omega) hu _ _ _ _ ⟨.bl true,H,I,rfl,q⟩
theorem J7Z : J1i X (.builtin "isinstance") (fun xs H Q=>∃ p ys,xs = [.ref p,.ty "tuple"] ∧ H p = some (.tup ys) ∧ Q (.bl true) H):=by
 intro pins s σ H xs us Q I r h
 obtain ⟨p,ys,rfl,hp,q⟩:=h
 obtain ⟨u,v,rfl,r1,r2⟩:=r.two
 cases r1; cases r2
 obtain ⟨_,its,_,o,h1,hc,_⟩:=I.hok p _ hp
 exact PySem.W.kia_one PySem.W.kitx_tuple I.kIn ⟨o,h1,hc⟩ (by rfl) (fun z=>nomatch z) fun tk=>⟨.bl true,H,I.tok _,rfl,q⟩
end
end L2
set_option linter.all false
set_option maxRecDepth 100000
set_option maxHeartbeats 4000000
namespace L2
open PySem PySem.Spec PyProof.Rows
@[irreducible] def tCut (t : TS) : TS:=fun D σ H=>∃ R : St → Hp → Prop,t { D with nx:=R } σ H ∧ ∀ σ' H',R σ' H' → D.nx σ' H'
theorem tCut.mk {t : TS} {D : Ends} {σ : St} {H : Hp} (R : St → Hp → Prop) (h : t { D with nx:=R } σ H) (h' : ∀ σ' H',R σ' H' → D.nx σ' H') : tCut t D σ H:=by unfold tCut; exact ⟨R,h,h'⟩
section
variable {X : Cx} {K : PySem.W.Frag}
theorem J3c {st : Stmt} {t : TS} (h : PS X st t) : PS X st (tCut t):=by
 intro pins s σ H D I q
 unfold tCut at q
 obtain ⟨R,h1,h2⟩:=q
 refine thn (h pins s σ H _ I h1) fun f s' z=>?_
 cases f with
 | next=>obtain ⟨σ',H',I',r⟩:=z; exact ⟨σ',H',I',h2 σ' H' r⟩
 | brk=>exact z
 | cont=>exact z
 | ret u=>exact z
theorem J5I {M : Model} {A : Around} {E : Value → Shared → Prop} {s : Shared} {a b : Value} {Q : Value → Shared → Prop} (ha : s.TypeIs a "list") (hb : s.TypeIs b "list") (hc : wpAny M A (call (.builtin "list.__iadd__") [a,b]) Q E s) : wpAny M A (inplaceOp .Add a b) Q E s:=by
 unfold inplaceOp
 refine wpAny_holding ?_
 have hl : typeLookup (.type "list") (dunderI "add") = pure (some (.builtin "list.__iadd__")):=F.slot_list_iadd.lookup
 have hfi : fillsInplaceSlot (.type "list") "add" (Operator.Add == .Add) = pure false:=by
  unfold fillsInplaceSlot
  show (typeLookup (.type "list") (dunderI "add") >>= fun fi=>pure (fi.isSome && !isSeqSlot fi)) = pure false
  rw [hl]; rfl
 have hsi : seqSlot? (.type "list") (dunderI "add") = pure (some (.builtin "list.__iadd__")):=by
  unfold seqSlot?
  rw [hl]; rfl
 refine wpAny_bind (wpAny_typeOf ha (wpAny_bind (wpAny_of_eq hfi ?_)))
 show wpAny M A (if false = true then _ else _) Q E s
 rw [if_neg Bool.false_ne_true]
 refine wpAny_bind (binaryOp1_none (nm:="add") ha hb noFill_list_add ?_)
 refine wpAny_bind (wpAny_of_eq hsi ?_)
 exact wpAny_bind (wpAny_rule hc)
noncomputable def ipL : TIp:=fun x y H Q=>∃ l b xs zs,x = .ref l ∧ y = .ref b ∧ H l = some (.lst xs) ∧ H b = some (.lst zs) ∧ xs.length + zs.length ≤ sizeLine ∧ Q (.ref l) (upd H l (.lst (xs ++ zs)))
theorem Jao : PIp X .Add ipL:=by
 intro pins s σ H x y v u Q I rx ry h
 obtain ⟨l,b,xs,zs,rfl,rfl,hH,hB,hz,q⟩:=h
 cases rx
 cases ry
 obtain ⟨z,its,n,r,hl,e⟩:=I.lstM hH
 obtain ⟨z2,its2,n2,r2,hl2,e2⟩:=I.lstM hB
 have hsz : its.toArray.size + its2.toArray.size ≤ sizeLine:=by rw [List.size_toArray,List.size_toArray]; omega
 have hlong : ¬ (!its.toArray.isEmpty && Builtin.List.listTooLong (its.toArray.size + its2.toArray.size)) = true:=by
  rw [J9z hsz,Bool.and_false]
  exact Bool.false_ne_true
 refine J5I ⟨_,e,rfl⟩ ⟨_,e2,rfl⟩ ?_
 refine call_meets F.slot_list_iadd ⟨_,e,rfl⟩ F.entry_list_iadd (F.args_list_iadd_2 _ _)
  (AutoSeq1.list___iadd___list_list_0 l its.toArray n b its2.toArray n2 hlong (by rw [List.size_toArray]; omega) (by omega)) ⟨e,e2,?_⟩
 refine ⟨.ref l,_,I.lset (its':=its ++ its2) hH e (by simp) (r.append r2) ?_,rfl,q⟩
 rw [List.length_append]
 omega
end
end L2
namespace L2
open PySem PySem.Spec PyProof.Rows
theorem mul_one {c : Nat} {k : Int} (h0 : 1 ≤ k) (h1 : k ≤ 5) : Txt.mul ⟨#[c]⟩ k = ⟨(List.replicate k.toNat c).toArray⟩:=by
 have : k = 1 ∨ k = 2 ∨ k = 3 ∨ k = 4 ∨ k = 5:=by omega
 rcases this with rfl | rfl | rfl | rfl | rfl <;> rfl
theorem J9v {X : Cx} : OpR X (binaryOp .Mult) (fun x y H Q=>∃ c k,x = T [c] ∧ y = .int k ∧ 1 ≤ k ∧ k ≤ 5 ∧ Q (T (List.replicate k.toNat c)) H):=by
 intro pins s σ H x y v u Q I rx ry h
 obtain ⟨c,k,rfl,rfl,h0,h1,q⟩:=h
 obtain ⟨t,rfl⟩:=rx
 obtain ⟨t',rfl⟩:=ry
 refine SB.mul ⟨?_,fun _ _=>?_,fun _ _=>?_⟩ fun t2 k2=>?_
 ·rw [decide_eq_false (by omega),decide_eq_false (by omega)]; rfl
 ·have : k = 1 ∨ k = 2 ∨ k = 3 ∨ k = 4 ∨ k = 5:=by omega
  rcases this with rfl | rfl | rfl | rfl | rfl <;> (show ¬ ((1 : Int) > _); decide)
 ·have e : ({ cps:=#[c] } : Str).length = 1:=rfl
  rw [show (⟨[c].toArray⟩ : Str).length = 1 from rfl]
  have : k = 1 ∨ k = 2 ∨ k = 3 ∨ k = 4 ∨ k = 5:=by omega
  clear q e
  rcases this with rfl | rfl | rfl | rfl | rfl <;> decide
 ·rw [mul_one h0 h1]
  exact ⟨T (List.replicate k.toNat c),H,I.tok _,⟨t2,rfl⟩,q⟩
section
variable {α β : Type} {H : Hp}
end
end L2
set_option linter.all false
set_option maxRecDepth 100000
set_option maxHeartbeats 4000000
namespace L2
open PySem PySem.Spec PyProof.Rows
section
variable {X : Cx} {pins : List (Addr × Obj)} {σ : St} {H : Hp} {s : Shared} {E : XK} {Ex : Value → Shared → Prop}
end
end L2
set_option linter.all false
set_option maxRecDepth 100000
set_option maxHeartbeats 4000000
namespace L2
open PySem PySem.Spec PyProof.Rows
section
variable {P : Program} {w : World} {K : PySem.W.Frag} {mg : Str → Option Value} {base : Heap}
end
section
variable {X : Cx} {x m : Str} {k : Nat} {ps : List Str} {sp : Sp} {C : Addr} {p pos apos : Pos} {e o : Expr} {es : List Expr} {t : TA} {to : TE} {E : XK}
end
end L2
set_option linter.all false
set_option maxRecDepth 100000
set_option maxHeartbeats 4000000
namespace L2
open PySem PySem.Spec PyProof.Rows
section
variable {prog : Program} {w : World} {A : Around} {E : Value → Shared → Prop} {K : PySem.W.Frag} {x C : Addr} {h : Heap} {g : Array GenState} {d : Drawn} {t : Nat} {os : OsState} {o : Obj}
end
end L2
set_option linter.all false
set_option maxRecDepth 100000
set_option maxHeartbeats 4000000
namespace L2
open PySem PySem.Spec PyProof.Rows
section
variable {X : Cx} {pins : List (Addr × Obj)} {σ : St} {H : Hp} {s : Shared}
end
section
variable {X : Cx} {x m : Str} {k : Nat} {ps : List Str} {sp : Sp} {C : Addr} {p pos apos : Pos} {e o : Expr} {es : List Expr} {t : TA} {to : TE}
end
section
variable {X : Cx}
end
end L2
set_option linter.all false
set_option maxRecDepth 100000
set_option maxHeartbeats 4000000
namespace L2
open PySem PySem.Spec PyProof.Rows
section
variable {X : Cx} {K : PySem.W.Frag}
end
end L2
set_option linter.all false
set_option maxRecDepth 100000
set_option maxHeartbeats 4000000
namespace L2
open PySem PySem.Spec PyProof.Rows
section
variable {X : Cx} {K : PySem.W.Frag} {pins : List (Addr × Obj)} {σ : St} {H : Hp} {s : Shared} {A : Around}
end
end L2
set_option linter.all false
set_option maxRecDepth 100000
set_option maxHeartbeats 4000000
namespace L2
open PySem PySem.Spec PyProof.Rows
section
variable {X : Cx} {K : PySem.W.Frag} {pins : List (Addr × Obj)} {σ : St} {H : Hp} {s : Shared} {A : Around}
end
end L2
set_option linter.all false
set_option maxRecDepth 100000
set_option maxHeartbeats 4000000
namespace L2
open PySem PySem.Spec PyProof.Rows
section
variable {X : Cx} {K : PySem.W.Frag}
end
end L2
set_option linter.all false
set_option maxRecDepth 100000
namespace L2
open PySem PySem.Spec PyProof.Rows
end L2
namespace L2
open PySem PySem.Spec PyProof.Rows
section
variable (P : Program) (w : World)
end
section
variable {P : Program} {w : World} {H H' : Hp} {h h' : Heap} {a : Addr} {o : HO}
end
section
variable {P : Program} {w : World} {H : Hp} {h h' : Heap} {x e : Addr} {o' : HO}
end
section
variable {fs fs' ex ex' : List Addr} {H H1 H2 : Hp} {h h1 h2 h' : Heap} {a x e : Addr} {o : HO}
end
end L2
namespace L2
open PySem PySem.Spec PyProof.Rows
section
variable {X : Cx} {pins : List (Addr × Obj)} {σ : List (Option V)} {H H' : Hp} {s : Shared} {h' : Heap}
end
end L2
namespace L2
open PySem PySem.Spec PyProof.Rows
section
variable {X : Cx}
variable {a b : Expr} {ta tb : TE} {pos : Pos}
variable {tA tB' : TT} {rest : List Expr}
end
end L2
namespace L2
open PySem PySem.Spec PyProof.Rows
section
variable {X : Cx} {pins : List (Addr × Obj)} {σ : St} {H : Hp} {s : Shared} {a : Addr} {xs ys : List V}
end
section
variable {X : Cx} {pins : List (Addr × Obj)} {σ : St} {H : Hp} {s : Shared} {E : Value → Shared → Prop}
end
section
variable {X : Cx} {st : Stmt} {rest : List Stmt} {t u : TS} {e : Expr} {te : TE} {pos : Pos}
end
section
variable {X : Cx} {pos : Pos}
end
section
variable {X : Cx} {pos : Pos}
end
end L2
namespace L2
open PySem PySem.Spec PyProof.Rows
section
variable {X : Cx} {tg : Expr}
end
end L2
namespace L2
open PySem PySem.Spec PyProof.Rows
section
variable {X : Cx} {a b c : Expr} {ta tb tc : TE} {pos : Pos}
end
section
variable {X : Cx} {a b c : Expr} {ta tb tc : TE} {pos : Pos}
end
end L2
namespace L2
open PySem PySem.Spec PyProof.Rows
section
variable {prog : Program} {w : World} {A : Around} {E : Value → Shared → Prop} {s : Shared} {K : PySem.W.Frag} {x dx C f : Addr} {mA : Str → Option Value} {name : Str} {v : Value}
end
section
variable {P : Program} {w : World} {H H' : Hp} {h h' : Heap} {a C dx : Addr} {fs fs' : List (Str × V)}
end
section
variable {X : Cx} {pins : List (Addr × Obj)} {σ : St} {H : Hp} {s : Shared} {a C dx : Addr} {fs : List (Str × V)} {f : Str} {v : V} {A : Around} {E : Value → Shared → Prop}
end
section
variable {X : Cx} {o e value : Expr} {f : Str} {pos pos' tpos : Pos} {ta tv : TE}
end
section
variable {X : Cx} {pins : List (Addr × Obj)} {σ : St} {H : Hp} {s : Shared} {A : Around} {E : Value → Shared → Prop} {Q : Value → Shared → Prop} {c : Value} {b : Bool}
end
end L2
namespace L2
open PySem PySem.Spec PyProof.Rows
section
variable {X : Cx} {e : Expr} {es : List Expr} {te : TE} {t : TA} {pos : Pos}
end
section
variable {X : Cx} {pins : List (Addr × Obj)} {σ : St} {H : Hp} {s s' : Shared}
end
section
variable {X : Cx} {CX : CXT} {k : Nat} {f C : Addr} {fd : FuncData} {ps : List Str} {sp : Sp} {dvs : List V} {ds : List Value} {E : XK} {x m : Str} {p pos apos : Pos} {e o : Expr} {es : List Expr} {ta : TE} {t : TA}
end
section
variable {X : Cx} {CX : CXT} {k : Nat} {f C : Addr} {fd : FuncData} {ps ks : List Str} {sp : Sp} {E : XK} {x m : Str} {p pos apos kpos : Pos} {e o : Expr} {es : List Expr} {kws : List Keyword} {te ta : TE} {t tk : TA} {nm : Option Str}
variable {g : List Value → List Value → List Value} {gV : List V → List V → List V}
end
end L2
namespace L2
open PySem PySem.Spec PyProof.Rows
section
variable {X : Cx} {x : Str} {p pos : Pos} {e : Expr} {es : List Expr} {t : TA} {id T : String} {r : List V → Hp → VK → Prop}
end
end L2
namespace L2
open PySem PySem.Spec PyProof.Rows
section
variable {κ : Type} [DecidableEq κ]
noncomputable def valV (kvs : List (κ × V)) (k : κ) : Option V:=(kvs.find? fun kv=>decide (kv.1 = k)).map (·.2)
noncomputable def putK (kvs : List (κ × V)) (k : κ) (v : V) : List (κ × V) :=
 if (kvs.any fun kv=>decide (kv.1 = k)) = true then kvs.map (fun kv=>if kv.1 = k then (kv.1,v) else kv) else kvs ++ [(k,v)]
theorem J2J {p : κ × V} {r : List (κ × V)} {k : κ} (e : p.1 = k) : valV (p :: r) k = some p.2:=by simp [valV,List.find?_cons,e]
theorem J2R {p : κ × V} {r : List (κ × V)} {k : κ} (e : ¬ p.1 = k) : valV (p :: r) k = valV r k:=by simp [valV,List.find?_cons,e]
theorem J4b (k : κ) : ∀ kvs : List (κ × V),(kvs.any fun kv=>decide (kv.1 = k)) = (valV kvs k).isSome
 | []=>rfl
 | p :: r=>by
  rw [List.any_cons]
  by_cases e : p.1 = k
  ·simp only [J2J e,decide_eq_true e,Bool.true_or,Option.isSome_some]
  ·rw [J2R e,decide_eq_false e,Bool.false_or]; exact J4b k r
theorem J25 (kvs : List (κ × V)) (k : κ) (v : V) : (putK kvs k v).length ≤ kvs.length + 1:=by
 unfold putK
 split
 ·rw [List.length_map]; omega
 ·rw [List.length_append,List.length_cons,List.length_nil]; omega
theorem J9x {kvs : List (κ × V)} {k : κ} (v : V) (h : valV kvs k = none) : putK kvs k v = kvs ++ [(k,v)]:=by
 unfold putK
 rw [J4b,h]
 exact if_neg (by decide)
theorem RelO.isSome_eq {o : Option V} {u : Option Value} (r : RelO o u) : o.isSome = u.isSome:=by
 cases o with
 | none=>cases u with
  | none=>rfl
  | some _=>exact (show False from r).elim
 | some _=>cases u with
  | none=>exact (show False from r).elim
  | some _=>rfl
theorem KV.val {kvs : List (κ × V)} {vs : List (κ × Value)} (r : KV kvs vs) (k : κ) : RelO (valV kvs k) (valueAt vs k):=by
 unfold KV at r
 induction r with
 | nil=>exact True.intro
 | @cons p q ps qs h t ih =>
  obtain ⟨h1,h2⟩:=h
  by_cases e : p.1 = k
  ·have e' : q.1 = k:=h1.symm.trans e
   have b : valueAt (q :: qs) k = some q.2:=by simp [valueAt,List.find?_cons,e']
   rw [J2J e,b]; exact h2
  ·have e' : ¬ q.1 = k:=fun z=>e (h1.trans z)
   have b : valueAt (q :: qs) k = valueAt qs k:=by simp [valueAt,List.find?_cons,e']
   rw [J2R e,b]; exact ih
theorem KV.any {kvs : List (κ × V)} {vs : List (κ × Value)} (r : KV kvs vs) (k : κ) : (kvs.any fun kv=>decide (kv.1 = k)) = vs.any fun kv=>decide (kv.1 = k):=by
 unfold KV at r
 induction r with
 | nil=>rfl
 | cons h t ih=>rw [List.any_cons,List.any_cons,ih,h.1]
theorem KV.repl {kvs : List (κ × V)} {vs : List (κ × Value)} (r : KV kvs vs) (k : κ) {y : V} {u : Value} (ry : RelV y u) :
  KV (kvs.map fun kv=>if kv.1 = k then (kv.1,y) else kv) (vs.map fun kv=>if kv.1 = k then (kv.1,u) else kv):=by
 unfold KV at r ⊢
 induction r with
 | nil=>exact .nil
 | @cons p q ps qs h t ih =>
  rw [List.map_cons,List.map_cons]
  refine .cons ?_ ih
  obtain ⟨h1,h2⟩:=h
  by_cases e : p.1 = k
  ·rw [if_pos e,if_pos (h1.symm.trans e)]; exact ⟨h1,ry⟩
  ·rw [if_neg e,if_neg (fun z=>e (h1.trans z))]; exact ⟨h1,h2⟩
theorem KV.put {kvs : List (κ × V)} {vs : List (κ × Value)} (r : KV kvs vs) (k : κ) {y : V} {u : Value} (ry : RelV y u) : KV (putK kvs k y) (stored vs k u):=by
 unfold putK stored
 rw [r.any k]
 by_cases e : (vs.any fun kv=>decide (kv.1 = k)) = true
 ·rw [if_pos e,if_pos e]; exact r.repl k ry
 ·rw [if_neg e,if_neg e]; exact Paired.snoc r ⟨rfl,ry⟩
theorem KV.keys {kvs : List (κ × V)} {vs : List (κ × Value)} (r : KV kvs vs) : kvs.map (·.1) = vs.map (·.1):=by
 unfold KV at r
 induction r with
 | nil=>rfl
 | cons h t ih=>rw [List.map_cons,List.map_cons,ih,h.1]
theorem KV.length {kvs : List (κ × V)} {vs : List (κ × Value)} (r : KV kvs vs) : kvs.length = vs.length:=Paired.length r
end
theorem J8o {P : Program} {w : World} {k : Key} {u : Value} (r : RelV (kV k) u) : (JZ P w).is k u = true:=by
 cases k with
 | inl i=>obtain ⟨t,e⟩:=(show ∃ t,u = Value.int i t from r); subst e; exact J6X P w i t
 | inr x=>obtain ⟨t,e⟩:=(show ∃ t,u = Value.str x t from r); subst e; exact J6R P w x t
theorem J4O {P : Program} {w : World} : ∀ {ks : List Key} {us : List Value},Vals (ks.map kV) us → ItemsAre (JZ P w) ks us
 | [],_,r=>by rw [List.map_nil] at r; cases r; exact .nil
 | k :: ks,_,r=>by
  rw [List.map_cons] at r
  cases r with
  | cons h t=>exact .cons (J8o h) (J4O t)
noncomputable abbrev KT (H : Hp) : List (List Key × V) → List (List Key × Addr × Value) → Prop:=Paired fun p q=>p.1 = q.1 ∧ H q.2.1 = some (.tup (p.1.map kV)) ∧ RelV p.2 q.2.2
theorem KT.val {H : Hp} {kvs : List (List Key × V)} {xs : List (List Key × Addr × Value)} (r : KT H kvs xs) (k : List Key) : RelO (valV kvs k) ((atKey xs k).map (·.2)):=by
 induction r with
 | nil=>exact True.intro
 | @cons p q ps qs h t ih =>
  obtain ⟨h1,_,h2⟩:=h
  by_cases e : p.1 = k
  ·have e' : q.1 = k:=h1.symm.trans e
   have b : atKey (q :: qs) k = some q.2:=by simp [atKey,List.find?_cons,e']
   rw [J2J e,b]; exact h2
  ·have e' : ¬ q.1 = k:=fun z=>e (h1.trans z)
   have b : atKey (q :: qs) k = atKey qs k:=by simp [atKey,List.find?_cons,e']
   rw [J2R e,b]; exact ih
theorem KT.repl {H : Hp} {kvs : List (List Key × V)} {xs : List (List Key × Addr × Value)} (r : KT H kvs xs) (k : List Key) {y : V} {u : Value} (ry : RelV y u) :
  KT H (kvs.map fun kv=>if kv.1 = k then (kv.1,y) else kv) (xs.map (putAt k u)):=by
 induction r with
 | nil=>exact .nil
 | @cons p q ps qs h t ih =>
  rw [List.map_cons,List.map_cons]
  refine .cons ?_ ih
  obtain ⟨h1,h2,h3⟩:=h
  unfold putAt
  by_cases e : p.1 = k
  ·rw [if_pos e,if_pos (h1.symm.trans e)]; exact ⟨h1,h2,ry⟩
  ·rw [if_neg e,if_neg (fun z=>e (h1.trans z))]; exact ⟨h1,h2,h3⟩
theorem KT.put {H : Hp} {kvs : List (List Key × V)} {xs : List (List Key × Addr × Value)} (r : KT H kvs xs) (k : List Key) {b : Addr} {y : V} {u : Value} (hb : H b = some (.tup (k.map kV))) (ry : RelV y u) :
  KT H (putK kvs k y) (storedH xs k b u):=by
 have e : (kvs.any fun kv=>decide (kv.1 = k)) = (atKey xs k).isSome:=by
  rw [J4b,(r.val k).isSome_eq,Option.isSome_map]
 unfold putK storedH
 rw [e]
 by_cases q : (atKey xs k).isSome = true
 ·rw [if_pos q,if_pos q]; exact r.repl k ry
 ·rw [if_neg q,if_neg q]; exact Paired.snoc r ⟨rfl,hb,ry⟩
theorem KT.keeps {H H' : Hp} {kvs : List (List Key × V)} {xs : List (List Key × Addr × Value)} (r : KT H kvs xs) (ht : ∀ b ys,H b = some (.tup ys) → H' b = some (.tup ys)) : KT H' kvs xs :=
 Paired.mapP r fun _ _ z=>⟨z.1,ht _ _ z.2.1,z.2.2⟩
section
variable {P : Program} {w : World} {H : Hp} {h : Heap} {a : Addr}
theorem JaQ {u : HO} (ok : HOk P w H h) (e : Rd H a u) : J0H P w H h a u:=e.ok ok
theorem J9B {kvs : List (Key × V)} (ok : HOk P w H h) (e : Rd H a (.dK kvs)) : kvs.length ≤ sizeLine ∧ (a == sysModules) = false ∧ ∃ vs,KV kvs vs ∧ h.DictOf (JZ P w) a vs :=
 show J0H P w H h a (.dK kvs) from JaQ ok e
theorem J9U {kvs : List (Key × V)} (ok : HOk P w H h) (e : H a = some (.dK kvs)) : kvs.length ≤ sizeLine ∧ (a == sysModules) = false ∧ ∃ vs,KV kvs vs ∧ h.DictOf (JZ P w) a vs:=J9B ok (.inl e)
theorem J7E {ks : List Key} (ok : HOk P w H h) (e : H a = some (.tup (ks.map kV))) : (tupleKind (JZ P w)).is h ks a:=by
 obtain ⟨_,its,r,o,h1,h2,n,h3⟩:=(show J0H P w H h a (.tup (ks.map kV)) from ok a _ e)
 exact ⟨o,its.toArray,n,h1,h2,h3,by simpa using J4O r⟩
theorem JaP {kvs : List (List Key × V)} (ok : HOk P w H h) (e : Rd H a (.dT kvs)) : kvs.length ≤ sizeLine ∧ (a == sysModules) = false ∧
  ∃ xs,KT H kvs xs ∧ h.DictOfH (tupleKind (JZ P w)) a xs:=by
 obtain ⟨z,y,xs,r,o,es,ep,h1,h2,h3,h4,h5⟩:=(show J0H P w H h a (.dT kvs) from JaQ ok e)
 refine ⟨z,y,xs,r,o,es,ep,h1,h2,h3,h4,fun x hx=>?_,h5⟩
 have all : ∀ {l : List (List Key × V)} {m : List (List Key × Addr × Value)},KT H l m → ∀ x ∈ m,(tupleKind (JZ P w)).is h x.1 x.2.1:=by
  intro l m q
  induction q with
  | nil=>intro x hx; exact nomatch hx
  | @cons p q ps qs hq t ih =>
   intro x hx
   rcases List.mem_cons.mp hx with e | hx
   ·subst e
    exact J7E ok (by rw [← hq.1]; exact hq.2.1)
   ·exact ih x hx
 exact all r x hx
theorem JbB {kvs : List (List Key × V)} (ok : HOk P w H h) (e : H a = some (.dT kvs)) : kvs.length ≤ sizeLine ∧ (a == sysModules) = false ∧
  ∃ xs,KT H kvs xs ∧ h.DictOfH (tupleKind (JZ P w)) a xs:=JaP ok (.inl e)
end
noncomputable def DGet (H : Hp) (a : Addr) (y : V) (r : Option V) : Prop :=
 (∃ kvs k,Rd H a (.dK kvs) ∧ y = kV k ∧ r = valV kvs k) ∨ ∃ kvs k b,Rd H a (.dT kvs) ∧ y = .ref b ∧ H b = some (.tup (k.map kV)) ∧ r = valV kvs k
noncomputable def DPut (H : Hp) (a : Addr) (y v : V) (H' : Hp) : Prop :=
 (∃ kvs k,H a = some (.dK kvs) ∧ y = kV k ∧ kvs.length < sizeLine ∧ H' = upd H a (.dK (putK kvs k v))) ∨
 ∃ kvs k b,H a = some (.dT kvs) ∧ y = .ref b ∧ H b = some (.tup (k.map kV)) ∧ kvs.length < sizeLine ∧ H' = upd H a (.dT (putK kvs k v))
theorem DGet.k {H : Hp} {a : Addr} {kvs : List (Key × V)} {k : Key} (e : H a = some (.dK kvs)) : DGet H a (kV k) (valV kvs k):=.inl ⟨kvs,k,.inl e,rfl,rfl⟩
theorem DPut.k {H : Hp} {a : Addr} {kvs : List (Key × V)} {k : Key} {v : V} (e : H a = some (.dK kvs)) (hl : kvs.length < sizeLine) : DPut H a (kV k) v (upd H a (.dK (putK kvs k v))):=.inl ⟨kvs,k,e,rfl,hl,rfl⟩
section
variable {X : Cx} {pins : List (Addr × Obj)} {σ : St} {H : Hp} {s : Shared} {a : Addr} {y v : V} {u r : Value} {o : Option V} {A : Around} {E : Value → Shared → Prop}
theorem Inv.big (I : Inv X pins σ H s) : sysModules < s.heap.objs.size:=by
 have h : mainGlobals < s.heap.objs.size:=(I.mod.glob.keeps I.bk).lt
 exact Nat.lt_trans (by decide) h
theorem JaG {Q : Value → Shared → Prop} (hu : A.units + 1 < cLine) (I : Inv X pins σ H s) (g : DGet H a y o) (ry : RelV y u) (h : ∀ s',Inv X pins σ H s' → Q (.bool (!o.isSome)) s') :
  wpAny (model X.prog X.w) A (compareOp .NotIn u (.ref a)) Q E s:=by
 rcases g with ⟨kvs,k,e,ey,l⟩ | ⟨kvs,k,b,e,ey,eb,l⟩
 ·subst ey
  obtain ⟨z,hd,vs,rel,dd⟩:=J9B I.hok e
  refine wpAny_notIn_of (J8o ry) hd dd.mapOf ?_
  rw [← (rel.val k).isSome_eq,← l]
  exact h _ (I.tok _)
 ·subst ey
  cases (show u = Value.ref b from ry)
  obtain ⟨z,hd,xs,rel,dd⟩:=JaP I.hok e
  refine wpAny_notIn_heap (tupleKind_room_in1 hu) (J7E I.hok eb) hd dd ?_
  have q:=(rel.val k).isSome_eq
  rw [Option.isSome_map] at q
  rw [← q,← l]
  exact h _ (I.tok _)
theorem J5O {h' : Heap} {t' : Nat} {ob : HO} (I : Inv X pins σ H s) (mu : Mut (H a)) (hs : Heap.SameBut a s.heap h') (he : ∃ q,h'.get? a = some q) (new : J0H X.prog X.w (upd H a ob) h' a ob) :
  Inv X pins σ (upd H a ob) { s with heap:=h',toks:=t' } :=
 I.write (x:=a) (e:=a) mu (.inl rfl) (fun b q hb z=>(hs.2 b hb).trans z) he new
theorem J9L {P : Program} {w : World} {H' : Hp} {h' : Heap} {kvs : List (Key × V)} {vs : List (Key × Value)} (z : kvs.length ≤ sizeLine) (hd : (a == sysModules) = false) (rel : KV kvs vs) (dd : h'.DictOf (JZ P w) a vs) :
  J0H P w H' h' a (.dK kvs):=⟨z,hd,vs,rel,dd⟩
theorem J8Z {H' : Hp} {Q : Unit → Shared → Prop} (hu : A.units + 1 < cLine) (I : Inv X pins σ H s) (g : DPut H a y v H') (ry : RelV y u) (rv : RelV v r) (h : ∀ s',Inv X pins σ H' s' → Q () s') :
  wpAny (model X.prog X.w) A (setItem (.ref a) u r) Q E s:=by
 rcases g with ⟨kvs,k,e,ey,l,eH⟩ | ⟨kvs,k,b,e,ey,eb,l,eH⟩
 ·subst ey eH
  obtain ⟨z,hd,vs,rel,dd⟩:=J9U I.hok e
  have hz : vs.length ≤ sizeLine:=by rw [← rel.length]; exact z
  have hl : (putK kvs k v).length ≤ sizeLine:=by have:=J25 kvs k v; omega
  refine wpAny_setItem_pairs (hsz:=hz) (J8o ry) dd fun h' dd' hs=>h _ ?_
  have he : ∃ q,h'.get? a = some q:=let ⟨q,_,_,hq,_⟩:=dd'; ⟨q,hq⟩
  exact J5O I (by rw [e]; exact True.intro) hs he (J9L hl hd (rel.put k rv) dd')
 ·subst ey eH
  cases (show u = Value.ref b from ry)
  obtain ⟨z,hd,xs,rel,dd⟩:=JbB I.hok e
  have hz : xs.length ≤ sizeLine:=by rw [← Paired.length rel]; exact z
  have hl : (putK kvs k v).length ≤ sizeLine:=by have:=J25 kvs k v; omega
  refine wpAny_setItem_heap (hsz:=hz) (tupleKind_room_in1 hu) (J7E I.hok eb) dd fun h' dd' hs=>h _ ?_
  obtain ⟨q,es,ep,hq,h2,h3,h4,_,h5⟩:=dd'
  refine J5O I (by rw [e]; exact True.intro) hs ⟨q,hq⟩ ⟨hl,hd,_,(rel.put k eb rv).keeps fun c ys ec=>?_,q,es,ep,hq,h2,h3,h4,h5⟩
  rw [Jr (J9q ec e (fun z=>nomatch z))]
  exact ec
end
section
variable {X : Cx} {pins : List (Addr × Obj)} {σ : St} {H : Hp} {s : Shared} {a : Addr} {kvs : List (Key × V)} {k : Key} {u : Value} {A : Around} {E : Value → Shared → Prop}
theorem JbS {Q : Value → Shared → Prop} (I : Inv X pins σ H s) (e : Rd H a (.dK kvs)) (h : ∀ t s',Inv X pins σ H s' → Q (.int kvs.length t) s') : wpAny (model X.prog X.w) A (call (.builtin "len") [.ref a]) Q E s:=by
 obtain ⟨z,hd,vs,rel,dd⟩:=J9B I.hok e
 refine call_len_dict hd dd (by rw [← rel.length]; rw [sizeLine_eq] at z; omega) ?_
 rw [← rel.length]
 exact h _ _ (I.tok _)
end
noncomputable def Jaq (ty td : TE) : TE:=fun σ H Q=>ty σ H fun y H1=>td σ H1 fun x H2=>∃ a o,x = .ref a ∧ DGet H2 a y o ∧ Q (.bl (!o.isSome)) H2
noncomputable def JbK (td ty tv : TE) : TS:=fun D σ H=>tv σ H fun v H1=>td σ H1 fun x H2=>ty σ H2 fun y H3=>∃ a H4,x = .ref a ∧ DPut H3 a y v H4 ∧ D.nx σ H4
section
variable {X : Cx} {o i e value : Expr} {pos pos' tpos : Pos} {td ty tv : TE}
theorem J3a (hu : X.A.units + 1 < cLine) (hi : PE X i ty) (ho : PE X o td) : PC X .NotIn i o (Jaq ty td):=by
 intro pins s σ H Q I h
 refine thn (hi pins s σ H _ I h) fun iv s1 ⟨y,H1,I1,ry,q1⟩=>thn (ho pins s1 σ H1 _ I1 q1) fun u s2 ⟨x,H2,I2,rx,a,ov,ex,g,q2⟩=>?_
 subst ex
 obtain rfl : u = Value.ref a:=rx
 exact JaG hu I2 g ry fun s3 I3=>⟨.bl (!ov.isSome),H2,I3,rfl,q2⟩
theorem J8a (hu : X.A.units + 1 < cLine) (ho : PE X o td) (hi : PE X i ty) (hv : PE X value tv) (hs : swapsWith value (some (.Subscript o i pos')) pos.line X.env = pure false) :
  PS X (.Assign [.Subscript o i pos'] value pos) (JbK td ty tv):=by
 intro pins s σ H D I h
 refine wpAny_Assign_Subscript (thn (hv pins s σ H _ I h) fun r s1 ⟨v,H1,I1,rv,q1⟩=>thn (ho pins s1 σ H1 _ I1 q1) fun u s2 ⟨x,H2,I2,rx,q2⟩=>thn (hi pins s2 σ H2 _ I2 q2) fun iv s3 ⟨y,H3,I3,ry,a,H4,ex,g,q3⟩=>?_) hs
 subst ex
 obtain rfl : u = Value.ref a:=rx
 exact J8Z hu I3 g ry rv fun s4 I4=>⟨σ,H4,I4,q3⟩
end
theorem J9n {P : Program} {w : World} {H : Hp} (h : Heap) (hb : sysModules < h.objs.size) : J0H P w H (h.push { cls:=.type "dict",data:=.dict #[] }) h.objs.size (.dK []) :=
 ⟨Nat.zero_le _,beq_eq_false_iff_ne.mpr (Ne.symm (Nat.ne_of_lt hb)),[],.nil,Heap.DictOf.new h⟩
section
variable {X : Cx} {pos : Pos}
end
noncomputable def J80 : List (TE × TE) → St → Hp → (List (V × V) → Hp → Prop) → Prop
 | [],_,H,Q=>Q [] H
 | (tk,tv) :: r,σ,H,Q=>tk σ H fun x H1=>tv σ H1 fun y H2=>J80 r σ H2 fun ps H3=>Q ((x,y) :: ps) H3
noncomputable abbrev VV : List (V × V) → List (Value × Value) → Prop:=Paired fun p q=>RelV p.1 q.1 ∧ RelV p.2 q.2
noncomputable def PPs (X : Cx) (pos : Pos) (keys : List (Option Expr)) (values : List Expr) (trs : List (TE × TE)) : Prop :=
 ∀ (pins : List (Addr × Obj)) (s : Shared) (σ : St) (H : Hp) (Q : List (V × V) → Hp → Prop),Inv X pins σ H s → J80 trs σ H Q →
  wpAny (model X.prog X.w) X.A (evalPairs (pairTrees keys values X.env pos)) (fun vs s'=>∃ ps H',Inv X pins σ H' s' ∧ VV ps vs ∧ Q ps H') X.xe s
theorem J8d {X : Cx} {pos : Pos} : PPs X pos [] [] []:=fun pins s σ H Q I h=>pairTrees_nil_walk ⟨[],H,I,.nil,h⟩
theorem J79 {X : Cx} {pos : Pos} {k v : Expr} {ks : List (Option Expr)} {vs : List Expr} {tk tv : TE} {trs : List (TE × TE)} (hk : PE X k tk) (hv : PE X v tv) (hr : PPs X pos ks vs trs) :
  PPs X pos (some k :: ks) (v :: vs) ((tk,tv) :: trs):=fun pins s σ H Q I h =>
 pairTrees_cons_walk (thn (hk pins s σ H _ I h) fun u s1 ⟨x,H1,I1,rx,q1⟩=>thn (hv pins s1 σ H1 _ I1 q1) fun w2 s2 ⟨y,H2,I2,ry,q2⟩ =>
  thn (hr pins s2 σ H2 _ I2 q2) fun ws s3 ⟨ps,H3,I3,rel,q3⟩=>⟨(x,y) :: ps,H3,I3,.cons ⟨rx,ry⟩ rel,q3⟩)
noncomputable def J2t (kvs more : List (Key × V)) : List (Key × V):=more.foldl (fun acc kv=>putK acc kv.1 kv.2) kvs
theorem KV.merge : ∀ {more : List (Key × V)} {rs : List (Key × Value)} {kvs : List (Key × V)} {vs : List (Key × Value)},KV more rs → KV kvs vs → KV (J2t kvs more) (merged vs rs):=by
 intro more rs kvs vs r
 unfold KV at r
 induction r generalizing kvs vs with
 | nil=>intro q; exact q
 | @cons p q ps qs h t ih =>
  intro r0
  have e : KV (putK kvs p.1 p.2) (stored vs q.1 q.2):=by
   have:=r0.put p.1 h.2
   rw [← h.1]; exact this
  exact ih e
theorem J2q : ∀ (more kvs : List (Key × V)),(J2t kvs more).length ≤ kvs.length + more.length
 | [],kvs=>by show kvs.length ≤ kvs.length + 0; omega
 | p :: r,kvs=>by
  have h1:=J2q r (putK kvs p.1 p.2)
  have h2:=J25 kvs p.1 p.2
  show (J2t (putK kvs p.1 p.2) r).length ≤ _
  rw [List.length_cons]; omega
theorem J4a {P : Program} {w : World} : ∀ {kvs : List (Key × V)} {ws : List (Value × Value)},VV (kvs.map fun kv=>(kV kv.1,kv.2)) ws → ∃ rs,Carries (JZ P w) ws rs ∧ KV kvs rs
 | [],_,r=>by rw [List.map_nil] at r; cases r; exact ⟨[],True.intro,.nil⟩
 | p :: kvs,_,r=>by
  rw [List.map_cons] at r
  cases r with
  | @cons a b as bs h t =>
   obtain ⟨rs,c,q⟩:=J4a (P:=P) (w:=w) t
   obtain ⟨b1,b2⟩:=b
   exact ⟨(p.1,b2) :: rs,⟨J8o h.1,rfl,c⟩,.cons ⟨rfl,h.2⟩ q⟩
noncomputable def JbL (trs : List (TE × TE)) : TE:=fun σ H Q=>∀ p,H p = none → J80 trs σ (upd H p (.dK [])) fun ps H2=>H2 p = some (.dK []) ∧ ∃ kvs : List (Key × V),ps = kvs.map (fun kv=>(kV kv.1,kv.2)) ∧ kvs.length ≤ 15 ∧ Q (.ref p) (upd H2 p (.dK (J2t [] kvs)))
theorem J8r {X : Cx} {pos : Pos} {keys : List (Option Expr)} {values : List Expr} {trs : List (TE × TE)} (h : PPs X pos keys values trs) (hall : keys.all (·.isSome) = true) (hl : keys.length = values.length) (h0 : keys ≠ [])
  (h15 : keys.length ≤ 15) : PE X (.Dict keys values pos) (JbL trs):=by
 intro pins s σ H Q I q
 have hn:=I.hok.fresh (Nat.le_refl s.heap.objs.size)
 have I1:=I.laid (a:=s.heap.objs.size) (o:=.dK []) (h':=s.heap.push { cls:=.type "dict",data:=.dict #[] }) (t':=s.toks) (fun _ _ q=>Heap.get?_push_of_some _ q) (Nat.le_refl _) (J9n s.heap I.big)
 refine wpAny_Dict_walk (knd:=JZ X.prog X.w) hall hl h0 h15 (thn (h pins _ σ _ _ I1 (q _ hn)) fun ws s2 ⟨ps,H2,I2,rel,e,kvs,ep,lk,q2⟩=>?_)
 subst ep
 obtain ⟨rs,c,rk⟩:=J4a (P:=X.prog) (w:=X.w) rel
 obtain ⟨z,hd,vs0,r0,dd⟩:=J9U I2.hok e
 cases r0
 refine ⟨rs,c,dd,fun h' dd' hs=>⟨.ref s.heap.objs.size,_,?_,rfl,q2⟩⟩
 have hz : (J2t [] kvs).length ≤ sizeLine:=by
  have h1:=J2q kvs []
  rw [List.length_nil] at h1
  rw [sizeLine_eq]; omega
 have he : ∃ q,h'.get? s.heap.objs.size = some q:=let ⟨q,_,_,hq,_⟩:=dd'; ⟨q,hq⟩
 exact J5O I2 (by rw [e]; exact True.intro) hs he (J9L hz hd (rk.merge .nil) dd')
section
variable {X : Cx} {pins : List (Addr × Obj)} {σ : St} {H : Hp} {s : Shared} {a : Addr} {y d : V} {u r : Value} {o : Option V} {A : Around} {E : Value → Shared → Prop}
end
section
variable {X : Cx} {o e f : Expr} {apos cpos : Pos} {td ty tx : TE}
end
section
variable {X : Cx} {pins : List (Addr × Obj)} {σ : St} {H : Hp} {s : Shared} {a : Addr} {kvs : List (Key × V)} {A : Around} {E : Value → Shared → Prop}
end
section
variable {X : Cx} {pins : List (Addr × Obj)} {σ : St} {H : Hp} {s : Shared} {a : Addr} {y : V} {u : Value} {A : Around} {E : Value → Shared → Prop}
end
end L2
namespace Att
open PySem PySem.W PySem.Calls PyProof.Rows
section
variable {prog : Program} {w : World} {A : Around} {E : Value → Shared → Prop} {s : Shared} {K : Frag}
end
end Att
namespace L2
open PySem PySem.Spec PyProof.Rows
end L2
namespace L2
open PySem PySem.Spec PyProof.Rows
end L2
namespace L2
open PySem PySem.Spec PyProof.Rows
section
variable {P : Program} {w : World} {K : PySem.W.Frag} {mg : Str → Option Value} {base : Heap}
end
section
variable {X : Cx}
theorem J5a : J1i X (.builtin "len") (fun xs H Q=>∃ a kvs,xs = [V.ref a] ∧ H a = some (.dK kvs) ∧ Q (.int kvs.length) H):=by
 intro pins s σ H xs us Q I r h
 obtain ⟨a,kvs,rfl,ha,q⟩:=h
 obtain ⟨u,rfl,ru⟩:=J6x r
 cases ru
 exact JbS I (.inl ha) fun t s' I'=>⟨.int kvs.length,H,I',⟨t,rfl⟩,q⟩
end
section
variable {κ : Type} [DecidableEq κ]
end
end L2
set_option linter.all false
set_option maxRecDepth 100000
set_option maxHeartbeats 4000000
namespace L2
open PySem PySem.Spec PyProof.Rows
section
variable {prog : Program} {w : World} {K : Type} [DecidableEq K] {knd : HeapKind prog w K} {A : Around} {E : Value → Shared → Prop} {s : Shared} {d a : Addr} {xs : List (K × Addr × Value)} {k : K} {z : Value}
end
section
variable {X : Cx} {K : PySem.W.Frag}
end
end L2
set_option linter.all false
set_option maxRecDepth 100000
set_option maxHeartbeats 4000000
namespace L2
open PySem PySem.Spec PyProof.Rows
section
variable {X : Cx} {K : PySem.W.Frag}
end
section
variable {X : Cx} {es : List Expr} {k : Nat} {tpos : Pos}
end
section
variable {elt tg iter : Expr} {ifs : List Expr} {scope : Scope} {pos : Pos} {N : List Str} {js : List (Option Nat)} {wi : TI} {g : TG} {tc : TT} {te : TE}
end
end L2
set_option linter.all false
set_option maxRecDepth 100000
set_option maxHeartbeats 4000000
namespace L2
open PySem PySem.Spec PyProof.Rows
section
variable {prog : Program} {w : World} {K : Type} [DecidableEq K] {knd : KeyKind prog w K} {A : Around} {E : Value → Shared → Prop} {s : Shared}
theorem J6J : typeLookup (.type "dict") "__len__" = pure (some (.builtin "dict.__len__")):=by rw [typeLookup_type,builtinLookup_eq_fast]; kernel_rfl
theorem J5X {Q : List Value → Shared → Prop} {d : Addr} {kvs : List (K × Value)} (hh : A.handled = none) (hd : (d == sysModules) = false) (hm : s.heap.DictOf knd d kvs) (hn : kvs.length ≤ sizeLine)
  (hQ : ∀ s' acc,(∀ b o,s.heap.get? b = some o → s'.heap.get? b = some o) → s'.gens = s.gens → s'.drawn = s.drawn → s'.os = s.os → s.heap.objs.size < s'.heap.objs.size → ItemsOf (fun i v=>∃ k x,kvs[i]? = some (k,x) ∧ knd.is k v = true) acc kvs.length → Q acc.toList s') :
  wpAny (model prog w) A (collect (.ref d)) Q E s:=by
 have hdl : d < s.heap.objs.size:=by
  obtain ⟨o,ho,_⟩:=Heap.dictOf_iff.mp hm
  exact Heap.lt_size ho
 have hsd : s.heap.objs.size ≠ d:=Nat.ne_of_gt hdl
 unfold collect
 refine wpAny_bind (wpAny_runValue (codeAny_builtin PySem.F.entry_proto_collect ?_))
 rw [Around.under_plainId PySem.F.plain_proto_collect _]
 show wpAny _ A.in1 (newList [] >>= fun l=>again (.builtin "list.__iadd__" ⟨[l,.ref d],[]⟩)) _ _ s
 refine wpAny_bind (wpAny_newObj_type ?_)
 refine wpAny_pure ⟨plainId_quiet PySem.F.plain_list_iadd _,codeAny_builtin PySem.F.entry_list_iadd ?_⟩
 rw [Around.under_plainId PySem.F.plain_list_iadd _]
 show wpAny _ A.in1 (Builtin.List.listExtendWith (.ref s.heap.objs.size) (.ref d) (.ref s.heap.objs.size)) _ _ _
 generalize hH : s.heap.push { cls:=.type "list",data:=.seq ([] : List Value).toArray } = H1
 have hHs : H1.objs.size = s.heap.objs.size + 1:=by rw [← hH,Heap.size_push]
 have keep1 : ∀ b o,s.heap.get? b = some o → H1.get? b = some o:=fun b o e=>by rw [← hH]; exact Heap.get?_push_of_some _ e
 have hm1 : H1.DictOf knd d kvs:=hm.keep keep1
 have hT : ({ s with heap:=H1 } : Shared).TypeIs (.ref d) "dict":=hm1.typeIs
 unfold Builtin.List.listExtendWith
 refine wpAny_bind (wpAny_typeOf (T:="dict") (v:=.ref d) hT ?_)
 have h1 : Builtin.List.listSameRef (.ref s.heap.objs.size) (.ref d) = false:=by simp [Builtin.List.listSameRef,hsd]
 have h2 : (Value.type "dict" == Value.type "list") = false:=by decide
 have h3 : (Value.type "dict" == Value.type "tuple") = false:=by decide
 simp only [h1,h2,h3,Bool.or_false,Bool.false_eq_true,if_false]
 obtain ⟨ep,hat⟩:=hm1.dictAt
 refine wpAny_bind (wpAny_pyIter_dict (s:={ s with heap:=H1 }) hd hat ?_)
 refine wpAny_bind (wpAny_holding ?_)
 unfold Builtin.List.listLengthHint
 have hm2 : (H1.push { cls:=.type "dict_keyiterator",data:=.fields #[.ref d,.int 0 0,.int kvs.length 0,.int ep 0] }).DictOf knd d kvs:=hm1.keep fun b o e=>Heap.get?_push_of_some _ e
 have hT2 : ({ s with heap:=H1.push { cls:=.type "dict_keyiterator",data:=.fields #[.ref d,.int 0 0,.int kvs.length 0,.int ep 0] } } : Shared).TypeIs (.ref d) "dict":=hm2.typeIs
 refine wpAny_bind (wpAny_specialOf (T:="dict") (v:=.ref d) hT2 J6J ?_)
 wp_delta
 refine wpAny_bind (wpAny_isInstance (T:="dict") (v:=.ref d) (b:=true) hT2 (by rw [isSubtype_type]; kernel_rfl) ?_)
 show wpAny _ A.in1 (typeOf (Value.ref d) >>= _) _ _ _
 refine wpAny_bind (wpAny_typeOf (T:="dict") (v:=.ref d) hT2 ?_)
 refine wpAny_pure ?_
 show wpAny _ A.in1 (rule "list.extend.makes-room" >>= fun _=>Builtin.List.listTouch (.ref s.heap.objs.size) >>= fun _ =>
  again (.builtin "list.extend.loop" ⟨[.ref s.heap.objs.size,.ref H1.objs.size,.ref s.heap.objs.size],[]⟩)) _ _ _
 refine wpAny_bind (wpAny_rule ?_)
 generalize hH2 : H1.push { cls:=.type "dict_keyiterator",data:=.fields #[.ref d,.int 0 0,.int kvs.length 0,.int ep 0] } = H2 at hm2 hT2 ⊢
 have keep2 : ∀ b o,H1.get? b = some o → H2.get? b = some o:=fun b o e=>by rw [← hH2]; exact Heap.get?_push_of_some _ e
 have hS1 : H2.get? s.heap.objs.size = some { cls:=.type "list",data:=.seq ([] : List Value).toArray }:=keep2 _ _ (by rw [← hH]; exact Heap.get?_push_size _ rfl)
 have hit : H2.IsKeyIter H1.objs.size d 0 kvs.length ep:=⟨_,by rw [← hH2]; exact Heap.get?_push_size _ rfl,rfl,rfl⟩
 have hat2 : H2.DictAt knd d kvs ep:=by rw [← hH2]; exact hat.push _
 have hne : d ≠ H1.objs.size:=Nat.ne_of_lt (by rw [hHs]; exact Nat.lt_succ_of_lt hdl)
 refine wpAny_bind ?_
 show wpAny _ A.in1 (updateSeq s.heap.objs.size (·.push .none) >>= fun _=>updateSeq s.heap.objs.size (·.pop)) _ _ _
 refine wpAny_bind (wpAny_updateSeq (s:={ s with heap:=H2 }) hS1 rfl ?_)
 have hS2:=Heap.get?_update_self (Obj.mapSeq (·.push Value.none)) hS1 rfl
 refine wpAny_updateSeq hS2 rfl ?_
 have hS3:=Heap.get?_update_self (Obj.mapSeq (·.pop)) hS2 rfl
 have oth : ∀ b o,b ≠ s.heap.objs.size → H2.get? b = some o → ((H2.update s.heap.objs.size (Obj.mapSeq (·.push Value.none))).update s.heap.objs.size (Obj.mapSeq (·.pop))).get? b = some o :=
  fun b o hb e=>(Heap.get?_update_other _ _ (Ne.symm hb)).trans ((Heap.get?_update_other _ _ (Ne.symm hb)).trans e)
 have hSf : s.heap.objs.size ∉ [H1.objs.size,d]:=fun hm=>by
  rcases List.mem_cons.mp hm with e | e
  ·rw [hHs] at e; omega
  ·exact hsd (List.mem_singleton.mp e)
 refine wpAny_pure ⟨plainId_quiet PySem.F.plain_extend_loop _,codeAny_extend_loopS (Walks.dictKeys (A:=A.in1) (knd:=knd) hh _ d hne kvs ep).toS hn _ hSf _ kvs.length 0 _ _ _ rfl (Nat.zero_le _) ⟨hit.at fun o e=>oth _ o (by rw [hHs]; omega) e,hat2.at' fun o e=>oth _ o hsd.symm e⟩ hS3 (ItemsOf.nil _) fun s' acc' c' hm hS' hacc=>?_⟩
 show wpAny _ A (load s.heap.objs.size >>= _) _ _ s'
 refine wpAny_bind (wpAny_load hS' ?_)
 refine wpAny_pure (hQ s' acc' (fun b ob e=>?_) hm.gens hm.drawn hm.os (Heap.lt_size hS') hacc)
 have hlt:=Heap.lt_size e
 refine hm.heap b ob (fun hb=>?_) (oth b ob (Nat.ne_of_lt hlt) (keep2 _ _ (keep1 _ _ e)))
 rcases List.mem_cons.mp hb with h | h
 ·exact absurd hlt (h ▸ Nat.lt_irrefl _)
 ·rw [List.mem_singleton.mp h,hHs] at hlt; exact absurd hlt (Nat.not_lt.mpr (Nat.le_succ _))
end
theorem J3n : ∀ {vs : List Value} {ss : List Str},vs.length = ss.length → (∀ (i : Nat) (v : Value),vs[i]? = some v → ∃ (s : Str) (t : Tok),ss[i]? = some s ∧ v = Value.str s t) → StrsAre vs ss
 | [],[],_,_=>.nil
 | [],_ :: _,h,_=>by simp at h
 | _ :: _,[],h,_=>by simp at h
 | v :: vs,s :: ss,h,hh=>by
  obtain ⟨s',t,e1,e2⟩:=hh 0 v rfl
  cases e1
  subst e2
  exact .cons _ _ (J3n (by simpa using h) fun i u hu=>hh (i + 1) u hu)
theorem J5c : ∀ {vs : List Value} {ss : List Str},StrsAre vs ss → Vals (ss.map V.str) vs
 | _,_,.nil=>.nil
 | _,_,.cons y t h=>.cons ⟨t,rfl⟩ (J5c h)
section
variable {X : Cx}
end
theorem JbI {a b c : List Nat} (h1 : ltCps b a = false) (h2 : ltCps c b = false) : ltCps c a = false:=by
 rw [ltCps_eq] at *
 have h1' : ¬ b < a:=of_decide_eq_false h1
 have h2' : ¬ c < b:=of_decide_eq_false h2
 exact decide_eq_false (List.not_lt.mpr (List.le_trans (List.not_lt.mp h1') (List.not_lt.mp h2')))
theorem J4N : ∀ (l : List Str) (p : Str),risingS p l = true → (p :: l).Pairwise fun a b=>ltCps b.cps.toList a.cps.toList = false
 | [],p,_=>List.pairwise_singleton _ _
 | x :: r,p,h=>by
  have h' : (!ltCps x.cps.toList p.cps.toList && risingS x r) = true:=h
  obtain ⟨h1,h2⟩:=(Bool.and_eq_true _ _).mp h'
  have ih:=J4N r x h2
  have h1' : ltCps x.cps.toList p.cps.toList = false:=by simpa using h1
  refine List.pairwise_cons.mpr ⟨fun y hy=>?_,ih⟩
  rcases List.mem_cons.mp hy with rfl | hy
  ·exact h1'
  ·exact JbI h1' ((List.pairwise_cons.mp ih).1 y hy)
theorem J8J {l : List Str} (h : sortedS l = true) : l.Pairwise fun a b=>ltCps b.cps.toList a.cps.toList = false:=by
 cases l with
 | nil=>exact List.Pairwise.nil
 | cons x r=>exact J4N r x h
section
variable {X : Cx} {K : PySem.W.Frag}
theorem J71 : ∀ {v : V},J1h v = true → eqV v v = true:=fun {v} h=>by
 have:=J1R (xs:=[v]) (by simp [h])
 simpa [eqVs] using this
theorem J9E {zs : List V} (h : zs.all J1h = true) : (List.range zs.length).all (fun j=>eqV (zs.getD j .non) (zs.getD j .non)) = true:=by
 refine List.all_eq_true.mpr fun j hj=>J71 ?_
 rw [List.mem_range] at hj
 rw [List.getD_eq_getElem?_getD,List.getElem?_eq_getElem hj]
 exact List.all_eq_true.mp h _ (List.getElem_mem hj)
noncomputable def rTL (neg : Bool) : R2:=fun x y H Q=>∃ p r a l1 l2 zs,x = .ref p ∧ y = .ref r ∧ H p = some (.tup [T a,.ref l1]) ∧ H r = some (.tup [T a,.ref l2]) ∧ H l1 = some (.lst zs) ∧ H l2 = some (.lst zs) ∧ zs.all J1h = true ∧ Q (.bl (!neg)) H
theorem JbA {A : Around} {pins : List (Addr × Obj)} {s : Shared} {σ : St} {H : Hp} {a : List Nat} {l1 l2 : Addr} {zs : List V} {t1 t2 : Tok} (I : Inv X pins σ H s) (h1 : H l1 = some (.lst zs)) (h2 : H l2 = some (.lst zs)) (hz : zs.all J1h = true) (hu : A.units < cLine) :
  ∀ j (h1 : j < #[Value.str ⟨a.toArray⟩ t1,Value.ref l1].size) (h2 : j < #[Value.str ⟨a.toArray⟩ t2,Value.ref l2].size),SeqAt.EqAt A s #[Value.str ⟨a.toArray⟩ t1,Value.ref l1][j] #[Value.str ⟨a.toArray⟩ t2,Value.ref l2][j] true
 | 0,_,_=>by
  have q:=J2V (A:=A) (s:=s) (xs:=[T a]) (ys:=[T a]) (ia:=[Value.str ⟨a.toArray⟩ t1]) (ib:=[Value.str ⟨a.toArray⟩ t2]) (.cons ⟨t1,rfl⟩ .nil) (.cons ⟨t2,rfl⟩ .nil) rfl rfl 0 (by simp) (by simp)
  have e : eqV (([T a] : List V).getD 0 .non) (([T a] : List V).getD 0 .non) = true:=J71 rfl
  rw [e] at q
  exact q
 | 1,_,_=>by
  show SeqAt.EqAt A s (Value.ref l1) (Value.ref l2) true
  by_cases e : l1 = l2
  ·subst e; exact SeqAt.EqAt.same _
  ·obtain ⟨ia,ra,pa,za⟩:=I.list (SqL.of h1)
   obtain ⟨ib,rb,pb,zb⟩:=I.list (SqL.of h2)
   have la:=ra.length
   have lb:=rb.length
   have q:=SeqAt.RcAt.lists (A:=A) (e:=fun j=>eqV (zs.getD j .non) (zs.getD j .non)) pa.isList pb.isList (by simp; omega) hu (J2V ra rb hz hz)
   rw [List.size_toArray,← la,J9E hz] at q
   exact SeqAt.EqAt.of_refs e q
 | n + 2,h,_=>absurd (show n + 2 < 2 from h) (by omega)
theorem Jan (hu : X.A.units + 1 < cLine) : OpR X (compareOp .Eq) (rTL false):=by
 intro pins s σ H x y v u Q I rx ry h
 obtain ⟨p,r,a,l1,l2,zs,rfl,rfl,hp,hr,h1,h2,hz,q⟩:=h
 cases rx; cases ry
 obtain ⟨ia,ra,pa,za⟩:=I.tuple (SqT.of hp)
 obtain ⟨ib,rb,pb,zb⟩:=I.tuple (SqT.of hr)
 obtain ⟨w1,w2,rfl,r1,r2⟩:=ra.two
 obtain ⟨w3,w4,rfl,r3,r4⟩:=rb.two
 obtain ⟨t1,rfl⟩:=r1
 obtain ⟨t3,rfl⟩:=r3
 cases r2; cases r4
 exact SeqAt.RcAt.tuples (e:=fun _=>true) (show s.heap.IsTuple p _ from pa) (show s.heap.IsTuple r _ from pb) (Nat.lt_of_succ_lt hu) (JbA I h1 h2 hz (by first | exact hu | exact Nat.lt_of_succ_lt hu)) _ _ _ _ ⟨.bl _,H,I,rfl,q⟩
end
theorem J8M : bootBuiltins "sorted" = some (.builtin "sorted"):=by decide +kernel
section
variable {X : Cx}
theorem Ja3 {x : Str} {n : Int} {pos : Pos} (hg : Gl X x) (hm : ∃ t,X.mg x = some (.int n t)) (hd : (x == ("__debug__" : Str)) = false:=by decide) : PE X (.Name x pos) (tC (.int n)):=by
 obtain ⟨t,hm⟩:=hm
 exact Jai hg hm ⟨t,rfl⟩ hd
end
section
variable {X : Cx}
theorem J7J : J1i X (.builtin "isinstance") (fun xs H Q=>∃ p ys,xs = [.ref p,.ty "list"] ∧ H p = some (.lst ys) ∧ Q (.bl true) H):=by
 intro pins s σ H xs us Q I r h
 obtain ⟨p,ys,rfl,hp,q⟩:=h
 obtain ⟨u,v,rfl,r1,r2⟩:=r.two
 cases r1; cases r2
 obtain ⟨_,its,_,_,h1⟩:=I.hok p _ hp
 exact PySem.W.kia_one PySem.W.kitx_list I.kIn ⟨_,h1,rfl⟩ (by rfl) (fun z=>nomatch z) fun tk=>⟨.bl true,H,I.tok _,rfl,q⟩
end
end L2
set_option linter.all false
set_option maxRecDepth 100000
set_option maxHeartbeats 4000000
namespace L2
open PySem PySem.Spec PyProof.Rows
section
variable {p : Program} {w : World} {A : Around} {R : Result → Shared → Prop} {it bst : Addr} {fp wr : List Addr} {n : Nat} {G : Nat → Value → Prop} {St : Nat → Heap → Prop} {bt : Nat → Nat → Bool} {kw : List (Str × Value)}
end
section
variable {p : Program} {w : World} {A : Around} {E : Value → Shared → Prop} {s : Shared} {l : Addr} {xs : Array (Int × Tok)} {Q : Value → Shared → Prop} {d : Value}
end
section
variable {X : Cx} {K : PySem.W.Frag}
end
end L2
set_option linter.all false
set_option maxRecDepth 100000
set_option maxHeartbeats 4000000
namespace L2
open PySem PySem.Spec PyProof.Rows
section
variable {κ : Type} [DecidableEq κ]
end
section
variable {p : Program} {w : World} {A : Around} {R : Result → Shared → Prop} {it : Addr} {fp wr : List Addr} {gs : Array GenState → Array GenState → Prop} {n : Nat} {Pv : Nat → Value → Prop} {St : Nat → Shared → Prop}
end
section
variable {p : Program} {w : World} {A : Around} {E : Value → Shared → Prop} {s : Shared}
end
section
variable {X : Cx}
end
end L2
set_option linter.all false
set_option maxRecDepth 100000
namespace L2
open PySem PySem.Spec PyProof.Rows
section
variable {X : Cx}
end
end L2
set_option linter.all false
set_option maxRecDepth 100000
set_option maxHeartbeats 4000000
namespace L2
open PySem PySem.Spec PyProof.Rows
section
variable {X : Cx} {e : Expr} {pos : Pos}
end
end L2
set_option linter.all false
set_option maxRecDepth 100000
set_option maxHeartbeats 4000000
namespace L2
open PySem PySem.Spec PyProof.Rows
section
variable {X : Cx}
end
end L2
set_option linter.all false
set_option maxRecDepth 100000
set_option maxHeartbeats 4000000
namespace L2
open PySem PySem.Spec PyProof.Rows
section
variable {X : Cx} {K : PySem.W.Frag} {pins : List (Addr × Obj)} {σ : St} {H : Hp} {s : Shared} {A : Around}
end
end L2
namespace L2
open PySem
end L2
set_option linter.all false
set_option maxRecDepth 100000
set_option maxHeartbeats 4000000
namespace L2
open PySem PySem.Spec PyProof.Rows
section
variable {X : Cx}
end
end L2
set_option linter.all false
set_option maxRecDepth 100000
set_option maxHeartbeats 4000000
namespace L2
open PySem PySem.Spec PyProof.Rows
section
variable {X : Cx} {K : PySem.W.Frag}
end
end L2
set_option linter.all false
set_option maxRecDepth 100000
set_option maxHeartbeats 4000000
namespace L2
open PySem PySem.Spec PyProof.Rows
section
variable {M : Model} {A : Around} {E : Value → Shared → Prop} {s : Shared} {B : Heap} {env : Env} {outer l : List Env} {L e : Addr} {c a0 fl : Value} {d : Option Addr} {Q : Unit → Shared → Prop}
end
end L2
set_option linter.all false
set_option maxRecDepth 100000
set_option maxHeartbeats 4000000
namespace L2
open PySem PySem.Spec PyProof.Rows
section
variable {prog : Program} {w : World} {A : Around} {E : Value → Shared → Prop} {h : Heap} {g : Array GenState} {d : Drawn} {t : Nat} {os : OsState}
variable {nm q : Str} {C N : Addr} {bs bm : List Value} {hdct : Bool} {sn : List Str} {sub : List Value} {ab : Bool} {col : Option Bool} {dd : Option Addr} {k0 k1 k2 k3 k5 : Option Value}
end
end L2
set_option linter.all false
set_option maxRecDepth 100000
set_option maxHeartbeats 4000000
namespace L2
open PySem PySem.Spec PyProof.Rows PySem.Builtin PySem.Builtin.ObjectAttr
section
variable {prog : Program} {w : World} {A : Around} {R : Result → Shared → Prop} {E : Value → Shared → Prop} {s : Shared} {K : PySem.W.Frag} {x C : Addr} {f : Str} {v : Value}
end
section
variable {X : Cx} {pins : List (Addr × Obj)} {σ : St} {H : Hp} {s : Shared} {e C t dx : Addr} {f : Str} {v : V} {u : Value} {A : Around} {E : Value → Shared → Prop} {Q : Unit → Shared → Prop}
end
end L2
set_option linter.all false
set_option maxRecDepth 100000
set_option maxHeartbeats 4000000
namespace L2
open PySem PySem.Spec PyProof.Rows
section
variable {X : Cx} {pins : List (Addr × Obj)} {σ : St} {H : Hp} {s : Shared} {E : XK} {Ex : Value → Shared → Prop}
end
section
variable {X : Cx} {pins : List (Addr × Obj)} {σ : St} {H : Hp} {s : Shared}
end
section
variable {P : Program} {w : World} {K : PySem.W.Frag} {mg : Str → Option Value} {base : Heap}
end
section
variable {X : Cx} {x m : Str} {k : Nat} {ps : List Str} {sp : Sp} {C : Addr} {p pos apos : Pos} {e o : Expr} {es : List Expr} {t : TA} {to : TE} {E : XK}
end
section
variable {X : Cx} {x : Str} {k : Nat} {ps : List Str} {sp : Sp} {C : Addr} {np cpos pos : Pos} {e : Expr} {es : List Expr} {t : TA} {E : XK}
end
end L2
set_option linter.all false
set_option maxRecDepth 100000
set_option maxHeartbeats 4000000
namespace L2
open PySem PySem.Spec PyProof.Rows PySem.Builtin PySem.Builtin.ObjectAttr
section
variable {X : Cx}
end
section
variable {prog : Program} {w : World} {A : Around} {E : Value → Shared → Prop} {K : PySem.W.Frag} {x C : Addr} {h : Heap} {g : Array GenState} {d : Drawn} {t : Nat} {os : OsState} {o : Obj} {od : Option Obj} {f : Str} {v : Value}
end
section
variable {X : Cx} {K : PySem.W.Frag}
end
end L2
set_option linter.all false
set_option maxRecDepth 100000
set_option maxHeartbeats 4000000
namespace L2
open PySem PySem.Spec PyProof.Rows
section
variable {X : Cx} {pins : List (Addr × Obj)} {σ : St} {H : Hp} {s : Shared} {E : XK} {Ex : Value → Shared → Prop}
end
section
variable {X : Cx} {x m : Str} {k : Nat} {ps : List Str} {sp : Sp} {C : Addr} {p pos apos : Pos} {e o : Expr} {es : List Expr} {t : TA} {to : TE} {E : XK}
end
section
variable {X : Cx} {K : PySem.W.Frag}
end
end L2
set_option linter.all false
set_option maxRecDepth 100000
set_option maxHeartbeats 4000000
namespace L2
open PySem PySem.Spec PyProof.Rows PySem.NumText
section
variable {X : Cx}
end
end L2
set_option linter.all false
set_option maxRecDepth 100000
set_option maxHeartbeats 4000000
namespace L2
open PySem PySem.Spec PyProof.Rows
section
variable {X : Cx} {a b c d : Expr} {ta tb tc td : TE} {pos : Pos}
end
section
variable {X : Cx} {K : PySem.W.Frag}
end
section
open PySem.StrLaws Builtin Builtin.Str
end
section
variable {X : Cx} {K : PySem.W.Frag}
end
section
variable {X : Cx} {e : Expr} {te : TE} {pos : Pos}
end
end L2
set_option linter.all false
set_option maxRecDepth 100000
set_option maxHeartbeats 4000000
namespace L2
open PySem PySem.Spec PyProof.Rows
section
open PySem.StrLaws Builtin Builtin.Str
end
section
variable {X : Cx} {K : PySem.W.Frag}
end
section
variable {X : Cx}
end
end L2
set_option linter.all false
set_option maxRecDepth 100000
set_option maxHeartbeats 4000000
namespace L2
open PySem PySem.Spec PyProof.Rows
section
variable {X : Cx} {K : PySem.W.Frag}
end
end L2
set_option linter.all false
set_option maxRecDepth 100000
set_option maxHeartbeats 4000000
namespace L2
open PySem PySem.Spec PyProof.Rows
section
variable {X : Cx} {K : PySem.W.Frag}
end
end L2
set_option linter.all false
set_option maxRecDepth 100000
set_option maxHeartbeats 4000000
namespace L2
open PySem PySem.Spec PyProof.Rows
section
variable {X : Cx} {K : PySem.W.Frag}
end
end L2
set_option linter.all false
set_option maxRecDepth 100000
set_option maxHeartbeats 4000000
namespace L2
open PySem PySem.Spec PyProof.Rows
noncomputable abbrev SM (α : Type):=StateT SortSt Sem α
noncomputable def J11 : Bool → Keyed → Array Keyed → Nat → Nat → Nat → SM (Option Nat):=sortPriv% PySem.Builtin.gallop
noncomputable def bey (left : Bool) (key : Keyed) (arr : Array Keyed) (base i : Nat) : SM (Option Bool):=do
 let x ← elem' arr (base + i)
 if left then lt' x key else return (← lt' key x).map (!·)
noncomputable def J3v (b : Nat → SM (Option Bool)) (n lo0 hi0 : Nat) : SM (Option Nat):=do
 let mut lo:=lo0
 let mut hi:=hi0
 for _ in [0:n] do
  if lo ≥ hi then break
  let m:=lo + (hi - lo) / 2
  let some more ← b m | return none
  if more then lo:=m + 1 else hi:=m
 return some hi
theorem J7T (left : Bool) (key : Keyed) (arr : Array Keyed) (base cnt hn : Nat) : J11 left key arr base cnt hn = (do
 let mut e:=0
 let mut o:=1
 let mut lw:=0
 let mut hg:=0
 let some rt ← bey left key arr base hn | return none
 if rt then
  let mx:=cnt - hn
  for _ in [0:cnt] do
   if o ≥ mx then break
   let some yes ← bey left key arr base (hn + o) | return none
   if !yes then break
   e:=o
   o:=2 * o + 1
  lw:=hn + e + 1
  hg:=hn + min o mx
 else
  let mx:=hn + 1
  for _ in [0:cnt] do
   if o ≥ mx then break
   let some yes ← bey left key arr base (hn - o) | return none
   if yes then break
   e:=o
   o:=2 * o + 1
  lw:=hn + 1 - min o mx
  hg:=hn - e
 for _ in [0:cnt] do
  if lw ≥ hg then break
  let mid:=lw + (hg - lw) / 2
  let some yes ← bey left key arr base mid | return none
  if yes then lw:=mid + 1 else hg:=mid
 return some hg):=rfl
section
variable {prog : Program} {w : World} {A : Around} {E : Value → Shared → Prop} {s : Shared}
theorem J3q {b : Nat → SM (Option Bool)} {B : Nat → Bool} {n lo hi : Nat} {st : SortSt} {Q : Option Nat → SortSt → Prop} (hb : ∀ i,i < n → ∀ R : Option Bool → SortSt → Prop,R (some (B i)) st → wpS (model prog w) A E s (b i) R st)
  (mono : ∀ i j,i ≤ j → j < n → B j = true → B i = true) (h1 : lo ≤ hi) (h2 : hi ≤ n) (h3 : ∀ i,i < lo → B i = true) (h4 : ∀ i,hi ≤ i → i < n → B i = false)
  (h : ∀ k,k ≤ n → (∀ i,i < k → B i = true) → (∀ i,k ≤ i → i < n → B i = false) → Q (some k) st) : wpS (model prog w) A E s (J3v b n lo hi) Q st:=by
 unfold J3v
 refine wpS_bind (wpS_mono (wpS_forRange
  (I:=fun x c st'=>st' = st ∧ ∃ l r,c = (none,l,r) ∧ l ≤ r ∧ r ≤ n ∧ r - l ≤ n - x ∧ (∀ i,i < l → B i = true) ∧ (∀ i,r ≤ i → i < n → B i = false))
  (Q:=fun c st'=>st' = st ∧ ∃ l,c = (none,l,l) ∧ l ≤ n ∧ (∀ i,i < l → B i = true) ∧ (∀ i,l ≤ i → i < n → B i = false)) ?_ ?_ ⟨rfl,lo,hi,rfl,h1,h2,by omega,h3,h4⟩) ?_)
 ·rintro x c st' _ hx ⟨rfl,l,r,rfl,a1,a2,a3,a4,a5⟩
  dsimp only
  by_cases hge : l ≥ r
  ·rw [if_pos hge]
   have e : l = r:=by omega
   subst e
   exact wpS_pure ⟨rfl,l,rfl,a2,a4,a5⟩
  ·rw [if_neg hge]
   refine wpS_bind (hb _ (by omega) _ ?_)
   dsimp only
   cases hm : B (l + (r - l) / 2)
   ·rw [if_neg (by decide)]
    refine wpS_pure ⟨rfl,l,_,rfl,by omega,by omega,by omega,a4,fun i h1 h2=>?_⟩
    cases hi : B i
    ·rfl
    ·rw [mono _ i h1 h2 hi] at hm; cases hm
   ·rw [if_pos rfl]
    refine wpS_pure ⟨rfl,_,r,rfl,by omega,by omega,by omega,fun i h1=>?_,a5⟩
    exact mono i _ (by omega) (by omega) hm
 ·rintro c st' ⟨rfl,l,r,rfl,a1,a2,a3,a4,a5⟩
  have e : l = r:=by omega
  subst e
  exact ⟨rfl,l,rfl,a2,a4,a5⟩
 ·rintro c st' ⟨rfl,l,rfl,a2,a4,a5⟩
  exact wpS_pure (h l a2 a4 a5)
theorem J6W {left : Bool} {key : Keyed} {arr : Array Keyed} {base n hint : Nat} {B : Nat → Bool} {st : SortSt} {Q : Option Nat → SortSt → Prop}
  (hb : ∀ i,i < n → ∀ R : Option Bool → SortSt → Prop,R (some (B i)) st → wpS (model prog w) A E s (bey left key arr base i) R st)
  (mono : ∀ i j,i ≤ j → j < n → B j = true → B i = true) (hh : hint < n)
  (h : ∀ k,k ≤ n → (∀ i,i < k → B i = true) → (∀ i,k ≤ i → i < n → B i = false) → Q (some k) st) : wpS (model prog w) A E s (J11 left key arr base n hint) Q st:=by
 rw [J7T]
 refine wpS_bind (hb hint hh _ ?_)
 have up : ∀ i j,i ≤ j → j < n → B i = false → B j = false:=fun i j hij hj hi=>by
  cases hB : B j
  ·rfl
  ·rw [mono i j hij hj hB] at hi; cases hi
 cases hB : B hint
 ·show wpS (model prog w) A E s (forIn [0:n] ((none,0,1) : Option (Option Nat) × Nat × Nat) _ >>= _) Q st
  refine wpS_bind (wpS_mono (wpS_forRange (I:=fun x c st'=>st' = st ∧ ∃ l o,c = (none,l,o) ∧ l < o ∧ l < hint + 1 ∧ x + 1 ≤ o ∧ B (hint - l) = false)
   (Q:=fun c st'=>st' = st ∧ ∃ l o,c = (none,l,o) ∧ l < o ∧ l < hint + 1 ∧ B (hint - l) = false ∧ (o ≥ hint + 1 ∨ B (hint - o) = true)) ?_ ?_ ⟨rfl,0,1,rfl,by omega,by omega,by omega,hB⟩) ?_)
  ·rintro x c st' _ hx ⟨rfl,l,o,rfl,a1,a2,a3,a4⟩
   dsimp only
   by_cases hge : o ≥ hint + 1
   ·rw [if_pos hge]
    exact wpS_pure ⟨rfl,l,o,rfl,a1,a2,a4,.inl hge⟩
   ·rw [if_neg hge]
    refine wpS_bind (hb (hint - o) (by omega) _ ?_)
    dsimp only
    cases hBo : B (hint - o)
    ·rw [if_neg (by decide)]
     exact wpS_pure ⟨rfl,o,_,rfl,by omega,by omega,by omega,hBo⟩
    ·rw [if_pos rfl]
     exact wpS_pure ⟨rfl,l,o,rfl,a1,a2,a4,.inr hBo⟩
  ·rintro c st' ⟨rfl,l,o,rfl,a1,a2,a3,a4⟩
   exact ⟨rfl,l,o,rfl,a1,a2,a4,.inl (by omega)⟩
  ·rintro c st' ⟨rfl,l,o,rfl,a1,a2,a4,a5⟩
   show wpS (model prog w) A E s (J3v (bey left key arr base) n (hint + 1 - min o (hint + 1)) (hint - l)) Q _
   refine J3q hb mono (by omega) (by omega) (fun i hi=>?_) (fun i h1 h2=>up _ i h1 h2 a4) h
   rcases a5 with a5 | a5
   ·omega
   ·exact mono i (hint - o) (by omega) (by omega) a5
 ·show wpS (model prog w) A E s (forIn [0:n] ((none,0,1) : Option (Option Nat) × Nat × Nat) _ >>= _) Q st
  refine wpS_bind (wpS_mono (wpS_forRange (I:=fun x c st'=>st' = st ∧ ∃ l o,c = (none,l,o) ∧ l < o ∧ l < n - hint ∧ x + 1 ≤ o ∧ B (hint + l) = true)
   (Q:=fun c st'=>st' = st ∧ ∃ l o,c = (none,l,o) ∧ l < o ∧ l < n - hint ∧ B (hint + l) = true ∧ (o ≥ n - hint ∨ B (hint + o) = false)) ?_ ?_ ⟨rfl,0,1,rfl,by omega,by omega,by omega,hB⟩) ?_)
  ·rintro x c st' _ hx ⟨rfl,l,o,rfl,a1,a2,a3,a4⟩
   dsimp only
   by_cases hge : o ≥ n - hint
   ·rw [if_pos hge]
    exact wpS_pure ⟨rfl,l,o,rfl,a1,a2,a4,.inl hge⟩
   ·rw [if_neg hge]
    refine wpS_bind (hb (hint + o) (by omega) _ ?_)
    dsimp only
    cases hBo : B (hint + o)
    ·rw [if_pos (by decide)]
     exact wpS_pure ⟨rfl,l,o,rfl,a1,a2,a4,.inr hBo⟩
    ·rw [if_neg (by decide)]
     exact wpS_pure ⟨rfl,o,_,rfl,by omega,by omega,by omega,hBo⟩
  ·rintro c st' ⟨rfl,l,o,rfl,a1,a2,a3,a4⟩
   exact ⟨rfl,l,o,rfl,a1,a2,a4,.inl (by omega)⟩
  ·rintro c st' ⟨rfl,l,o,rfl,a1,a2,a4,a5⟩
   show wpS (model prog w) A E s (J3v (bey left key arr base) n (hint + l + 1) (hint + min o (n - hint))) Q _
   refine J3q hb mono (by omega) (by omega) (fun i hi=>mono i (hint + l) (by omega) (by omega) a4) (fun i h1 h2=>?_) h
   rcases a5 with a5 | a5
   ·omega
   ·exact up (hint + o) i (by omega) h2 a5
end
noncomputable def J0G : Nat → SM Unit:=sortPriv% PySem.Builtin.setMinGallop
noncomputable def J4c : Array Keyed → Array Keyed → SM (Array Keyed):=sortPriv% PySem.Builtin.mergeLo
noncomputable def J4e : Array Keyed → Array Keyed → SM (Array Keyed):=sortPriv% PySem.Builtin.mergeHi
theorem J6K (a b : Array Keyed) : J4c a b = (do
 rule "list.sort.merge-lo"
 let tot:=a.size + b.size
 let fin (o : Array Keyed) (i j : Nat):=o ++ a.extract i a.size ++ b.extract j b.size
 let fin2 (o : Array Keyed) (i j : Nat):=o ++ b.extract j b.size ++ a.extract i a.size
 let mut o : Array Keyed:=#[← elem' b 0]
 let mut i:=0
 let mut j:=1
 if j == b.size then return fin o i j
 if i + 1 == a.size then return fin2 o i j
 let mut g:=gallopOf (← get)
 for _ in [0:tot] do
  let mut ac:=0
  let mut bc:=0
  for _ in [0:tot] do
   let some win ← lt' (← elem' b j) (← elem' a i) | return fin o i j
   if win then
    o:=o.push (← elem' b j); j:=j + 1; bc:=bc + 1; ac:=0
    if j == b.size then return fin o i j
    if bc ≥ g then break
   else
    o:=o.push (← elem' a i); i:=i + 1; ac:=ac + 1; bc:=0
    if i + 1 == a.size then return fin2 o i j
    if ac ≥ g then break
  rule "list.sort.gallop"
  g:=g + 1
  for _ in [0:tot] do
   if g > 1 then g:=g - 1
   J0G g
   let some k ← J11 false (← elem' b j) a i (a.size - i) 0 | return fin o i j
   ac:=k
   if k > 0 then
    o:=o ++ a.extract i (i + k); i:=i + k
    if i + 1 == a.size then return fin2 o i j
    if i == a.size then return fin o i j
   o:=o.push (← elem' b j); j:=j + 1
   if j == b.size then return fin o i j
   let some k ← J11 true (← elem' a i) b j (b.size - j) 0 | return fin o i j
   bc:=k
   if k > 0 then
    o:=o ++ b.extract j (j + k); j:=j + k
    if j == b.size then return fin o i j
   o:=o.push (← elem' a i); i:=i + 1
   if i + 1 == a.size then return fin2 o i j
   if ac < 7 && bc < 7 then break
  g:=g + 1
  J0G g
 unsupported "internal:list.sort.merge-bound"):=rfl
theorem J0C (g : Nat) : J0G g = modify fun s=>SortSt.mk' (kindOf s) (arrOf s) (pendingOf s) g (failedOf s):=rfl
structure J0e (st st' : SortSt) : Prop where
 k : kindOf st' = kindOf st
 a : arrOf st' = arrOf st
 p : pendingOf st' = pendingOf st
 f : failedOf st' = failedOf st
theorem J0e.refl (st : SortSt) : J0e st st:=⟨rfl,rfl,rfl,rfl⟩
theorem J0e.set {st st' : SortSt} (h : J0e st st') (g : Nat) : J0e st (SortSt.mk' (kindOf st') (arrOf st') (pendingOf st') g (failedOf st')):=⟨h.k,h.a,h.p,h.f⟩
section
variable {κ : PyProof.Rows.KeyKind}
noncomputable def kOf (κ : PyProof.Rows.KeyKind) (p : Keyed) : κ.α:=(κ.keyOf p.1).getD κ.dflt
noncomputable def leKy (κ : PyProof.Rows.KeyKind) (p q : Keyed) : Prop:=κ.kle (kOf κ p) (kOf κ q)
noncomputable def ltB (κ : PyProof.Rows.KeyKind) (p q : Keyed) : Bool:=κ.blt (kOf κ p) (kOf κ q)
noncomputable def Kd (κ : PyProof.Rows.KeyKind) (p : Keyed) : Prop:=∃ a,κ.keyOf p.1 = some a
theorem leKy.refl (p : Keyed) : leKy κ p p:=KeyOrd.kle_refl _
theorem leKy.trans {p q r : Keyed} (h : leKy κ p q) (h2 : leKy κ q r) : leKy κ p r:=KeyOrd.kle_trans h h2
theorem leKy.of_lt {p q : Keyed} (h : ltB κ p q = true) : leKy κ p q:=KeyOrd.kle_of_klt h
theorem leKy.of_not {p q : Keyed} (h : ltB κ p q = false) : leKy κ q p:=h
theorem ltB.le {p q r : Keyed} (h : ltB κ p q = true) (h2 : leKy κ q r) : ltB κ p r = true:=KeyOrd.klt_of_klt_of_kle h h2
theorem leKy.lt {p q r : Keyed} (h : leKy κ p q) (h2 : ltB κ q r = true) : ltB κ p r = true:=KeyOrd.klt_of_kle_of_klt h h2
structure ML (κ : PyProof.Rows.KeyKind) (al bl out : List Keyed) (ia ib : Nat) : Prop where
 pa : ia ≤ al.length
 pb : ib ≤ bl.length
 perm : (out ++ (al.drop ia ++ bl.drop ib)).Perm (al ++ bl)
 srt : out.Pairwise (leKy κ)
 la : ∀ x ∈ out,∀ y ∈ al.drop ia,leKy κ x y
 lb : ∀ x ∈ out,∀ y ∈ bl.drop ib,leKy κ x y
theorem J5W {l : List Keyed} {i : Nat} {x : Keyed} (h : l[i]? = some x) : l.drop i = x :: l.drop (i + 1):=by
 obtain ⟨h1,h2⟩:=List.getElem?_eq_some_iff.mp h
 rw [List.drop_eq_getElem_cons h1,h2]
theorem J1L {l : List Keyed} (s : l.Pairwise (leKy κ)) (i : Nat) : (l.drop i).Pairwise (leKy κ):=s.sublist (List.drop_sublist _ _)
variable {al bl out : List Keyed} {ia ib : Nat}
theorem ML.pushA (h : ML κ al bl out ia ib) (sa : al.Pairwise (leKy κ)) {x : Keyed} (hx : al[ia]? = some x) (hle : ∀ y ∈ bl.drop ib,leKy κ x y) : ML κ al bl (out ++ [x]) (ia + 1) ib:=by
 have hd:=J5W hx
 have hs:=J1L sa ia
 rw [hd] at hs
 have hl:=(List.getElem?_eq_some_iff.mp hx).1
 refine ⟨by omega,h.pb,?_,?_,?_,?_⟩
 ·have:=h.perm
  rw [hd] at this
  rw [List.append_assoc]
  exact this
 ·refine List.pairwise_append.mpr ⟨h.srt,List.pairwise_singleton _ _,fun y hy z hz=>?_⟩
  rw [List.mem_singleton.mp hz]
  exact h.la y hy x (by rw [hd]; exact List.mem_cons_self)
 ·intro y hy z hz
  rcases List.mem_append.mp hy with hy | hy
  ·exact h.la y hy z (by rw [hd]; exact List.mem_cons_of_mem _ hz)
  ·rw [List.mem_singleton.mp hy]
   exact (List.pairwise_cons.mp hs).1 z hz
 ·intro y hy z hz
  rcases List.mem_append.mp hy with hy | hy
  ·exact h.lb y hy z hz
  ·rw [List.mem_singleton.mp hy]
   exact hle z hz
theorem ML.pushB (h : ML κ al bl out ia ib) (sb : bl.Pairwise (leKy κ)) {x : Keyed} (hx : bl[ib]? = some x) (hle : ∀ y ∈ al.drop ia,leKy κ x y) : ML κ al bl (out ++ [x]) ia (ib + 1):=by
 have hd:=J5W hx
 have hs:=J1L sb ib
 rw [hd] at hs
 have hl:=(List.getElem?_eq_some_iff.mp hx).1
 refine ⟨h.pa,by omega,?_,?_,?_,?_⟩
 ·have:=h.perm
  rw [hd] at this
  rw [List.append_assoc]
  refine List.Perm.trans (List.Perm.append_left _ ?_) this
  exact (List.perm_middle (a:=x) (l₁:=List.drop ia al) (l₂:=List.drop (ib + 1) bl)).symm
 ·refine List.pairwise_append.mpr ⟨h.srt,List.pairwise_singleton _ _,fun y hy z hz=>?_⟩
  rw [List.mem_singleton.mp hz]
  exact h.lb y hy x (by rw [hd]; exact List.mem_cons_self)
 ·intro y hy z hz
  rcases List.mem_append.mp hy with hy | hy
  ·exact h.la y hy z hz
  ·rw [List.mem_singleton.mp hy]
   exact hle z hz
 ·intro y hy z hz
  rcases List.mem_append.mp hy with hy | hy
  ·exact h.lb y hy z (by rw [hd]; exact List.mem_cons_of_mem _ hz)
  ·rw [List.mem_singleton.mp hy]
   exact (List.pairwise_cons.mp hs).1 z hz
theorem J4M {l : List Keyed} {i k : Nat} {x : Keyed} (h : l[i + k]? = some x) : (l.drop i).take (k + 1) = (l.drop i).take k ++ [x]:=by
 rw [List.take_add_one,List.getElem?_drop,h]
 rfl
theorem ML.extA (h : ML κ al bl out ia ib) (sa : al.Pairwise (leKy κ)) : ∀ (k : Nat),ia + k ≤ al.length → (∀ i x,i < k → al[ia + i]? = some x → ∀ y ∈ bl.drop ib,leKy κ x y) → ML κ al bl (out ++ (al.drop ia).take k) (ia + k) ib
 | 0,_,_=>by rw [List.take_zero,List.append_nil]; exact h
 | k + 1,hk,hx=>by
  have ih:=ML.extA h sa k (by omega) fun i x hi=>hx i x (by omega)
  have e : al[ia + k]? = some al[ia + k]:=List.getElem?_eq_getElem (by omega)
  rw [J4M e,← List.append_assoc]
  exact ih.pushA sa e (hx k _ (by omega) e)
theorem ML.extB (h : ML κ al bl out ia ib) (sb : bl.Pairwise (leKy κ)) : ∀ (k : Nat),ib + k ≤ bl.length → (∀ i x,i < k → bl[ib + i]? = some x → ∀ y ∈ al.drop ia,leKy κ x y) → ML κ al bl (out ++ (bl.drop ib).take k) ia (ib + k)
 | 0,_,_=>by rw [List.take_zero,List.append_nil]; exact h
 | k + 1,hk,hx=>by
  have ih:=ML.extB h sb k (by omega) fun i x hi=>hx i x (by omega)
  have e : bl[ib + k]? = some bl[ib + k]:=List.getElem?_eq_getElem (by omega)
  rw [J4M e,← List.append_assoc]
  exact ih.pushB sb e (hx k _ (by omega) e)
noncomputable def Gd (κ : PyProof.Rows.KeyKind) (al bl r : List Keyed) : Prop:=r.Perm (al ++ bl) ∧ r.Pairwise (leKy κ)
theorem ML.done (h : ML κ al bl out ia ib) (sa : al.Pairwise (leKy κ)) (sb : bl.Pairwise (leKy κ)) (e : ia = al.length ∨ ib = bl.length) : Gd κ al bl (out ++ al.drop ia ++ bl.drop ib):=by
 rw [List.append_assoc]
 refine ⟨h.perm,List.pairwise_append.mpr ⟨h.srt,List.pairwise_append.mpr ⟨J1L sa _,J1L sb _,fun x hx y hy=>?_⟩,fun x hx y hy=>?_⟩⟩
 ·rcases e with e | e
  ·rw [e,List.drop_length] at hx; exact absurd hx List.not_mem_nil
  ·rw [e,List.drop_length] at hy; exact absurd hy List.not_mem_nil
 ·rcases List.mem_append.mp hy with hy | hy
  ·exact h.la x hx y hy
  ·exact h.lb x hx y hy
theorem ML.lastA (h : ML κ al bl out ia ib) (sa : al.Pairwise (leKy κ)) (sb : bl.Pairwise (leKy κ)) {z : Keyed} (e : al.drop ia = [z]) (hz : ∀ y ∈ bl,leKy κ y z) : Gd κ al bl (out ++ bl.drop ib ++ al.drop ia):=by
 rw [List.append_assoc]
 refine ⟨(List.Perm.append_left _ List.perm_append_comm).trans h.perm,List.pairwise_append.mpr ⟨h.srt,List.pairwise_append.mpr ⟨J1L sb _,J1L sa _,fun x hx y hy=>?_⟩,fun x hx y hy=>?_⟩⟩
 ·rw [e] at hy
  rw [List.mem_singleton.mp hy]
  exact hz x (List.mem_of_mem_drop hx)
 ·rcases List.mem_append.mp hy with hy | hy
  ·exact h.lb x hx y hy
  ·exact h.la x hx y hy
end
section
variable {prog : Program} {w : World} {A : Around} {E : Value → Shared → Prop} {s : Shared} {κ : PyProof.Rows.KeyKind}
theorem Jw {arr : Array Keyed} {i : Nat} {x : Keyed} {st : SortSt} {Q : Keyed → SortSt → Prop} (h : arr[i]? = some x) (q : Q x st) : wpS (model prog w) A E s (elem' arr i) Q st:=by
 rw [elem'_eq,h]
 exact wpS_pure q
theorem J2U {x y : Keyed} {st : SortSt} {Q : Option Bool → SortSt → Prop} (hO : κ.OneLt) (hk : kindOf st = oneType') (hx : Kd κ x) (hy : Kd κ y) (q : Q (some (ltB κ x y)) st) : wpS (model prog w) A E s (lt' x y) Q st:=by
 rw [lt'_eq]
 refine wpS_bind (wpS_get ?_)
 rw [hk,keyLt'_oneType]
 obtain ⟨a,ha⟩:=hx
 obtain ⟨b,hb⟩:=hy
 have e : ltB κ x y = κ.blt a b:=by unfold ltB kOf; rw [ha,hb]; rfl
 rw [e] at q
 refine wpS_bind (wpS_lift (wpAny_attempt (hO prog w A _ s x.1 y.1 a b ha hb ⟨rfl,?_⟩)))
 exact wpS_pure q
theorem Jav {left : Bool} {key x : Keyed} {arr : Array Keyed} {base i : Nat} {st : SortSt} {Q : Option Bool → SortSt → Prop} (hO : κ.OneLt) (hk : kindOf st = oneType') (hx : arr[base + i]? = some x) (kx : Kd κ x) (kk : Kd κ key)
  (q : Q (some (if left then ltB κ x key else !ltB κ key x)) st) : wpS (model prog w) A E s (bey left key arr base i) Q st:=by
 unfold bey
 refine wpS_bind (Jw hx ?_)
 cases left
 ·exact wpS_bind (J2U hO hk kk kx (wpS_pure q))
 ·exact J2U hO hk kx kk q
theorem J1a {left : Bool} {key : Keyed} {arr : Array Keyed} {base n hint : Nat} {st : SortSt} {Q : Option Nat → SortSt → Prop} (hO : κ.OneLt) (hk : kindOf st = oneType') (kk : Kd κ key)
  (hn : base + n ≤ arr.size) (ka : ∀ x ∈ arr.toList,Kd κ x) (hs : ∀ i j x y,i ≤ j → j < n → arr[base + i]? = some x → arr[base + j]? = some y → leKy κ x y) (hh : hint < n)
  (h : ∀ k,k ≤ n → (∀ i x,i < k → arr[base + i]? = some x → if left then ltB κ x key = true else leKy κ x key) → (∀ i x,k ≤ i → i < n → arr[base + i]? = some x → if left then leKy κ key x else ltB κ key x = true) → Q (some k) st) :
  wpS (model prog w) A E s (J11 left key arr base n hint) Q st:=by
 have at_ : ∀ i,i < n → ∃ x,arr[base + i]? = some x:=fun i hi=>⟨_,Array.getElem?_eq_getElem (by omega)⟩
 have kd : ∀ i x,arr[base + i]? = some x → Kd κ x:=fun i x e=>ka x (by obtain ⟨h1,h2⟩:=Array.getElem?_eq_some_iff.mp e; rw [← h2]; simp)
 refine J6W (B:=fun i=>match arr[base + i]? with | some x=>if left then ltB κ x key else !ltB κ key x | none=>false) (fun i hi R r=>?_) (fun i j hij hj hB=>?_) hh fun k hkn h1 h2=>h k hkn (fun i x hi e=>?_) (fun i x hi hi2 e=>?_)
 ·obtain ⟨x,e⟩:=at_ i hi
  refine Jav hO hk e (kd i x e) kk ?_
  simp only [e] at r
  exact r
 ·obtain ⟨x,e⟩:=at_ i (by omega)
  obtain ⟨y,e2⟩:=at_ j hj
  have l:=hs i j x y hij hj e e2
  simp only [e] at hB ⊢
  simp only [e2] at hB
  cases left
  ·simp only [Bool.false_eq_true,if_false,Bool.not_eq_true'] at hB ⊢
   cases z : ltB κ key x
   ·rfl
   ·rw [ltB.le z l] at hB; cases hB
  ·simp only [if_true] at hB ⊢
   exact l.lt hB
 ·have:=h1 i hi
  simp only [e] at this
  cases left
  ·simpa [leKy,ltB,KeyOrd.kle] using this
  ·simpa using this
 ·have:=h2 i hi hi2
  simp only [e] at this
  cases left
  ·simpa using this
  ·simpa [leKy,ltB,KeyOrd.kle] using this
end
section
variable {prog : Program} {w : World} {A : Around} {E : Value → Shared → Prop} {s : Shared} {κ : PyProof.Rows.KeyKind}
theorem Jh {a : Array Keyed} {i : Nat} {x : Keyed} (h : a[i]? = some x) : a.toList[i]? = some x:=by simpa using h
theorem J0g {a : Array Keyed} {i : Nat} {x : Keyed} (h : a[i]? = some x) : x ∈ a.toList:=List.mem_of_getElem? (Jh h)
theorem Ju {a : Array Keyed} {i : Nat} (h : i < a.size) : ∃ x,a[i]? = some x:=⟨_,Array.getElem?_eq_getElem h⟩
theorem J1j (a : Array Keyed) (i j : Nat) : (a.extract i j).toList = (a.toList.drop i).take (j - i):=by rw [Array.toList_extract]
theorem J3w (a : Array Keyed) (i : Nat) : (a.extract i a.size).toList = a.toList.drop i:=by
 rw [J1j,List.take_of_length_le]
 rw [List.length_drop,Array.length_toList]
 exact Nat.le_refl _
theorem J29 {l : List Keyed} (s : l.Pairwise (leKy κ)) {i j : Nat} {x y : Keyed} (hij : i ≤ j) (hx : l[i]? = some x) (hy : l[j]? = some y) : leKy κ x y:=by
 obtain ⟨h1,rfl⟩:=List.getElem?_eq_some_iff.mp hx
 obtain ⟨h2,rfl⟩:=List.getElem?_eq_some_iff.mp hy
 by_cases e : i = j
 ·subst e; exact leKy.refl _
 ·exact List.pairwise_iff_getElem.mp s i j h1 h2 (by omega)
theorem J1Z {l : List Keyed} (s : l.Pairwise (leKy κ)) {i : Nat} {x : Keyed} (hx : l[i]? = some x) : ∀ y ∈ l.drop i,leKy κ x y:=by
 intro y hy
 obtain ⟨j,hj⟩:=List.getElem?_of_mem hy
 rw [List.getElem?_drop] at hj
 exact J29 s (by omega) hx hj
noncomputable abbrev LoSt:=Option (Array Keyed) × Array Keyed × Nat × Nat × Nat × Nat × Nat
noncomputable def loT2 (a b out : Array Keyed) (ia ib mg ac bc : Nat) : SM (ForInStep LoSt):=do
 let x ← elem' a ia
 if (ia + 1 + 1 == a.size) = true then pure (ForInStep.done (some (out.push x ++ b.extract ib b.size ++ a.extract (ia + 1) a.size),out.push x,ia + 1,ib,mg,ac,bc))
 else if (decide (ac < 7) && decide (bc < 7)) = true then pure (ForInStep.done (none,out.push x,ia + 1,ib,mg,ac,bc))
 else pure (ForInStep.yield (none,out.push x,ia + 1,ib,mg,ac,bc))
noncomputable def loT1 (a b out : Array Keyed) (ia ib mg ac bc : Nat) : SM (ForInStep LoSt):=do
 let x ← elem' b ib
 if (ib + 1 == b.size) = true then pure (ForInStep.done (some (out.push x ++ a.extract ia a.size ++ b.extract (ib + 1) b.size),out.push x,ia,ib + 1,mg,ac,bc))
 else do
  let y ← elem' a ia
  let k? ← J11 true y b (ib + 1) (b.size - (ib + 1)) 0
  match k? with
  | some k =>
   if k > 0 then
    if (ib + 1 + k == b.size) = true then pure (ForInStep.done (some (out.push x ++ b.extract (ib + 1) (ib + 1 + k) ++ a.extract ia a.size ++ b.extract (ib + 1 + k) b.size),out.push x ++ b.extract (ib + 1) (ib + 1 + k),ia,ib + 1 + k,mg,ac,k))
    else loT2 a b (out.push x ++ b.extract (ib + 1) (ib + 1 + k)) ia (ib + 1 + k) mg ac k
   else loT2 a b (out.push x) ia (ib + 1) mg ac k
  | _=>pure (ForInStep.done (some (out.push x ++ a.extract ia a.size ++ b.extract (ib + 1) b.size),out.push x,ia,ib + 1,mg,ac,bc))
structure LoH (κ : PyProof.Rows.KeyKind) (a b : Array Keyed) : Prop where
 ka : ∀ x ∈ a.toList,Kd κ x
 kb : ∀ x ∈ b.toList,Kd κ x
 sa : a.toList.Pairwise (leKy κ)
 sb : b.toList.Pairwise (leKy κ)
 hl : ∀ z,a[a.size - 1]? = some z → ∀ y ∈ b.toList,ltB κ y z = true
theorem LoH.fin {a b out : Array Keyed} {ia ib : Nat} (h : LoH κ a b) (M : ML κ a.toList b.toList out.toList ia ib) (e : ia = a.size ∨ ib = b.size) : Gd κ a.toList b.toList (out ++ a.extract ia a.size ++ b.extract ib b.size).toList:=by
 rw [Array.toList_append,Array.toList_append,J3w,J3w]
 exact M.done h.sa h.sb (by rw [Array.length_toList,Array.length_toList]; exact e)
theorem LoH.lst {a b out : Array Keyed} {ia ib : Nat} (h : LoH κ a b) (M : ML κ a.toList b.toList out.toList ia ib) (e : ia + 1 = a.size) : Gd κ a.toList b.toList (out ++ b.extract ib b.size ++ a.extract ia a.size).toList:=by
 rw [Array.toList_append,Array.toList_append,J3w,J3w]
 obtain ⟨z,ez⟩:=Ju (a:=a) (i:=a.size - 1) (by omega)
 have ez' : a.toList[ia]? = some z:=by rw [show ia = a.size - 1 by omega]; exact Jh ez
 refine M.lastA h.sa h.sb (z:=z) ?_ fun y hy=>leKy.of_lt (h.hl z ez y hy)
 rw [J5W ez',List.drop_of_length_le (by rw [Array.length_toList]; omega)]
theorem J6H {a b out : Array Keyed} {ia ib mg ac bc : Nat} {st : SortSt} {R : ForInStep LoSt → SortSt → Prop} (H : LoH κ a b) (M : ML κ a.toList b.toList out.toList ia ib) (i1 : ia + 1 < a.size) (i2 : ib < b.size) {x : Keyed} (ex : a[ia]? = some x) (hx : ∀ y ∈ b.toList.drop ib,leKy κ x y)
  (r1 : ∀ r o,Gd κ a.toList b.toList r.toList → R (.done (some r,o)) st) (r2 : ∀ out' mg ac bc,ML κ a.toList b.toList out'.toList (ia + 1) ib → ia + 1 + 1 < a.size → R (.done (none,out',ia + 1,ib,mg,ac,bc)) st ∧ R (.yield (none,out',ia + 1,ib,mg,ac,bc)) st) :
  wpS (model prog w) A E s (loT2 a b out ia ib mg ac bc) R st:=by
 unfold loT2
 refine wpS_bind (Jw ex ?_)
 have M' : ML κ a.toList b.toList (out.push x).toList (ia + 1) ib:=by
  rw [Array.toList_push]
  exact M.pushA H.sa (Jh ex) hx
 by_cases c1 : ia + 1 + 1 = a.size
 ·rw [if_pos (by simpa using c1)]
  exact wpS_pure (r1 _ _ (H.lst M' c1))
 ·rw [if_neg (by simpa using c1)]
  have z:=r2 (out.push x) mg ac bc M' (by omega)
  split
  ·exact wpS_pure z.1
  ·exact wpS_pure z.2
theorem J6Q {a b out : Array Keyed} {ia ib mg ac bc : Nat} {st : SortSt} {R : ForInStep LoSt → SortSt → Prop} (hO : κ.OneLt) (hk : kindOf st = oneType') (H : LoH κ a b) (M : ML κ a.toList b.toList out.toList ia ib) (i1 : ia + 1 < a.size) (i2 : ib < b.size) {x y : Keyed} (ex : b[ib]? = some x) (ey : a[ia]? = some y) (hxy : ltB κ x y = true)
  (r1 : ∀ r o,Gd κ a.toList b.toList r.toList → R (.done (some r,o)) st) (r2 : ∀ out' jb mg ac bc,ML κ a.toList b.toList out'.toList (ia + 1) jb → ia + 1 + 1 < a.size → ib < jb → jb < b.size → R (.done (none,out',ia + 1,jb,mg,ac,bc)) st ∧ R (.yield (none,out',ia + 1,jb,mg,ac,bc)) st) :
  wpS (model prog w) A E s (loT1 a b out ia ib mg ac bc) R st:=by
 unfold loT1
 refine wpS_bind (Jw ex ?_)
 have M' : ML κ a.toList b.toList (out.push x).toList ia (ib + 1):=by
  rw [Array.toList_push]
  exact M.pushB H.sb (Jh ex) fun z hz=>(leKy.of_lt hxy).trans (J1Z H.sa (Jh ey) z hz)
 by_cases c1 : ib + 1 = b.size
 ·rw [if_pos (by simpa using c1)]
  exact wpS_pure (r1 _ _ (H.fin M' (.inr c1)))
 rw [if_neg (by simpa using c1)]
 refine wpS_bind (Jw ey ?_)
 refine wpS_bind (J1a hO hk (H.ka _ (J0g ey)) (by omega) H.kb (fun i j u v hij _ hu hv=>J29 H.sb (by omega) (Jh hu) (Jh hv)) (by omega) fun k hk1 g1 g2=>?_)
 dsimp only
 have lb : b.toList.length = b.size:=Array.length_toList
 have ME : ML κ a.toList b.toList (out.push x ++ b.extract (ib + 1) (ib + 1 + k)).toList ia (ib + 1 + k):=by
  rw [Array.toList_append,J1j,show ib + 1 + k - (ib + 1) = k by omega]
  refine M'.extB H.sb k (by omega) fun i u hi hu z hz=>?_
  have:=g1 i u hi (by simpa using hu)
  simp only [if_true] at this
  exact (leKy.of_lt this).trans (J1Z H.sa (Jh ey) z hz)
 have hy : ib + 1 + k < b.size → ∀ z ∈ b.toList.drop (ib + 1 + k),leKy κ y z:=fun hlt z hz=>by
  obtain ⟨v,ev⟩:=Ju (a:=b) (i:=ib + 1 + k) hlt
  have:=g2 k v (Nat.le_refl _) (by omega) ev
  simp only [if_true] at this
  exact this.trans (J1Z H.sb (Jh ev) z hz)
 by_cases c2 : k > 0
 ·rw [if_pos c2]
  by_cases c3 : ib + 1 + k = b.size
  ·rw [if_pos (by simpa using c3)]
   exact wpS_pure (r1 _ _ (H.fin ME (.inr c3)))
  ·rw [if_neg (by simpa using c3)]
   exact J6H H ME i1 (by omega) ey (hy (by omega)) r1 fun out' mg ac bc m1 m2=>r2 out' _ mg ac bc m1 m2 (by omega) (by omega)
 ·rw [if_neg c2]
  have k0 : k = 0:=by omega
  subst k0
  exact J6H H M' i1 (by omega) ey (hy (by omega)) r1 fun out' mg ac bc m1 m2=>r2 out' _ mg ac bc m1 m2 (by omega) (by omega)
theorem J6Z {a b : Array Keyed} {st : SortSt} {Q : Array Keyed → SortSt → Prop} (hO : κ.OneLt) (hk : kindOf st = oneType') (ka : ∀ x ∈ a.toList,Kd κ x) (kb : ∀ x ∈ b.toList,Kd κ x)
  (sa : a.toList.Pairwise (leKy κ)) (sb : b.toList.Pairwise (leKy κ)) (ha : 1 ≤ a.size) (hb : 1 ≤ b.size)
  (h0 : ∀ x y,b[0]? = some x → a[0]? = some y → leKy κ x y) (hl : ∀ z,a[a.size - 1]? = some z → ∀ y ∈ b.toList,ltB κ y z = true)
  (q : ∀ r st',J0e st st' → Gd κ a.toList b.toList r.toList → Q r st') : wpS (model prog w) A E s (J4c a b) Q st:=by
 rw [J6K]
 refine wpS_bind (wpS_lift (wpAny_rule ⟨rfl,?_⟩))
 obtain ⟨b0,eb0⟩:=Ju (a:=b) (i:=0) (by omega)
 obtain ⟨a0,ea0⟩:=Ju (a:=a) (i:=0) (by omega)
 obtain ⟨z,ez⟩:=Ju (a:=a) (i:=a.size - 1) (by omega)
 have hz:=hl z ez
 refine wpS_bind (Jw eb0 ?_)
 have la : a.toList.length = a.size:=Array.length_toList
 have lb : b.toList.length = b.size:=Array.length_toList
 have M0 : ML κ a.toList b.toList [b0] 0 1:=by
  have M : ML κ a.toList b.toList [] 0 0:=⟨Nat.zero_le _,Nat.zero_le _,List.Perm.refl _,.nil,fun x hx=>absurd hx List.not_mem_nil,fun x hx=>absurd hx List.not_mem_nil⟩
  exact M.pushB sb (Jh eb0) fun y hy=>(h0 b0 a0 eb0 ea0).trans (J1Z sa (Jh ea0) y hy)
 have HH : LoH κ a b:=⟨ka,kb,sa,sb,hl⟩
 have fin : ∀ {out : Array Keyed} {ia ib : Nat},ML κ a.toList b.toList out.toList ia ib → (ia = a.size ∨ ib = b.size) → Gd κ a.toList b.toList (out ++ a.extract ia a.size ++ b.extract ib b.size).toList:=fun M e=>HH.fin M e
 have lst : ∀ {out : Array Keyed} {ia ib : Nat},ML κ a.toList b.toList out.toList ia ib → ia + 1 = a.size → Gd κ a.toList b.toList (out ++ b.extract ib b.size ++ a.extract ia a.size).toList:=fun M e=>HH.lst M e
 by_cases e1 : b.size = 1
 ·rw [if_pos (by simp [e1])]
  exact wpS_pure (q _ st (J0e.refl _) (fin M0 (.inr e1.symm)))
 rw [if_neg (by simpa using fun z=>e1 z.symm)]
 by_cases e2 : a.size = 1
 ·rw [if_pos (by simp [e2])]
  exact wpS_pure (q _ st (J0e.refl _) (lst M0 e2.symm))
 rw [if_neg (by simpa using fun z=>e2 z.symm)]
 refine wpS_bind (wpS_get ?_)
 refine wpS_bind (wpS_mono (wpS_forRange
  (I:=fun x c st'=>J0e st st' ∧ ∃ out ia ib mg,c = (none,out,ia,ib,mg) ∧ ML κ a.toList b.toList out.toList ia ib ∧ ia + 1 < a.size ∧ ib < b.size ∧ x ≤ ia + ib)
  (Q:=fun c st'=>J0e st st' ∧ ∃ r o,c = (some r,o) ∧ Gd κ a.toList b.toList r.toList) ?step ?fin ⟨J0e.refl _,_,0,1,_,rfl,M0,by omega,by omega,by omega⟩) ?post)
 case post =>
  rintro c st' ⟨sg,r,o,rfl,g⟩
  exact wpS_pure (q r st' sg g)
 case fin =>
  rintro c st' ⟨_,out,ia,ib,mg,rfl,_,h1,h2,h3⟩
  omega
 case step =>
  rintro x c st1 _ hx ⟨sg,out,ia,ib,mg,rfl,M,i1,i2,i3⟩
  dsimp only
  refine wpS_bind (wpS_mono (wpS_forRange
   (I:=fun y c st'=>st' = st1 ∧ ∃ out ja jb ac bc,c = (none,out,ja,jb,ac,bc) ∧ ML κ a.toList b.toList out.toList ja jb ∧ ja + 1 < a.size ∧ jb < b.size ∧ x + y ≤ ja + jb)
   (Q:=fun c st'=>st' = st1 ∧ ((∃ r o,c = (some r,o) ∧ Gd κ a.toList b.toList r.toList) ∨ ∃ out ja jb ac bc,c = (none,out,ja,jb,ac,bc) ∧ ML κ a.toList b.toList out.toList ja jb ∧ ja + 1 < a.size ∧ jb < b.size ∧ x + 1 ≤ ja + jb)) ?step1 ?fin1 ⟨rfl,_,ia,ib,0,0,rfl,M,i1,i2,i3⟩) ?post1)
  case fin1 =>
   rintro c st' ⟨_,out,ja,jb,ac,bc,rfl,_,h1,h2,h3⟩
   omega
  case step1 =>
   rintro y c st' _ hy ⟨rfl,out,ja,jb,ac,bc,rfl,M,j1,j2,j3⟩
   dsimp only
   obtain ⟨xb,eb⟩:=Ju (a:=b) (i:=jb) j2
   obtain ⟨xa,ea⟩:=Ju (a:=a) (i:=ja) (by omega)
   refine wpS_bind (Jw eb (wpS_bind (Jw ea (wpS_bind (J2U hO (sg.k.trans hk) (kb _ (J0g eb)) (ka _ (J0g ea)) ?_)))))
   dsimp only
   cases hw : ltB κ xb xa
   ·rw [if_neg Bool.false_ne_true]
    refine wpS_bind (Jw ea ?_)
    have M' : ML κ a.toList b.toList (out.push xa).toList (ja + 1) jb:=by
     rw [Array.toList_push]
     exact M.pushA sa (Jh ea) fun y hy=>(leKy.of_not hw).trans (J1Z sb (Jh eb) y hy)
    by_cases c1 : ja + 1 + 1 = a.size
    ·rw [if_pos (by simpa using c1)]
     exact wpS_pure ⟨rfl,.inl ⟨_,_,rfl,lst M' c1⟩⟩
    ·rw [if_neg (by simpa using c1)]
     split
     ·exact wpS_pure ⟨rfl,.inr ⟨_,_,_,_,_,rfl,M',by omega,j2,by omega⟩⟩
     ·exact wpS_pure ⟨rfl,_,_,_,_,_,rfl,M',by omega,j2,by omega⟩
   ·rw [if_pos rfl]
    refine wpS_bind (Jw eb ?_)
    have M' : ML κ a.toList b.toList (out.push xb).toList ja (jb + 1):=by
     rw [Array.toList_push]
     exact M.pushB sb (Jh eb) fun y hy=>(leKy.of_lt hw).trans (J1Z sa (Jh ea) y hy)
    by_cases c1 : jb + 1 = b.size
    ·rw [if_pos (by simpa using c1)]
     exact wpS_pure ⟨rfl,.inl ⟨_,_,rfl,fin M' (.inr c1)⟩⟩
    ·rw [if_neg (by simpa using c1)]
     split
     ·exact wpS_pure ⟨rfl,.inr ⟨_,_,_,_,_,rfl,M',j1,by omega,by omega⟩⟩
     ·exact wpS_pure ⟨rfl,_,_,_,_,_,rfl,M',j1,by omega,by omega⟩
  case post1 =>
   rintro c st' ⟨rfl,⟨r,o,rfl,g⟩ | ⟨out,ja,jb,ac,bc,rfl,M,j1,j2,j3⟩⟩
   ·exact wpS_pure ⟨sg,r,_,rfl,g⟩
   dsimp only
   refine wpS_bind (wpS_lift (wpAny_rule ⟨rfl,?_⟩))
   refine wpS_bind (wpS_mono (wpS_forRange
    (I:=fun y c st'=>J0e st st' ∧ ∃ out ja jb mg ac bc,c = (none,out,ja,jb,mg,ac,bc) ∧ ML κ a.toList b.toList out.toList ja jb ∧ ja + 1 < a.size ∧ jb < b.size ∧ x + 1 + y ≤ ja + jb)
    (Q:=fun c st'=>J0e st st' ∧ ((∃ r o,c = (some r,o) ∧ Gd κ a.toList b.toList r.toList) ∨ ∃ out ja jb mg ac bc,c = (none,out,ja,jb,mg,ac,bc) ∧ ML κ a.toList b.toList out.toList ja jb ∧ ja + 1 < a.size ∧ jb < b.size ∧ x + 1 ≤ ja + jb)) ?step2 ?fin2 ⟨sg,_,_,_,_,_,_,rfl,M,j1,j2,j3⟩) ?post2)
   case fin2 =>
    rintro c st' ⟨_,out,ja,jb,mg,ac,bc,rfl,_,h1,h2,h3⟩
    omega
   case post2 =>
    rintro c st' ⟨sg',⟨r,o,rfl,g⟩ | ⟨out,ja,jb,mg,ac,bc,rfl,M,j1,j2,j3⟩⟩
    ·exact wpS_pure ⟨sg',r,_,rfl,g⟩
    dsimp only
    rw [J0C]
    exact wpS_bind (wpS_modify (wpS_pure ⟨sg'.set _,_,_,_,_,rfl,M,j1,j2,j3⟩))
   case step2 =>
    clear M j1 j2 j3
    rintro y c st' _ hy ⟨sg',out,ja,jb,mg,ac,bc,rfl,M,j1,j2,j3⟩
    dsimp only
    obtain ⟨xb,eb⟩:=Ju (a:=b) (i:=jb) j2
    by_cases hm : mg > 1
    case' pos=>rw [if_pos hm]; generalize mg - 1 = mg2
    case' neg=>rw [if_neg hm]; clear hm; generalize mg = mg2
    all_goals
     rw [J0C]
     refine wpS_bind (wpS_modify ?_)
     have sg2:=sg'.set mg2
     generalize SortSt.mk' (kindOf st') (arrOf st') (pendingOf st') mg2 (failedOf st') = st2 at sg2 ⊢
     have hk2 : kindOf st2 = oneType':=sg2.k.trans hk
     refine wpS_bind (Jw eb ?_)
     refine wpS_bind (J1a hO hk2 (kb _ (J0g eb)) (by omega) ka (fun i j u v hij _ hu hv=>J29 sa (by omega) (Jh hu) (Jh hv)) (by omega) fun k hk1 g1 g2=>?_)
     dsimp only
     have kl : ja + k + 1 ≤ a.size:=by
      by_cases c : ja + k < a.size
      ·omega
      ·exfalso
       have:=g1 (a.size - 1 - ja) z (by omega) (by rw [show ja + (a.size - 1 - ja) = a.size - 1 by omega]; exact ez)
       simp only [Bool.false_eq_true,if_false] at this
       have h2:=hz xb (J0g eb)
       have h3:=this.lt h2
       have h4:=leKy.refl (κ:=κ) z
       unfold leKy KeyOrd.kle at h4
       unfold ltB at h3
       rw [h3] at h4
       cases h4
     have ME : ML κ a.toList b.toList (out ++ a.extract ja (ja + k)).toList (ja + k) jb:=by
      rw [Array.toList_append,J1j,show ja + k - ja = k by omega]
      refine M.extA sa k (by omega) fun i u hi hu y hy=>?_
      have:=g1 i u hi (by simpa using hu)
      simp only [Bool.false_eq_true,if_false] at this
      exact this.trans (J1Z sb (Jh eb) y hy)
     have lt1 : ∀ v,a[ja + k]? = some v → ltB κ xb v = true:=fun v ev=>by
      have:=g2 k v (Nat.le_refl _) (by omega) ev
      simpa using this
     obtain ⟨v,ev⟩:=Ju (a:=a) (i:=ja + k) (by omega)
     have r1 : ∀ (r : Array Keyed) (o : Array Keyed × Nat × Nat × Nat × Nat × Nat),Gd κ a.toList b.toList r.toList → J0e st st2 ∧ ((∃ r' o',((some r,o) : LoSt) = (some r',o') ∧ Gd κ a.toList b.toList r'.toList) ∨ ∃ out ja jb mg ac bc,((some r,o) : LoSt) = (none,out,ja,jb,mg,ac,bc) ∧ ML κ a.toList b.toList out.toList ja jb ∧ ja + 1 < a.size ∧ jb < b.size ∧ x + 1 ≤ ja + jb):=fun r o g=>⟨sg2,.inl ⟨r,o,rfl,g⟩⟩
     by_cases c2 : k > 0
     ·rw [if_pos c2]
      by_cases c3 : ja + k + 1 = a.size
      ·rw [if_pos (by simpa using c3)]
       exact wpS_pure (r1 _ _ (HH.lst ME c3))
      ·rw [if_neg (by simpa using c3),if_neg (by simp; omega)]
       show wpS _ _ _ _ (loT1 a b (out ++ a.extract ja (ja + k)) (ja + k) jb mg2 k bc) _ _
       exact J6Q hO hk2 HH ME (by omega) j2 eb ev (lt1 v ev) r1 fun out' jb' mg ac bc m1 m2 m3 m4=>⟨⟨sg2,.inr ⟨_,_,_,_,_,_,rfl,m1,m2,m4,by omega⟩⟩,⟨sg2,_,_,_,_,_,_,rfl,m1,m2,m4,by omega⟩⟩
     ·rw [if_neg c2]
      have k0 : k = 0:=by omega
      subst k0
      show wpS _ _ _ _ (loT1 a b out ja jb mg2 0 bc) _ _
      exact J6Q hO hk2 HH M j1 j2 eb ev (lt1 v ev) r1 fun out' jb' mg ac bc m1 m2 m3 m4=>⟨⟨sg2,.inr ⟨_,_,_,_,_,_,rfl,m1,m2,m4,by omega⟩⟩,⟨sg2,_,_,_,_,_,_,rfl,m1,m2,m4,by omega⟩⟩
end
theorem J73 (a b : Array Keyed) : J4e a b = (do
 rule "list.sort.merge-hi"
 let tot:=a.size + b.size
 let fin (o : Array Keyed) (i j : Nat):=a.extract 0 i ++ b.extract 0 j ++ o.reverse
 let fin2 (o : Array Keyed) (i j : Nat):=b.extract 0 j ++ a.extract 0 i ++ o.reverse
 let mut i:=a.size - 1
 let mut j:=b.size
 let mut o : Array Keyed:=#[← elem' a i]
 if i == 0 then return fin o i j
 if j == 1 then return fin2 o i j
 let mut g:=gallopOf (← get)
 for _ in [0:tot] do
  let mut ac:=0
  let mut bc:=0
  for _ in [0:tot] do
   let some win ← lt' (← elem' b (j - 1)) (← elem' a (i - 1)) | return fin o i j
   if win then
    i:=i - 1; o:=o.push (← elem' a i); ac:=ac + 1; bc:=0
    if i == 0 then return fin o i j
    if ac ≥ g then break
   else
    j:=j - 1; o:=o.push (← elem' b j); bc:=bc + 1; ac:=0
    if j == 1 then return fin2 o i j
    if bc ≥ g then break
  rule "list.sort.gallop"
  g:=g + 1
  for _ in [0:tot] do
   if g > 1 then g:=g - 1
   J0G g
   let some t ← J11 false (← elem' b (j - 1)) a 0 i (i - 1) | return fin o i j
   let k:=i - t
   ac:=k
   if k > 0 then
    o:=o ++ (a.extract t i).reverse; i:=t
    if i == 0 then return fin o i j
   j:=j - 1; o:=o.push (← elem' b j)
   if j == 1 then return fin2 o i j
   let some t ← J11 true (← elem' a (i - 1)) b 0 j (j - 1) | return fin o i j
   let k:=j - t
   bc:=k
   if k > 0 then
    o:=o ++ (b.extract t j).reverse; j:=t
    if j == 1 then return fin2 o i j
    if j == 0 then return fin o i j
   i:=i - 1; o:=o.push (← elem' a i)
   if i == 0 then return fin o i j
   if ac < 7 && bc < 7 then break
  g:=g + 1
  J0G g
 unsupported "internal:list.sort.merge-bound"):=rfl
section
variable {κ : PyProof.Rows.KeyKind}
structure MH (κ : PyProof.Rows.KeyKind) (al bl out : List Keyed) (na nb : Nat) : Prop where
 pa : na ≤ al.length
 pb : nb ≤ bl.length
 perm : ((al.take na ++ bl.take nb) ++ out.reverse).Perm (al ++ bl)
 srt : out.reverse.Pairwise (leKy κ)
 la : ∀ x ∈ out,∀ y ∈ al.take na,leKy κ y x
 lb : ∀ x ∈ out,∀ y ∈ bl.take nb,leKy κ y x
theorem J83 {l : List Keyed} {i : Nat} {x : Keyed} (h : l[i]? = some x) : l.take (i + 1) = l.take i ++ [x]:=by
 rw [List.take_add_one,h]
 rfl
theorem J2O {l : List Keyed} (s : l.Pairwise (leKy κ)) (i : Nat) : (l.take i).Pairwise (leKy κ):=s.sublist (List.take_sublist _ _)
theorem J1X {l : List Keyed} (s : l.Pairwise (leKy κ)) {i : Nat} {x : Keyed} (hx : l[i]? = some x) : ∀ y ∈ l.take (i + 1),leKy κ y x:=by
 intro y hy
 obtain ⟨j,hj⟩:=List.getElem?_of_mem hy
 rw [List.getElem?_take] at hj
 split at hj
 ·exact J29 s (by omega) hj hx
 ·cases hj
variable {al bl out : List Keyed} {na nb : Nat}
theorem MH.pushA (h : MH κ al bl out (na + 1) nb) (sa : al.Pairwise (leKy κ)) {x : Keyed} (hx : al[na]? = some x) (hle : ∀ y ∈ bl.take nb,leKy κ y x) : MH κ al bl (out ++ [x]) na nb:=by
 have hd:=J83 hx
 have hl:=(List.getElem?_eq_some_iff.mp hx).1
 refine ⟨by omega,h.pb,?_,?_,?_,?_⟩
 ·have:=h.perm
  rw [hd] at this
  rw [List.reverse_append]
  refine List.Perm.trans ?_ this
  show (al.take na ++ bl.take nb ++ (x :: out.reverse)).Perm (al.take na ++ [x] ++ bl.take nb ++ out.reverse)
  rw [List.append_assoc,List.append_assoc,List.append_assoc]
  exact List.Perm.append_left _ List.perm_middle
 ·rw [List.reverse_append]
  refine List.pairwise_cons.mpr ⟨fun y hy=>?_,h.srt⟩
  exact h.la y (List.mem_reverse.mp hy) x (by rw [hd]; simp)
 ·intro y hy z hz
  rcases List.mem_append.mp hy with hy | hy
  ·exact h.la y hy z (by rw [hd]; exact List.mem_append_left _ hz)
  ·rw [List.mem_singleton.mp hy]
   exact J1X sa hx z (by rw [hd]; exact List.mem_append_left _ hz)
 ·intro y hy z hz
  rcases List.mem_append.mp hy with hy | hy
  ·exact h.lb y hy z hz
  ·rw [List.mem_singleton.mp hy]
   exact hle z hz
theorem MH.pushB (h : MH κ al bl out na (nb + 1)) (sb : bl.Pairwise (leKy κ)) {x : Keyed} (hx : bl[nb]? = some x) (hle : ∀ y ∈ al.take na,leKy κ y x) : MH κ al bl (out ++ [x]) na nb:=by
 have hd:=J83 hx
 have hl:=(List.getElem?_eq_some_iff.mp hx).1
 refine ⟨h.pa,by omega,?_,?_,?_,?_⟩
 ·have:=h.perm
  rw [hd] at this
  rw [List.reverse_append]
  show (al.take na ++ bl.take nb ++ ([x] ++ out.reverse)).Perm _
  rw [← List.append_assoc,List.append_assoc (al.take na)]
  exact this
 ·rw [List.reverse_append]
  refine List.pairwise_cons.mpr ⟨fun y hy=>?_,h.srt⟩
  exact h.lb y (List.mem_reverse.mp hy) x (by rw [hd]; simp)
 ·intro y hy z hz
  rcases List.mem_append.mp hy with hy | hy
  ·exact h.la y hy z hz
  ·rw [List.mem_singleton.mp hy]
   exact hle z hz
 ·intro y hy z hz
  rcases List.mem_append.mp hy with hy | hy
  ·exact h.lb y hy z (by rw [hd]; exact List.mem_append_left _ hz)
  ·rw [List.mem_singleton.mp hy]
   exact J1X sb hx z (by rw [hd]; exact List.mem_append_left _ hz)
theorem J6C {l : List Keyed} {m k : Nat} {x : Keyed} (h : l[m]? = some x) : (l.drop m).take (k + 1) = x :: (l.drop (m + 1)).take k:=by
 rw [J5W h,List.take_succ_cons]
theorem MH.extA (h : MH κ al bl out na nb) (sa : al.Pairwise (leKy κ)) : ∀ (k : Nat),k ≤ na → (∀ i x,na - k ≤ i → i < na → al[i]? = some x → ∀ y ∈ bl.take nb,leKy κ y x) → MH κ al bl (out ++ ((al.drop (na - k)).take k).reverse) (na - k) nb
 | 0,_,_=>by rw [List.take_zero,List.reverse_nil,List.append_nil]; exact h
 | k + 1,hk,hx=>by
  have hpa:=h.pa
  have ih:=MH.extA h sa k (by omega) fun i x h1 h2=>hx i x (by omega) h2
  have e : al[na - (k + 1)]? = some al[na - (k + 1)]:=List.getElem?_eq_getElem (by omega)
  rw [J6C e,List.reverse_cons,← List.append_assoc,show na - (k + 1) + 1 = na - k by omega]
  rw [show na - k = na - (k + 1) + 1 by omega] at ih ⊢
  exact ih.pushA sa e (hx _ _ (Nat.le_refl _) (by omega) e)
theorem MH.extB (h : MH κ al bl out na nb) (sb : bl.Pairwise (leKy κ)) : ∀ (k : Nat),k ≤ nb → (∀ i x,nb - k ≤ i → i < nb → bl[i]? = some x → ∀ y ∈ al.take na,leKy κ y x) → MH κ al bl (out ++ ((bl.drop (nb - k)).take k).reverse) na (nb - k)
 | 0,_,_=>by rw [List.take_zero,List.reverse_nil,List.append_nil]; exact h
 | k + 1,hk,hx=>by
  have hpa:=h.pb
  have ih:=MH.extB h sb k (by omega) fun i x h1 h2=>hx i x (by omega) h2
  have e : bl[nb - (k + 1)]? = some bl[nb - (k + 1)]:=List.getElem?_eq_getElem (by omega)
  rw [J6C e,List.reverse_cons,← List.append_assoc,show nb - (k + 1) + 1 = nb - k by omega]
  rw [show nb - k = nb - (k + 1) + 1 by omega] at ih ⊢
  exact ih.pushB sb e (hx _ _ (Nat.le_refl _) (by omega) e)
theorem MH.done (h : MH κ al bl out na nb) (sa : al.Pairwise (leKy κ)) (sb : bl.Pairwise (leKy κ)) (e : na = 0 ∨ nb = 0) : Gd κ al bl (al.take na ++ bl.take nb ++ out.reverse):=by
 refine ⟨h.perm,List.pairwise_append.mpr ⟨List.pairwise_append.mpr ⟨J2O sa _,J2O sb _,fun x hx y hy=>?_⟩,h.srt,fun x hx y hy=>?_⟩⟩
 ·rcases e with e | e
  ·rw [e] at hx; exact absurd hx List.not_mem_nil
  ·rw [e] at hy; exact absurd hy List.not_mem_nil
 ·rcases List.mem_append.mp hx with hx | hx
  ·exact h.la y (List.mem_reverse.mp hy) x hx
  ·exact h.lb y (List.mem_reverse.mp hy) x hx
theorem MH.firstB (h : MH κ al bl out na nb) (sa : al.Pairwise (leKy κ)) (sb : bl.Pairwise (leKy κ)) {z : Keyed} (e : bl.take nb = [z]) (hz : ∀ y ∈ al,leKy κ z y) : Gd κ al bl (bl.take nb ++ al.take na ++ out.reverse):=by
 refine ⟨(List.Perm.append_right _ List.perm_append_comm).trans h.perm,List.pairwise_append.mpr ⟨List.pairwise_append.mpr ⟨J2O sb _,J2O sa _,fun x hx y hy=>?_⟩,h.srt,fun x hx y hy=>?_⟩⟩
 ·rw [e] at hx
  rw [List.mem_singleton.mp hx]
  exact hz y (List.mem_of_mem_take hy)
 ·rcases List.mem_append.mp hx with hx | hx
  ·exact h.lb y (List.mem_reverse.mp hy) x hx
  ·exact h.la y (List.mem_reverse.mp hy) x hx
end
section
variable {prog : Program} {w : World} {A : Around} {E : Value → Shared → Prop} {s : Shared} {κ : PyProof.Rows.KeyKind}
theorem J5Z (a : Array Keyed) (n : Nat) : (a.extract 0 n).toList = a.toList.take n:=by rw [J1j,List.drop_zero,Nat.sub_zero]
structure HiH (κ : PyProof.Rows.KeyKind) (a b : Array Keyed) : Prop where
 ka : ∀ x ∈ a.toList,Kd κ x
 kb : ∀ x ∈ b.toList,Kd κ x
 sa : a.toList.Pairwise (leKy κ)
 sb : b.toList.Pairwise (leKy κ)
 hf : ∀ z,b[0]? = some z → ∀ y ∈ a.toList,ltB κ z y = true
theorem HiH.fin {a b out : Array Keyed} {na nb : Nat} (h : HiH κ a b) (M : MH κ a.toList b.toList out.toList na nb) (e : na = 0 ∨ nb = 0) : Gd κ a.toList b.toList (a.extract 0 na ++ b.extract 0 nb ++ out.reverse).toList:=by
 rw [Array.toList_append,Array.toList_append,J5Z,J5Z,Array.toList_reverse]
 exact M.done h.sa h.sb e
theorem HiH.fst {a b out : Array Keyed} {na nb : Nat} (h : HiH κ a b) (M : MH κ a.toList b.toList out.toList na nb) (hb : 1 ≤ b.size) (e : nb = 1) : Gd κ a.toList b.toList (b.extract 0 nb ++ a.extract 0 na ++ out.reverse).toList:=by
 rw [Array.toList_append,Array.toList_append,J5Z,J5Z,Array.toList_reverse]
 obtain ⟨z,ez⟩:=Ju (a:=b) (i:=0) (by omega)
 refine M.firstB h.sa h.sb (z:=z) ?_ fun y hy=>leKy.of_lt (h.hf z ez y hy)
 rw [e,J83 (Jh ez)]
 rfl
noncomputable abbrev HiSt:=Option (Array Keyed) × Nat × Nat × Array Keyed × Nat × Nat × Nat
noncomputable def hiT2 (a b out : Array Keyed) (na nb mg ac bc : Nat) : SM (ForInStep HiSt):=do
 let x ← elem' a (na - 1)
 if (na - 1 == 0) = true then pure (ForInStep.done (some (a.extract 0 (na - 1) ++ b.extract 0 nb ++ (out.push x).reverse),na - 1,nb,out.push x,mg,ac,bc))
 else if (decide (ac < 7) && decide (bc < 7)) = true then pure (ForInStep.done (none,na - 1,nb,out.push x,mg,ac,bc))
 else pure (ForInStep.yield (none,na - 1,nb,out.push x,mg,ac,bc))
noncomputable def hiT1 (a b out : Array Keyed) (na nb mg ac bc : Nat) : SM (ForInStep HiSt):=do
 let x ← elem' b (nb - 1)
 if (nb - 1 == 1) = true then pure (ForInStep.done (some (b.extract 0 (nb - 1) ++ a.extract 0 na ++ (out.push x).reverse),na,nb - 1,out.push x,mg,ac,bc))
 else do
  let y ← elem' a (na - 1)
  let k? ← J11 true y b 0 (nb - 1) (nb - 1 - 1)
  match k? with
  | some k =>
   if nb - 1 - k > 0 then
    if (k == 1) = true then pure (ForInStep.done (some (b.extract 0 k ++ a.extract 0 na ++ (out.push x ++ (b.extract k (nb - 1)).reverse).reverse),na,k,out.push x ++ (b.extract k (nb - 1)).reverse,mg,ac,nb - 1 - k))
    else if (k == 0) = true then pure (ForInStep.done (some (a.extract 0 na ++ b.extract 0 k ++ (out.push x ++ (b.extract k (nb - 1)).reverse).reverse),na,k,out.push x ++ (b.extract k (nb - 1)).reverse,mg,ac,nb - 1 - k))
    else hiT2 a b (out.push x ++ (b.extract k (nb - 1)).reverse) na k mg ac (nb - 1 - k)
   else hiT2 a b (out.push x) na (nb - 1) mg ac (nb - 1 - k)
  | _=>pure (ForInStep.done (some (a.extract 0 na ++ b.extract 0 (nb - 1) ++ (out.push x).reverse),na,nb - 1,out.push x,mg,ac,bc))
theorem J76 {a b out : Array Keyed} {na nb mg ac bc : Nat} {st : SortSt} {R : ForInStep HiSt → SortSt → Prop} (H : HiH κ a b) (M : MH κ a.toList b.toList out.toList (na + 1) nb) (i1 : na + 1 ≤ a.size) {x : Keyed} (ex : a[na]? = some x) (hx : ∀ y ∈ b.toList.take nb,leKy κ y x)
  (r1 : ∀ r o,Gd κ a.toList b.toList r.toList → R (.done (some r,o)) st) (r2 : ∀ out' mg ac bc,MH κ a.toList b.toList out'.toList na nb → 1 ≤ na → R (.done (none,na,nb,out',mg,ac,bc)) st ∧ R (.yield (none,na,nb,out',mg,ac,bc)) st) :
  wpS (model prog w) A E s (hiT2 a b out (na + 1) nb mg ac bc) R st:=by
 unfold hiT2
 simp only [Nat.add_sub_cancel]
 refine wpS_bind (Jw ex ?_)
 have M' : MH κ a.toList b.toList (out.push x).toList na nb:=by
  rw [Array.toList_push]
  exact M.pushA H.sa (Jh ex) hx
 by_cases c1 : na = 0
 ·rw [if_pos (by simpa using c1)]
  exact wpS_pure (r1 _ _ (H.fin M' (.inl c1)))
 ·rw [if_neg (by simpa using c1)]
  have z:=r2 (out.push x) mg ac bc M' (by omega)
  split
  ·exact wpS_pure z.1
  ·exact wpS_pure z.2
theorem J7e {a b out : Array Keyed} {na nb mg ac bc : Nat} {st : SortSt} {R : ForInStep HiSt → SortSt → Prop} (hO : κ.OneLt) (hk : kindOf st = oneType') (H : HiH κ a b) (M : MH κ a.toList b.toList out.toList (na + 1) (nb + 1)) (i1 : na + 1 ≤ a.size) (i2 : 1 ≤ nb) (i3 : nb + 1 ≤ b.size) {x y : Keyed} (ex : b[nb]? = some x) (ey : a[na]? = some y) (hxy : leKy κ y x)
  (r1 : ∀ r o,Gd κ a.toList b.toList r.toList → R (.done (some r,o)) st) (r2 : ∀ out' jb mg ac bc,MH κ a.toList b.toList out'.toList na jb → 1 ≤ na → 2 ≤ jb → jb ≤ nb → R (.done (none,na,jb,out',mg,ac,bc)) st ∧ R (.yield (none,na,jb,out',mg,ac,bc)) st) :
  wpS (model prog w) A E s (hiT1 a b out (na + 1) (nb + 1) mg ac bc) R st:=by
 unfold hiT1
 simp only [Nat.add_sub_cancel]
 refine wpS_bind (Jw ex ?_)
 have M' : MH κ a.toList b.toList (out.push x).toList (na + 1) nb:=by
  rw [Array.toList_push]
  exact M.pushB H.sb (Jh ex) fun z hz=>(J1X H.sa (Jh ey) z hz).trans hxy
 by_cases c1 : nb = 1
 ·rw [if_pos (by simpa using c1)]
  exact wpS_pure (r1 _ _ (H.fst M' (by omega) c1))
 rw [if_neg (by simpa using c1)]
 refine wpS_bind (Jw ey ?_)
 have zero : ∀ i : Nat,0 + i = i:=Nat.zero_add
 refine wpS_bind (J1a hO hk (H.ka _ (J0g ey)) (by omega) H.kb (fun i j u v hij _ hu hv=>J29 H.sb hij (Jh (by rw [← zero i]; exact hu)) (Jh (by rw [← zero j]; exact hv))) (by omega) fun k hk1 g1 g2=>?_)
 dsimp only
 have lb : b.toList.length = b.size:=Array.length_toList
 have ME : MH κ a.toList b.toList (out.push x ++ (b.extract k nb).reverse).toList (na + 1) k:=by
  rw [Array.toList_append,Array.toList_reverse,J1j]
  have:=M'.extB H.sb (nb - k) (by omega) fun i u h1 h2 hu z hz=>?_
  ·rw [show nb - (nb - k) = k by omega] at this
   exact this
  ·have h3:=g2 i u (by omega) h2 (by rw [zero]; simpa using hu)
   simp only [if_true] at h3
   exact (J1X H.sa (Jh ey) z hz).trans h3
 have hy : ∀ z ∈ b.toList.take k,leKy κ z y:=fun z hz=>by
  obtain ⟨j,hj⟩:=List.getElem?_of_mem hz
  rw [List.getElem?_take] at hj
  split at hj
  ·rename_i hlt
   have h3:=g1 j z hlt (by rw [zero]; simpa using hj)
   simp only [if_true] at h3
   exact leKy.of_lt h3
  ·cases hj
 have kpos : 1 ≤ k:=by
  by_cases c : k = 0
  ·exfalso
   obtain ⟨z,ez⟩:=Ju (a:=b) (i:=0) (by omega)
   have h3:=g2 0 z (by omega) (by omega) (by rw [zero]; exact ez)
   simp only [if_true] at h3
   have h4:=H.hf z ez y (J0g ey)
   unfold leKy KeyOrd.kle at h3
   unfold ltB at h4
   rw [h3] at h4
   cases h4
  ·omega
 by_cases c2 : nb - k > 0
 ·rw [if_pos c2]
  by_cases c3 : k = 1
  ·rw [if_pos (by simpa using c3)]
   exact wpS_pure (r1 _ _ (H.fst ME (by omega) c3))
  ·rw [if_neg (by simpa using c3),if_neg (by simp; omega)]
   exact J76 H ME i1 ey hy r1 fun out' mg ac bc m1 m2=>r2 out' _ mg ac bc m1 m2 (by omega) (by omega)
 ·rw [if_neg c2]
  have k0 : k = nb:=by omega
  rw [k0] at hy
  exact J76 H M' i1 ey hy r1 fun out' mg ac bc m1 m2=>r2 out' _ mg ac bc m1 m2 (by omega) (by omega)
theorem J6P {a b : Array Keyed} {st : SortSt} {Q : Array Keyed → SortSt → Prop} (hO : κ.OneLt) (hk : kindOf st = oneType') (HH : HiH κ a b) (ha : 1 ≤ a.size) (hb : 1 ≤ b.size)
  (hl : ∀ z,a[a.size - 1]? = some z → ∀ y ∈ b.toList,leKy κ y z)
  (q : ∀ r st',J0e st st' → Gd κ a.toList b.toList r.toList → Q r st') : wpS (model prog w) A E s (J4e a b) Q st:=by
 rw [J73]
 refine wpS_bind (wpS_lift (wpAny_rule ⟨rfl,?_⟩))
 obtain ⟨z,ez⟩:=Ju (a:=a) (i:=a.size - 1) (by omega)
 obtain ⟨b0,eb0⟩:=Ju (a:=b) (i:=0) (by omega)
 have la : a.toList.length = a.size:=Array.length_toList
 have lb : b.toList.length = b.size:=Array.length_toList
 refine wpS_bind (Jw ez ?_)
 have M0 : MH κ a.toList b.toList [z] (a.size - 1) b.size:=by
  have M : MH κ a.toList b.toList [] (a.size - 1 + 1) b.size:=⟨by omega,by omega,by rw [List.take_of_length_le (by omega),List.take_of_length_le (by omega),List.reverse_nil,List.append_nil],.nil,fun x hx=>absurd hx List.not_mem_nil,fun x hx=>absurd hx List.not_mem_nil⟩
  exact M.pushA HH.sa (Jh ez) fun y hy=>hl z ez y (List.mem_of_mem_take hy)
 by_cases e1 : a.size - 1 = 0
 ·rw [if_pos (by simp [e1])]
  exact wpS_pure (q _ st (J0e.refl _) (HH.fin M0 (.inl e1)))
 rw [if_neg (by simpa using e1)]
 by_cases e2 : b.size = 1
 ·rw [if_pos (by simp [e2])]
  exact wpS_pure (q _ st (J0e.refl _) (HH.fst M0 hb e2))
 rw [if_neg (by simpa using e2)]
 refine wpS_bind (wpS_get ?_)
 refine wpS_bind (wpS_mono (wpS_forRange
  (I:=fun x c st'=>J0e st st' ∧ ∃ out na nb mg,c = (none,na,nb,out,mg) ∧ MH κ a.toList b.toList out.toList na nb ∧ 1 ≤ na ∧ 2 ≤ nb ∧ na ≤ a.size ∧ nb ≤ b.size ∧ x + na + nb ≤ a.size + b.size)
  (Q:=fun c st'=>J0e st st' ∧ ∃ r o,c = (some r,o) ∧ Gd κ a.toList b.toList r.toList) ?step ?fin ⟨J0e.refl _,_,_,_,_,rfl,M0,by omega,by omega,by omega,by omega,by omega⟩) ?post)
 case post =>
  rintro c st' ⟨sg,r,o,rfl,g⟩
  exact wpS_pure (q r st' sg g)
 case fin =>
  rintro c st' ⟨_,out,na,nb,mg,rfl,_,h1,h2,h3⟩
  omega
 case step =>
  rintro x c st1 _ hx ⟨sg,out,na,nb,mg,rfl,M,i1,i2,i3,i4,i5⟩
  dsimp only
  refine wpS_bind (wpS_mono (wpS_forRange
   (I:=fun y c st'=>st' = st1 ∧ ∃ out na nb ac bc,c = (none,na,nb,out,ac,bc) ∧ MH κ a.toList b.toList out.toList na nb ∧ 1 ≤ na ∧ 2 ≤ nb ∧ na ≤ a.size ∧ nb ≤ b.size ∧ x + y + na + nb ≤ a.size + b.size)
   (Q:=fun c st'=>st' = st1 ∧ ((∃ r o,c = (some r,o) ∧ Gd κ a.toList b.toList r.toList) ∨ ∃ out na nb ac bc,c = (none,na,nb,out,ac,bc) ∧ MH κ a.toList b.toList out.toList na nb ∧ 1 ≤ na ∧ 2 ≤ nb ∧ na ≤ a.size ∧ nb ≤ b.size ∧ x + 1 + na + nb ≤ a.size + b.size)) ?step1 ?fin1 ⟨rfl,_,_,_,0,0,rfl,M,i1,i2,i3,i4,by omega⟩) ?post1)
  case fin1 =>
   rintro c st' ⟨_,out,na,nb,ac,bc,rfl,_,h1,h2,h3⟩
   omega
  case step1 =>
   clear M i1 i2 i3 i4 i5
   rintro y c st' _ hy ⟨rfl,out,na,nb,ac,bc,rfl,M,i1,i2,i3,i4,i5⟩
   dsimp only
   obtain ⟨nb,rfl⟩ : ∃ n,nb = n + 1:=⟨nb - 1,by omega⟩
   obtain ⟨na,rfl⟩ : ∃ n,na = n + 1:=⟨na - 1,by omega⟩
   simp only [Nat.add_sub_cancel]
   obtain ⟨xb,eb⟩:=Ju (a:=b) (i:=nb) (by omega)
   obtain ⟨xa,ea⟩:=Ju (a:=a) (i:=na) (by omega)
   refine wpS_bind (Jw eb (wpS_bind (Jw ea (wpS_bind (J2U hO (sg.k.trans hk) (HH.kb _ (J0g eb)) (HH.ka _ (J0g ea)) ?_)))))
   dsimp only
   cases hw : ltB κ xb xa
   ·rw [if_neg Bool.false_ne_true]
    refine wpS_bind (Jw eb ?_)
    have M' : MH κ a.toList b.toList (out.push xb).toList (na + 1) nb:=by
     rw [Array.toList_push]
     exact M.pushB HH.sb (Jh eb) fun y hy=>(J1X HH.sa (Jh ea) y hy).trans (leKy.of_not hw)
    by_cases c1 : nb = 1
    ·rw [if_pos (by simpa using c1)]
     exact wpS_pure ⟨rfl,.inl ⟨_,_,rfl,HH.fst M' hb c1⟩⟩
    ·rw [if_neg (by simpa using c1)]
     split
     ·exact wpS_pure ⟨rfl,.inr ⟨_,_,_,_,_,rfl,M',by omega,by omega,by omega,by omega,by omega⟩⟩
     ·exact wpS_pure ⟨rfl,_,_,_,_,_,rfl,M',by omega,by omega,by omega,by omega,by omega⟩
   ·rw [if_pos rfl]
    refine wpS_bind (Jw ea ?_)
    have M' : MH κ a.toList b.toList (out.push xa).toList na (nb + 1):=by
     rw [Array.toList_push]
     exact M.pushA HH.sa (Jh ea) fun y hy=>(J1X HH.sb (Jh eb) y hy).trans (leKy.of_lt hw)
    by_cases c1 : na = 0
    ·rw [if_pos (by simpa using c1)]
     exact wpS_pure ⟨rfl,.inl ⟨_,_,rfl,HH.fin M' (.inl c1)⟩⟩
    ·rw [if_neg (by simpa using c1)]
     split
     ·exact wpS_pure ⟨rfl,.inr ⟨_,_,_,_,_,rfl,M',by omega,by omega,by omega,by omega,by omega⟩⟩
     ·exact wpS_pure ⟨rfl,_,_,_,_,_,rfl,M',by omega,by omega,by omega,by omega,by omega⟩
  case post1 =>
   clear M i1 i2 i3 i4 i5
   rintro c st' ⟨rfl,⟨r,o,rfl,g⟩ | ⟨out,na,nb,ac,bc,rfl,M,i1,i2,i3,i4,i5⟩⟩
   ·exact wpS_pure ⟨sg,r,_,rfl,g⟩
   dsimp only
   refine wpS_bind (wpS_lift (wpAny_rule ⟨rfl,?_⟩))
   refine wpS_bind (wpS_mono (wpS_forRange
    (I:=fun y c st'=>J0e st st' ∧ ∃ out na nb mg ac bc,c = (none,na,nb,out,mg,ac,bc) ∧ MH κ a.toList b.toList out.toList na nb ∧ 1 ≤ na ∧ 2 ≤ nb ∧ na ≤ a.size ∧ nb ≤ b.size ∧ x + 1 + y + na + nb ≤ a.size + b.size)
    (Q:=fun c st'=>J0e st st' ∧ ((∃ r o,c = (some r,o) ∧ Gd κ a.toList b.toList r.toList) ∨ ∃ out na nb mg ac bc,c = (none,na,nb,out,mg,ac,bc) ∧ MH κ a.toList b.toList out.toList na nb ∧ 1 ≤ na ∧ 2 ≤ nb ∧ na ≤ a.size ∧ nb ≤ b.size ∧ x + 1 + na + nb ≤ a.size + b.size)) ?step2 ?fin2 ⟨sg,_,_,_,_,_,_,rfl,M,i1,i2,i3,i4,by omega⟩) ?post2)
   case fin2 =>
    rintro c st' ⟨_,out,na,nb,mg,ac,bc,rfl,_,h1,h2,h3⟩
    omega
   case post2 =>
    clear M i1 i2 i3 i4 i5
    rintro c st' ⟨sg',⟨r,o,rfl,g⟩ | ⟨out,na,nb,mg,ac,bc,rfl,M,i1,i2,i3,i4,i5⟩⟩
    ·exact wpS_pure ⟨sg',r,_,rfl,g⟩
    dsimp only
    rw [J0C]
    exact wpS_bind (wpS_modify (wpS_pure ⟨sg'.set _,_,_,_,_,rfl,M,i1,i2,i3,i4,i5⟩))
   case step2 =>
    clear M i1 i2 i3 i4 i5
    rintro y c st' _ hy ⟨sg',out,na,nb,mg,ac,bc,rfl,M,i1,i2,i3,i4,i5⟩
    dsimp only
    by_cases hm : mg > 1
    case' pos=>rw [if_pos hm]; generalize mg - 1 = mg2
    case' neg=>rw [if_neg hm]; clear hm; generalize mg = mg2
    all_goals
     rw [J0C]
     refine wpS_bind (wpS_modify ?_)
     have sg2:=sg'.set mg2
     generalize SortSt.mk' (kindOf st') (arrOf st') (pendingOf st') mg2 (failedOf st') = st2 at sg2 ⊢
     have hk2 : kindOf st2 = oneType':=sg2.k.trans hk
     obtain ⟨nb,rfl⟩ : ∃ n,nb = n + 1:=⟨nb - 1,by omega⟩
     obtain ⟨xb,eb⟩:=Ju (a:=b) (i:=nb) (by omega)
     have zero : ∀ i : Nat,0 + i = i:=Nat.zero_add
     refine wpS_bind (Jw (show b[nb + 1 - 1]? = some xb from eb) ?_)
     refine wpS_bind (J1a hO hk2 (HH.kb _ (J0g eb)) (by omega) HH.ka (fun i j u v hij _ hu hv=>J29 HH.sa hij (Jh (by rw [← zero i]; exact hu)) (Jh (by rw [← zero j]; exact hv))) (by omega) fun k hk1 g1 g2=>?_)
     dsimp only
     have ME : MH κ a.toList b.toList (out ++ (a.extract k na).reverse).toList k (nb + 1):=by
      rw [Array.toList_append,Array.toList_reverse,J1j]
      have:=M.extA HH.sa (na - k) (by omega) fun i u h1 h2 hu y hy=>?_
      ·rw [show na - (na - k) = k by omega] at this
       exact this
      ·have h3:=g2 i u (by omega) h2 (by rw [zero]; simpa using hu)
       simp only [Bool.false_eq_true,if_false] at h3
       exact (J1X HH.sb (Jh eb) y hy).trans (leKy.of_lt h3)
     have le1 : ∀ i v,i < k → a[i]? = some v → leKy κ v xb:=fun i v hi ev=>by
      have h3:=g1 i v hi (by rw [zero]; exact ev)
      simpa using h3
     have r1 : ∀ (r : Array Keyed) (o : Nat × Nat × Array Keyed × Nat × Nat × Nat),Gd κ a.toList b.toList r.toList → J0e st st2 ∧ ((∃ r' o',((some r,o) : HiSt) = (some r',o') ∧ Gd κ a.toList b.toList r'.toList) ∨ ∃ out na nb mg ac bc,((some r,o) : HiSt) = (none,na,nb,out,mg,ac,bc) ∧ MH κ a.toList b.toList out.toList na nb ∧ 1 ≤ na ∧ 2 ≤ nb ∧ na ≤ a.size ∧ nb ≤ b.size ∧ x + 1 + na + nb ≤ a.size + b.size):=fun r o g=>⟨sg2,.inl ⟨r,o,rfl,g⟩⟩
     by_cases c2 : na - k > 0
     ·rw [if_pos c2]
      by_cases c3 : k = 0
      ·rw [if_pos (by simpa using c3)]
       exact wpS_pure (r1 _ _ (HH.fin ME (.inl c3)))
      ·rw [if_neg (by simpa using c3)]
       show wpS _ _ _ _ (hiT1 a b (out ++ (a.extract k na).reverse) k (nb + 1) mg2 (na - k) bc) _ _
       obtain ⟨k,rfl⟩ : ∃ n,k = n + 1:=⟨k - 1,by omega⟩
       obtain ⟨v,ev⟩:=Ju (a:=a) (i:=k) (by omega)
       exact J7e hO hk2 HH ME (by omega) (by omega) (by omega) eb ev (le1 k v (by omega) ev) r1 fun out' jb' mg ac bc m1 m2 m3 m4=>⟨⟨sg2,.inr ⟨_,_,_,_,_,_,rfl,m1,m2,m3,by omega,by omega,by omega⟩⟩,⟨sg2,_,_,_,_,_,_,rfl,m1,m2,m3,by omega,by omega,by omega⟩⟩
     ·rw [if_neg c2]
      have k0 : k = na:=by omega
      subst k0
      show wpS _ _ _ _ (hiT1 a b out k (nb + 1) mg2 (k - k) bc) _ _
      obtain ⟨k,rfl⟩ : ∃ n,k = n + 1:=⟨k - 1,by omega⟩
      obtain ⟨v,ev⟩:=Ju (a:=a) (i:=k) (by omega)
      exact J7e hO hk2 HH M (by omega) (by omega) (by omega) eb ev (le1 k v (by omega) ev) r1 fun out' jb' mg ac bc m1 m2 m3 m4=>⟨⟨sg2,.inr ⟨_,_,_,_,_,_,rfl,m1,m2,m3,by omega,by omega,by omega⟩⟩,⟨sg2,_,_,_,_,_,_,rfl,m1,m2,m3,by omega,by omega,by omega⟩⟩
end
noncomputable def wrA (arr : Array Keyed) (sa : Nat) (m : List Keyed) : Array Keyed:=m.zipIdx.foldl (fun a x=>match x with | (p,j)=>a.setIfInBounds (sa + j) p) arr
theorem J6y (i : Nat) : mergeAt' i = (do
 let t ← get
 let (some (u,m,pw),some (v,n,_)):=((pendingOf t)[i]?,(pendingOf t)[i + 1]?) | unsupported "internal:list.sort.pending"
 set (setPending t (((pendingOf t).setIfInBounds i (u,m + n,pw)).eraseIdxIfInBounds (i + 1)))
 let some k ← J11 false (← elem' (arrOf t) v) (arrOf t) u m 0 | return false
 let (u,m):=(u + k,m - k)
 if m == 0 then return true
 let some n ← J11 true (← elem' (arrOf t) (u + m - 1)) (arrOf t) v n (n - 1) | return false
 if n == 0 then return true
 let x:=(arrOf t).extract u v
 let y:=(arrOf t).extract v (v + n)
 let r ← if m ≤ n then J4c x y else J4e x y
 modify fun t=>setArr t (wrA (arrOf t) u r.toList)
 return (failedOf (← get)).isNone):=rfl
theorem J48 {a : Array Keyed} {i : Nat} {x : Keyed} (h : a.toList[i]? = some x) : a[i]? = some x:=by rwa [Array.getElem?_toList] at h
section
variable {κ : PyProof.Rows.KeyKind}
noncomputable def seg (L : List Keyed) (l n : Nat) : List Keyed:=(L.drop l).take n
theorem J1H {L : List Keyed} {l n : Nat} {x : Keyed} (h : x ∈ seg L l n) : ∃ i,i < n ∧ L[l + i]? = some x:=by
 obtain ⟨j,hj⟩:=List.getElem?_of_mem h
 unfold seg at hj
 rw [List.getElem?_take] at hj
 split at hj
 ·rename_i hlt
  rw [List.getElem?_drop] at hj
  exact ⟨j,hlt,hj⟩
 ·cases hj
theorem J1I {L : List Keyed} {l n : Nat} (h : l + n ≤ L.length) : (seg L l n).length = n:=by
 unfold seg
 rw [List.length_take,List.length_drop]
 omega
theorem J2e (L : List Keyed) (l m n : Nat) : seg L l (m + n) = seg L l m ++ seg L (l + m) n:=by
 unfold seg
 rw [List.take_add,List.drop_drop]
theorem Jas {L : List Keyed} (l n : Nat) : L = L.take l ++ seg L l n ++ L.drop (l + n):=by
 unfold seg
 rw [List.append_assoc,← List.drop_drop,List.take_append_drop,List.take_append_drop]
theorem Jb9 {P M R : List Keyed} {l n : Nat} (h1 : P.length = l) (h2 : M.length = n) : seg (P ++ M ++ R) l n = M:=by
 unfold seg
 subst h1 h2
 rw [List.append_assoc,List.drop_left,List.take_left]
theorem J5P {L : List Keyed} {l n : Nat} (h : ∀ i j x y,i ≤ j → j < n → L[l + i]? = some x → L[l + j]? = some y → leKy κ x y) : (seg L l n).Pairwise (leKy κ):=by
 rw [List.pairwise_iff_getElem]
 intro i j hi hj hij
 have gi : (seg L l n)[i]? = some (seg L l n)[i]:=List.getElem?_eq_getElem hi
 have gj : (seg L l n)[j]? = some (seg L l n)[j]:=List.getElem?_eq_getElem hj
 have e : ∀ k,(seg L l n)[k]? = if k < n then L[l + k]? else none:=fun k=>by
  unfold seg
  rw [List.getElem?_take]
  split
  ·rw [List.getElem?_drop]
  ·rfl
 rw [e] at gi gj
 split at gi
 ·split at gj
  ·exact h i j _ _ (by omega) (by assumption) gi gj
  ·cases gj
 ·cases gi
theorem J2b {L : List Keyed} {l n : Nat} (s : (seg L l n).Pairwise (leKy κ)) : ∀ i j x y,i ≤ j → j < n → L[l + i]? = some x → L[l + j]? = some y → leKy κ x y:=by
 intro i j x y hij hj hx hy
 have e : ∀ k z,k < n → L[l + k]? = some z → (seg L l n)[k]? = some z:=fun k z hk hz=>by
  unfold seg
  rw [List.getElem?_take,if_pos hk,List.getElem?_drop]
  exact hz
 exact J29 s hij (e i x (by omega) hx) (e j y hj hy)
theorem JaL : ∀ (m : List Keyed) (arr : Array Keyed) (sa k : Nat),sa + k + m.length ≤ arr.size → ((m.zipIdx k).foldl (fun a x=>match x with | (p,j)=>a.setIfInBounds (sa + j) p) arr).toList = arr.toList.take (sa + k) ++ m ++ arr.toList.drop (sa + k + m.length)
 | [],arr,sa,k,_=>by
  show arr.toList = _
  rw [List.append_nil,List.length_nil,Nat.add_zero,List.take_append_drop]
 | p :: m,arr,sa,k,h=>by
  have hl : sa + k + (m.length + 1) ≤ arr.size:=h
  show ((m.zipIdx (k + 1)).foldl _ (arr.setIfInBounds (sa + k) p)).toList = _
  rw [JaL m _ sa (k + 1) (by rw [Array.size_setIfInBounds]; omega)]
  have e : (arr.setIfInBounds (sa + k) p).toList = arr.toList.set (sa + k) p:=by simp
  have ll : sa + k < arr.toList.length:=by rw [Array.length_toList]; omega
  rw [e,show sa + (k + 1) = sa + k + 1 by omega,List.drop_set_of_lt (by omega),List.length_cons,show sa + k + 1 + m.length = sa + k + (m.length + 1) by omega]
  have e2 : (arr.toList.set (sa + k) p).take (sa + k + 1) = arr.toList.take (sa + k) ++ [p]:=by
   rw [List.take_add_one,List.take_set_of_le (Nat.le_refl _),List.getElem?_set_self ll]
   rfl
  rw [e2]
  simp
theorem Jam {arr : Array Keyed} {sa : Nat} {m : List Keyed} (h : sa + m.length ≤ arr.size) : (wrA arr sa m).toList = arr.toList.take sa ++ m ++ arr.toList.drop (sa + m.length):=by
 have:=JaL m arr sa 0 (by omega)
 rw [Nat.add_zero] at this
 exact this
structure MA (κ : PyProof.Rows.KeyKind) (L L' : List Keyed) (u n : Nat) : Prop where
 perm : L'.Perm L
 srt : (seg L' u n).Pairwise (leKy κ)
 pre : L'.take u = L.take u
 post : L'.drop (u + n) = L.drop (u + n)
theorem MA.same {L : List Keyed} {u n : Nat} (h : (seg L u n).Pairwise (leKy κ)) : MA κ L L u n:=⟨List.Perm.refl _,h,rfl,rfl⟩
theorem MA.made {L r : List Keyed} {u k m n n' : Nat} (hk : k ≤ m) (hn : n' ≤ n) (hl : u + m + n ≤ L.length) (s1 : (seg L u m).Pairwise (leKy κ)) (s2 : (seg L (u + m) n).Pairwise (leKy κ)) (g : Gd κ (seg L (u + k) (m - k)) (seg L (u + m) n') r)
  (h1 : ∀ x ∈ seg L u k,∀ y ∈ seg L (u + m) n,leKy κ x y) (h2 : ∀ x ∈ seg L (u + k) (m - k),∀ y ∈ seg L (u + m + n') (n - n'),leKy κ x y) :
  MA κ L (L.take (u + k) ++ r ++ L.drop (u + k + r.length)) u (m + n):=by
 have e1 : seg L u m = seg L u k ++ seg L (u + k) (m - k):=by rw [← J2e,show k + (m - k) = m by omega]
 have e2 : seg L (u + m) n = seg L (u + m) n' ++ seg L (u + m + n') (n - n'):=by rw [← J2e,show n' + (n - n') = n by omega]
 have lr : r.length = m - k + n':=by
  rw [g.1.length_eq,List.length_append,J1I (by omega),J1I (by omega)]
 have ed : L.drop (u + k + r.length) = seg L (u + m + n') (n - n') ++ L.drop (u + (m + n)):=by
  rw [lr,show u + k + (m - k + n') = u + m + n' by omega]
  unfold seg
  rw [show u + (m + n) = u + m + n' + (n - n') by omega,← List.drop_drop (i:=n - n'),List.take_append_drop]
 have et : L.take (u + k) = L.take u ++ seg L u k:=by unfold seg; rw [← List.take_add]
 have lu : (L.take u).length = u:=by rw [List.length_take]; omega
 have all : L = L.take u ++ (seg L u k ++ (seg L (u + k) (m - k) ++ seg L (u + m) n') ++ seg L (u + m + n') (n - n')) ++ L.drop (u + (m + n)):=by
  conv=>lhs; rw [Jas (L:=L) u (m + n),J2e,e1,e2]
  simp only [List.append_assoc]
 have shape : L.take (u + k) ++ r ++ L.drop (u + k + r.length) = L.take u ++ (seg L u k ++ r ++ seg L (u + m + n') (n - n')) ++ L.drop (u + (m + n)):=by
  rw [et,ed]
  simp only [List.append_assoc]
 have lm : (seg L u k ++ r ++ seg L (u + m + n') (n - n')).length = m + n:=by
  rw [List.length_append,List.length_append,lr,J1I (by omega),J1I (by omega)]
  omega
 rw [shape]
 refine ⟨?_,?_,?_,?_⟩
 ·conv=>rhs; rw [all]
  refine List.Perm.append_right _ (List.Perm.append_left _ (List.Perm.append_right _ (List.Perm.append_left _ g.1)))
 ·rw [Jb9 lu lm]
  rw [e1] at s1
  rw [e2] at s2
  have p1:=List.pairwise_append.mp s1
  have p2:=List.pairwise_append.mp s2
  refine List.pairwise_append.mpr ⟨List.pairwise_append.mpr ⟨p1.1,g.2,fun x hx y hy=>?_⟩,p2.2.1,fun x hx y hy=>?_⟩
  ·rcases List.mem_append.mp (g.1.subset hy) with hy | hy
   ·exact p1.2.2 x hx y hy
   ·exact h1 x hx y (by rw [e2]; exact List.mem_append_left _ hy)
  ·rcases List.mem_append.mp hx with hx | hx
   ·exact h1 x hx y (by rw [e2]; exact List.mem_append_right _ hy)
   ·rcases List.mem_append.mp (g.1.subset hx) with hx | hx
    ·exact h2 x hx y hy
    ·exact p2.2.2 x hx y hy
 ·rw [List.append_assoc,List.take_left' lu]
 ·rw [List.drop_left' (by rw [List.length_append,lu,lm])]
end
section
variable {prog : Program} {w : World} {A : Around} {E : Value → Shared → Prop} {s : Shared} {κ : PyProof.Rows.KeyKind}
theorem J6L {i u m n pw pv : Nat} {st : SortSt} {Q : Bool → SortSt → Prop} (hO : κ.OneLt) (hk : kindOf st = oneType') (hf : failedOf st = none) (ka : ∀ x ∈ (arrOf st).toList,Kd κ x)
  (e1 : (pendingOf st)[i]? = some (u,m,pw)) (e2 : (pendingOf st)[i + 1]? = some (u + m,n,pv)) (hm : 1 ≤ m) (hn : 1 ≤ n) (hl : u + m + n ≤ (arrOf st).size)
  (s1 : (seg (arrOf st).toList u m).Pairwise (leKy κ)) (s2 : (seg (arrOf st).toList (u + m) n).Pairwise (leKy κ))
  (q : ∀ st',kindOf st' = oneType' → failedOf st' = none → pendingOf st' = ((pendingOf st).setIfInBounds i (u,m + n,pw)).eraseIdxIfInBounds (i + 1) → MA κ (arrOf st).toList (arrOf st').toList u (m + n) → Q true st') :
  wpS (model prog w) A E s (mergeAt' i) Q st:=by
 rw [J6y]
 refine wpS_bind (wpS_get ?_)
 rw [e1,e2]
 dsimp only
 generalize hP : ((pendingOf st).setIfInBounds i (u,m + n,pw)).eraseIdxIfInBounds (i + 1) = P' at q ⊢
 have ll : (arrOf st).toList.length = (arrOf st).size:=Array.length_toList
 refine wpS_bind ?_
 show wpS _ _ _ _ (modify fun _=>setPending st P') _ st
 refine wpS_modify ?_
 obtain ⟨xb,eb⟩:=Ju (a:=arrOf st) (i:=u + m) (by omega)
 have kx : ∀ {j x},(arrOf st)[j]? = some x → Kd κ x:=fun h=>ka _ (J0g h)
 have li : ∀ {j x},(arrOf st)[j]? = some x → (arrOf st).toList[j]? = some x:=fun h=>Jh h
 have ri : ∀ {j x},(arrOf st).toList[j]? = some x → (arrOf st)[j]? = some x:=fun h=>J48 h
 refine wpS_bind (Jw eb ?_)
 refine wpS_bind (J1a hO hk (kx eb) (by omega) ka (fun i j x y hij hj hx hy=>J2b s1 i j x y hij hj (li hx) (li hy)) (by omega) fun k hk1 g1 g2=>?_)
 dsimp only
 have pb : ∀ x ∈ seg (arrOf st).toList u k,leKy κ x xb:=fun x hx=>by
  obtain ⟨i,hi,e⟩:=J1H hx
  have:=g1 i x hi (ri e)
  simpa using this
 have ba : ∀ x ∈ seg (arrOf st).toList (u + k) (m - k),ltB κ xb x = true:=fun x hx=>by
  obtain ⟨i,hi,e⟩:=J1H hx
  have:=g2 (k + i) x (by omega) (by omega) (ri (by rw [← Nat.add_assoc]; exact e))
  simpa using this
 have b0 : ∀ y ∈ seg (arrOf st).toList (u + m) n,leKy κ xb y:=fun y hy=>by
  obtain ⟨i,hi,e⟩:=J1H hy
  exact J2b s2 0 i xb y (by omega) hi (li eb) e
 by_cases c1 : m - k = 0
 ·rw [if_pos (by simpa using c1)]
  refine wpS_pure (q _ hk hf rfl (MA.same ?_))
  rw [J2e]
  have ek : k = m:=by omega
  rw [ek] at pb
  exact List.pairwise_append.mpr ⟨s1,s2,fun x hx y hy=>(pb x hx).trans (b0 y hy)⟩
 rw [if_neg (by simpa using c1)]
 obtain ⟨xa,ea⟩:=Ju (a:=arrOf st) (i:=u + k + (m - k) - 1) (by omega)
 have ea' : (arrOf st).toList[u + (m - 1)]? = some xa:=by rw [show u + (m - 1) = u + k + (m - k) - 1 by omega]; exact li ea
 refine wpS_bind (Jw ea ?_)
 refine wpS_bind (J1a hO hk (kx ea) (by omega) ka (fun i j x y hij hj hx hy=>J2b s2 i j x y hij hj (li hx) (li hy)) (by omega) fun n' hn1 g3 g4=>?_)
 dsimp only
 have aa : ∀ x ∈ seg (arrOf st).toList u m,leKy κ x xa:=fun x hx=>by
  obtain ⟨i,hi,e⟩:=J1H hx
  exact J2b s1 i (m - 1) x xa (by omega) (by omega) e ea'
 have bl : ∀ y ∈ seg (arrOf st).toList (u + m) n',ltB κ y xa = true:=fun y hy=>by
  obtain ⟨i,hi,e⟩:=J1H hy
  have:=g3 i y hi (ri e)
  simpa using this
 have br : ∀ y ∈ seg (arrOf st).toList (u + m + n') (n - n'),leKy κ xa y:=fun y hy=>by
  obtain ⟨i,hi,e⟩:=J1H hy
  have:=g4 (n' + i) y (by omega) (by omega) (ri (by rw [← Nat.add_assoc]; exact e))
  simpa using this
 by_cases c2 : n' = 0
 ·rw [if_pos (by simpa using c2)]
  refine wpS_pure (q _ hk hf rfl (MA.same ?_))
  rw [J2e]
  rw [c2,Nat.add_zero,Nat.sub_zero] at br
  exact List.pairwise_append.mpr ⟨s1,s2,fun x hx y hy=>(aa x hx).trans (br y hy)⟩
 rw [if_neg (by simpa using c2)]
 have sub1 : ∀ x ∈ seg (arrOf st).toList (u + k) (m - k),x ∈ seg (arrOf st).toList u m:=fun x hx=>by
  have : seg (arrOf st).toList u m = seg (arrOf st).toList u k ++ seg (arrOf st).toList (u + k) (m - k):=by rw [← J2e,show k + (m - k) = m by omega]
  rw [this]
  exact List.mem_append_right _ hx
 have tx : ((arrOf st).extract (u + k) (u + m)).toList = seg (arrOf st).toList (u + k) (m - k):=by rw [J1j,show u + m - (u + k) = m - k by omega]; rfl
 have ty : ((arrOf st).extract (u + m) (u + m + n')).toList = seg (arrOf st).toList (u + m) n':=by rw [J1j,show u + m + n' - (u + m) = n' by omega]; rfl
 have sx : (seg (arrOf st).toList (u + k) (m - k)).Pairwise (leKy κ):=J5P fun i j x y hij hj hx hy=>J2b s1 (k + i) (k + j) x y (by omega) (by omega) (by rw [← Nat.add_assoc]; exact hx) (by rw [← Nat.add_assoc]; exact hy)
 have sy : (seg (arrOf st).toList (u + m) n').Pairwise (leKy κ):=J5P fun i j x y hij hj hx hy=>J2b s2 i j x y hij (by omega) hx hy
 have zx : ((arrOf st).extract (u + k) (u + m)).size = m - k:=by rw [← Array.length_toList,tx,J1I (by omega)]
 have zy : ((arrOf st).extract (u + m) (u + m + n')).size = n':=by rw [← Array.length_toList,ty,J1I (by omega)]
 have kX : ∀ x ∈ ((arrOf st).extract (u + k) (u + m)).toList,Kd κ x:=fun x hx=>by
  rw [tx] at hx
  obtain ⟨i,_,e⟩:=J1H hx
  exact kx (ri e)
 have kY : ∀ x ∈ ((arrOf st).extract (u + m) (u + m + n')).toList,Kd κ x:=fun x hx=>by
  rw [ty] at hx
  obtain ⟨i,_,e⟩:=J1H hx
  exact kx (ri e)
 have fY : ∀ z,((arrOf st).extract (u + m) (u + m + n'))[0]? = some z → z = xb:=fun z hz=>by
  have:=Jh hz
  rw [ty] at this
  unfold seg at this
  rw [List.getElem?_take,if_pos (by omega),List.getElem?_drop,Nat.add_zero,li eb] at this
  exact (Option.some.inj this).symm
 have lX : ∀ z,((arrOf st).extract (u + k) (u + m))[((arrOf st).extract (u + k) (u + m)).size - 1]? = some z → z = xa:=fun z hz=>by
  have:=Jh hz
  rw [tx,zx] at this
  unfold seg at this
  rw [List.getElem?_take,if_pos (by omega),List.getElem?_drop,show u + k + (m - k - 1) = u + (m - 1) by omega,ea'] at this
  exact (Option.some.inj this).symm
 have done : ∀ (r : Array Keyed) (st2 : SortSt),J0e (setPending st P') st2 → Gd κ ((arrOf st).extract (u + k) (u + m)).toList ((arrOf st).extract (u + m) (u + m + n')).toList r.toList → wpS (model prog w) A E s (do
   modify fun t=>setArr t (wrA (arrOf t) (u + k) r.toList)
   let t ← get
   pure (failedOf t).isNone) Q st2:=fun r st2 sg g=>by
  rw [tx,ty] at g
  have lr : r.toList.length = m - k + n':=by rw [g.1.length_eq,List.length_append,J1I (by omega),J1I (by omega)]
  refine wpS_bind (wpS_modify (wpS_bind (wpS_get (wpS_pure ?_))))
  have hf2 : failedOf st2 = none:=sg.f.trans hf
  show Q (failedOf st2).isNone _
  rw [hf2]
  refine q _ (sg.k.trans hk) hf2 sg.p ?_
  have ea2 : arrOf st2 = arrOf st:=sg.a
  show MA κ _ (wrA (arrOf st2) (u + k) r.toList).toList u (m + n)
  rw [ea2,Jam (by rw [lr]; omega)]
  exact MA.made hk1 hn1 (by omega) s1 s2 g (fun x hx y hy=>(pb x hx).trans (b0 y hy)) (fun x hx y hy=>(aa x (sub1 x hx)).trans (br y hy))
 by_cases c3 : m - k ≤ n'
 ·rw [if_pos c3]
  refine wpS_bind (J6Z hO hk kX kY (by rw [tx]; exact sx) (by rw [ty]; exact sy) (by omega) (by omega) (fun x y hx hy=>?_) (fun z hz y hy=>?_) fun r st2 sg g=>done r st2 sg g)
  ·rw [fY x hx]
   have:=J0g hy
   rw [tx] at this
   exact leKy.of_lt (ba y this)
  ·rw [lX z hz]
   rw [ty] at hy
   exact bl y hy
 ·rw [if_neg c3]
  refine wpS_bind (J6P hO hk ⟨kX,kY,by rw [tx]; exact sx,by rw [ty]; exact sy,fun z hz y hy=>?_⟩ (by omega) (by omega) (fun z hz y hy=>?_) fun r st2 sg g=>done r st2 sg g)
  ·rw [fY z hz]
   rw [tx] at hy
   exact ba y hy
  ·rw [lX z hz]
   rw [ty] at hy
   exact leKy.of_lt (bl y hy)
end
section
variable {κ : PyProof.Rows.KeyKind}
structure StR (st st' : SortSt) (l r : Nat) : Prop where
 k : kindOf st' = kindOf st
 f : failedOf st' = failedOf st
 p : pendingOf st' = pendingOf st
 perm : (arrOf st').toList.Perm (arrOf st).toList
 out : ∀ j : Nat,j < l ∨ r ≤ j → (arrOf st')[j]? = (arrOf st)[j]?
theorem StR.refl (st : SortSt) (l r : Nat) : StR st st l r:=⟨rfl,rfl,rfl,List.Perm.refl _,fun _ _=>rfl⟩
theorem StR.trans {a b c : SortSt} {l r : Nat} (h : StR a b l r) (h2 : StR b c l r) : StR a c l r:=⟨h2.k.trans h.k,h2.f.trans h.f,h2.p.trans h.p,h2.perm.trans h.perm,fun j hj=>(h2.out j hj).trans (h.out j hj)⟩
theorem StR.size {a b : SortSt} {l r : Nat} (h : StR a b l r) : (arrOf b).size = (arrOf a).size:=by
 have:=h.perm.length_eq
 rwa [Array.length_toList,Array.length_toList] at this
noncomputable def Up (κ : PyProof.Rows.KeyKind) (xs : Array Keyed) (b m : Nat) : Prop:=∀ i j,i ≤ j → j < m → κ.kle (KK κ xs (b + i)) (KK κ xs (b + j))
noncomputable def Dn (κ : PyProof.Rows.KeyKind) (xs : Array Keyed) (b m : Nat) : Prop:=∀ i j,i ≤ j → j < m → κ.kle (KK κ xs (b + j)) (KK κ xs (b + i))
theorem J4V {xs : Array Keyed} {i : Nat} {x : Keyed} (h : xs[i]? = some x) : KK κ xs i = kOf κ x:=by
 unfold KK kOf
 rw [h]
theorem Up.seg {xs : Array Keyed} {b m : Nat} (h : Up κ xs b m) : (seg xs.toList b m).Pairwise (leKy κ):=J5P fun i j x y hij hj hx hy=>by
 have:=h i j hij hj
 rw [J4V (J48 hx),J4V (J48 hy)] at this
 exact this
theorem Up.one {xs : Array Keyed} (b : Nat) : Up κ xs b 1:=fun i j hij hj=>by
 have e : i = j:=by omega
 subst e
 exact KeyOrd.kle_refl _
theorem Up.more {xs : Array Keyed} {b m : Nat} (h : Up κ xs b m) (h1 : 1 ≤ m) (l : κ.kle (KK κ xs (b + m - 1)) (KK κ xs (b + m))) : Up κ xs b (m + 1):=fun i j hij hj=>by
 by_cases c : j < m
 ·exact h i j hij c
 ·have e : j = m:=by omega
  subst e
  by_cases c2 : i = j
  ·rw [c2]; exact KeyOrd.kle_refl _
  ·have:=h i (j - 1) (by omega) (by omega)
   rw [show b + (j - 1) = b + j - 1 by omega] at this
   exact KeyOrd.kle_trans this l
theorem Dn.more {xs : Array Keyed} {b m : Nat} (h : Dn κ xs b m) (h1 : 1 ≤ m) (l : κ.kle (KK κ xs (b + m)) (KK κ xs (b + m - 1))) : Dn κ xs b (m + 1):=fun i j hij hj=>by
 by_cases c : j < m
 ·exact h i j hij c
 ·have e : j = m:=by omega
  subst e
  by_cases c2 : i = j
  ·rw [c2]; exact KeyOrd.kle_refl _
  ·have:=h i (j - 1) (by omega) (by omega)
   rw [show b + (j - 1) = b + j - 1 by omega] at this
   exact KeyOrd.kle_trans l this
theorem J7X {xs : Array Keyed} {i j : Nat} (hj : j ≤ xs.size) (k : Nat) : KK κ (mirror xs i j ((j - i) / 2)) k = if i ≤ k ∧ k < j then KK κ xs (i + j - 1 - k) else KK κ xs k:=by
 have e:=getElem?_mirror_all (i:=i) hj k
 by_cases c : i ≤ k ∧ k < j
 ·rw [if_pos c] at e ⊢
  exact KK_congr e
 ·rw [if_neg c] at e ⊢
  exact KK_congr e
theorem J2H {xs : Array Keyed} {i j : Nat} (hj : j ≤ xs.size) (h : ∀ k,i ≤ k → k < j → KK κ xs k = KK κ xs (j - 1)) (k : Nat) : KK κ (mirror xs i j ((j - i) / 2)) k = KK κ xs k:=by
 rw [J7X hj]
 by_cases c : i ≤ k ∧ k < j
 ·rw [if_pos c,h _ (by omega) (by omega),h k c.1 c.2]
 ·rw [if_neg c]
theorem StR.mir {st : SortSt} {l r i j : Nat} (h1 : l ≤ i) (h2 : j ≤ r) (hj : j ≤ (arrOf st).size) : StR st (setArr st (mirror (arrOf st) i j ((j - i) / 2))) l r :=
 ⟨rfl,rfl,rfl,Array.perm_iff_toList_perm.mp (mirror_perm _ _ _ _),fun k hk=>by
  show (mirror (arrOf st) i j ((j - i) / 2))[k]? = _
  rw [getElem?_mirror_all hj,if_neg (by omega)]⟩
end
section
variable {prog : Program} {w : World} {A : Around} {E : Value → Shared → Prop} {s : Shared} {κ : PyProof.Rows.KeyKind}
theorem J2f {i j : Nat} {st : SortSt} {Q : Option Bool → SortSt → Prop} (hO : κ.OneLt) (hk : kindOf st = oneType') (ka : ∀ x ∈ (arrOf st).toList,Kd κ x) (hi : i < (arrOf st).size) (hj : j < (arrOf st).size) (q : Q (some (κ.blt (KK κ (arrOf st) i) (KK κ (arrOf st) j))) st) : wpS (model prog w) A E s (ltAt' i j) Q st:=by
 obtain ⟨x,ex⟩:=Ju hi
 obtain ⟨y,ey⟩:=Ju hj
 rw [J4V ex,J4V ey] at q
 rw [ltAt'_eq]
 exact wpS_bind (wpS_get (wpS_bind (Jw ex (wpS_bind (Jw ey (J2U hO hk (ka _ (J0g ex)) (ka _ (J0g ey)) q))))))
theorem J3A {i j : Nat} {st : SortSt} {Q : Unit → SortSt → Prop} (q : Q () (setArr st (mirror (arrOf st) i j ((j - i) / 2)))) : wpS (model prog w) A E s (reverseSlice' i j) Q st:=by
 rw [reverseSlice'_eq]
 exact wpS_modify q
noncomputable def goUp (b n0 n1 : Nat) : SM (Option Nat):=do
 let mut m:=n0
 for _ in [m:n1] do
  let some lt1 ← ltAt' (b + m) (b + m - 1) | return none
  if lt1 then break
  m:=m + 1
 return some m
noncomputable def goDn (b n0 n1 : Nat) : SM (Option Nat):=do
 rule "list.sort.descending-run"
 let mut m:=n0 + 1
 let mut q:=0
 for _ in [m:n1] do
  let some lt1 ← ltAt' (b + m) (b + m - 1) | return none
  if lt1 then
   if q > 0 then reverseSlice' (b + m - (q + 1)) (b + m)
   q:=0
  else
   let some gt1 ← ltAt' (b + m - 1) (b + m) | return none
   if gt1 then break
   q:=q + 1
  m:=m + 1
 if q > 0 then reverseSlice' (b + m - (q + 1)) (b + m)
 reverseSlice' b (b + m)
 for _ in [m:n1] do
  let some lt1 ← ltAt' (b + m) (b + m - 1) | return none
  if lt1 then break
  m:=m + 1
 return some m
theorem J9Q {b n0 n1 : Nat} {st : SortSt} {Q : Option Nat → SortSt → Prop} (hO : κ.OneLt) (hk : kindOf st = oneType') (ka : ∀ x ∈ (arrOf st).toList,Kd κ x) (hb : b + n1 ≤ (arrOf st).size) (h0 : 1 ≤ n0) (h1 : n0 ≤ n1) (u : Up κ (arrOf st) b n0)
  (q : ∀ m,n0 ≤ m → m ≤ n1 → Up κ (arrOf st) b m → Q (some m) st) : wpS (model prog w) A E s (goUp b n0 n1) Q st:=by
 unfold goUp
 refine wpS_bind (wpS_mono (wpS_forRange (I:=fun x c st'=>st' = st ∧ c = (none,x) ∧ Up κ (arrOf st) b x) (Q:=fun c st'=>st' = st ∧ ∃ m,c = (none,m) ∧ n0 ≤ m ∧ m ≤ n1 ∧ Up κ (arrOf st) b m) ?_ ?_ ⟨rfl,rfl,u⟩) ?_)
 ·rintro x c st' hx1 hx2 ⟨rfl,rfl,ux⟩
  dsimp only
  refine wpS_bind (J2f hO hk ka (by omega) (by omega) ?_)
  dsimp only
  cases hl : κ.blt (KK κ (arrOf st') (b + x)) (KK κ (arrOf st') (b + x - 1))
  ·rw [if_neg Bool.false_ne_true]
   exact wpS_pure ⟨rfl,rfl,ux.more (by omega) hl⟩
  ·rw [if_pos rfl]
   exact wpS_pure ⟨rfl,x,rfl,hx1,by omega,ux⟩
 ·rintro c st' ⟨rfl,rfl,ux⟩
  rw [show max n0 n1 = n1 by omega] at ux ⊢
  exact ⟨rfl,n1,rfl,h1,Nat.le_refl _,ux⟩
 ·rintro c st' ⟨rfl,m,rfl,m1,m2,um⟩
  exact wpS_pure (q m m1 m2 um)
theorem J6O {b n0 n1 : Nat} {st : SortSt} {Q : Option Nat → SortSt → Prop} (hO : κ.OneLt) (hk : kindOf st = oneType') (ka : ∀ x ∈ (arrOf st).toList,Kd κ x) (hb : b + n1 ≤ (arrOf st).size) (h1 : n0 + 1 ≤ n1) (u : Dn κ (arrOf st) b (n0 + 1))
  (q : ∀ m st',StR st st' b (b + n1) → 1 ≤ m → m ≤ n1 → Up κ (arrOf st') b m → Q (some m) st') : wpS (model prog w) A E s (goDn b n0 n1) Q st:=by
 have kp : ∀ {st'},StR st st' b (b + n1) → kindOf st' = oneType' ∧ (∀ x ∈ (arrOf st').toList,Kd κ x) ∧ (arrOf st').size = (arrOf st).size:=fun h=>⟨h.k.trans hk,fun x hx=>ka x (h.perm.subset hx),h.size⟩
 unfold goDn
 refine wpS_bind (wpS_lift (wpAny_rule ⟨rfl,?_⟩))
 refine wpS_bind (wpS_mono (wpS_forRange
  (I:=fun x c st'=>StR st st' b (b + n1) ∧ ∃ e,c = (none,x,e) ∧ Dn κ (arrOf st') b x ∧ e + 1 ≤ x ∧ ∀ i,b + x - (e + 1) ≤ i → i < b + x → KK κ (arrOf st') i = KK κ (arrOf st') (b + x - 1))
  (Q:=fun c st'=>StR st st' b (b + n1) ∧ ∃ m e,c = (none,m,e) ∧ n0 + 1 ≤ m ∧ m ≤ n1 ∧ Dn κ (arrOf st') b m ∧ e + 1 ≤ m ∧ ∀ i,b + m - (e + 1) ≤ i → i < b + m → KK κ (arrOf st') i = KK κ (arrOf st') (b + m - 1)) ?_ ?_ ⟨StR.refl _ _ _,0,rfl,u,by omega,fun i a1 a2=>by rw [show i = b + (n0 + 1) - 1 by omega]⟩) ?_)
 ·rintro x c st' hx1 hx2 ⟨hS,e,rfl,d,e1,eq⟩
  obtain ⟨k1,k2,k3⟩:=kp hS
  dsimp only
  refine wpS_bind (J2f hO k1 k2 (by omega) (by omega) ?_)
  dsimp only
  cases hl : κ.blt (KK κ (arrOf st') (b + x)) (KK κ (arrOf st') (b + x - 1))
  ·rw [if_neg Bool.false_ne_true]
   refine wpS_bind (J2f hO k1 k2 (by omega) (by omega) ?_)
   dsimp only
   cases hg : κ.blt (KK κ (arrOf st') (b + x - 1)) (KK κ (arrOf st') (b + x))
   ·rw [if_neg Bool.false_ne_true]
    have ex : KK κ (arrOf st') (b + x) = KK κ (arrOf st') (b + x - 1):=KeyOrd.kle_antisymm hg hl
    refine wpS_pure ⟨hS,e + 1,rfl,d.more (by omega) hg,by omega,fun i a1 a2=>?_⟩
    rw [show b + (x + 1) - 1 = b + x by omega]
    by_cases c : i = b + x
    ·rw [c]
    ·rw [ex]; exact eq i (by omega) (by omega)
   ·rw [if_pos rfl]
    exact wpS_pure ⟨hS,x,e,rfl,hx1,by omega,d,e1,eq⟩
  ·rw [if_pos rfl]
   have nx : ∀ xs : Array Keyed,(∀ k,KK κ xs k = KK κ (arrOf st') k) → Dn κ xs b (x + 1):=fun xs hx i j hij hj=>by
    rw [hx,hx]
    exact d.more (by omega) (KeyOrd.kle_of_klt hl) i j hij hj
   by_cases ce : e > 0
   ·rw [if_pos ce]
    refine wpS_bind (J3A (wpS_pure ⟨hS.trans (StR.mir (by omega) (by omega) (by omega)),0,rfl,nx _ (J2H (by omega) eq),by omega,fun i a1 a2=>by rw [show i = b + (x + 1) - 1 by omega]⟩))
   ·rw [if_neg ce]
    exact wpS_pure ⟨hS,0,rfl,nx _ (fun _=>rfl),by omega,fun i a1 a2=>by rw [show i = b + (x + 1) - 1 by omega]⟩
 ·rintro c st' ⟨hS,e,rfl,d,e1,eq⟩
  rw [show max (n0 + 1) n1 = n1 by omega] at d e1 eq ⊢
  exact ⟨hS,n1,e,rfl,h1,Nat.le_refl _,d,e1,eq⟩
 ·rintro c st' ⟨hS,m,e,rfl,m1,m2,d,e1,eq⟩
  have rest : ∀ st2,StR st st2 b (b + n1) → Dn κ (arrOf st2) b m → wpS (model prog w) A E s (do
    reverseSlice' b (b + m)
    goUp b m n1) Q st2:=fun st2 h2 d2=>by
   obtain ⟨k1,k2,k3⟩:=kp h2
   refine wpS_bind (J3A ?_)
   have h3 : StR st (setArr st2 (mirror (arrOf st2) b (b + m) ((b + m - b) / 2))) b (b + n1):=h2.trans (StR.mir (Nat.le_refl _) (by omega) (by omega))
   obtain ⟨q1,q2,q3⟩:=kp h3
   refine J9Q hO q1 q2 (by omega) (by omega) m2 (fun i j hij hj=>?_) fun m' a1 a2 a3=>q m' _ h3 (by omega) a2 a3
   show κ.kle (KK κ (mirror (arrOf st2) b (b + m) ((b + m - b) / 2)) (b + i)) (KK κ (mirror (arrOf st2) b (b + m) ((b + m - b) / 2)) (b + j))
   rw [J7X (by omega),J7X (by omega),if_pos (by omega),if_pos (by omega)]
   have:=d2 (m - 1 - j) (m - 1 - i) (by omega) (by omega)
   rw [show b + (m - 1 - j) = b + (b + m) - 1 - (b + j) by omega,show b + (m - 1 - i) = b + (b + m) - 1 - (b + i) by omega] at this
   exact this
  obtain ⟨k1,k2,k3⟩:=kp hS
  dsimp only
  by_cases ce : e > 0
  ·rw [if_pos ce]
   refine wpS_bind (J3A ?_)
   have h3 : StR st (setArr st' (mirror (arrOf st') (b + m - (e + 1)) (b + m) ((b + m - (b + m - (e + 1))) / 2))) b (b + n1):=hS.trans (StR.mir (by omega) (by omega) (by omega))
   exact rest _ h3 fun i j hij hj=>by
    show κ.kle (KK κ (mirror (arrOf st') _ _ _) (b + j)) (KK κ (mirror (arrOf st') _ _ _) (b + i))
    rw [J2H (by omega) eq,J2H (by omega) eq]
    exact d i j hij hj
  ·rw [if_neg ce]
   exact rest st' hS d
theorem J6I {b n1 : Nat} {st : SortSt} {Q : Option Nat → SortSt → Prop} (hO : κ.OneLt) (hk : kindOf st = oneType') (ka : ∀ x ∈ (arrOf st).toList,Kd κ x) (hb : b + n1 ≤ (arrOf st).size) (h1 : 1 ≤ n1)
  (q : ∀ m st',StR st st' b (b + n1) → 1 ≤ m → m ≤ n1 → Up κ (arrOf st') b m → Q (some m) st') : wpS (model prog w) A E s (countRun' b n1) Q st:=by
 rw [countRun'_eq]
 refine wpS_bind (wpS_mono (wpS_forRange (I:=fun x c st'=>st' = st ∧ c = (none,x) ∧ Up κ (arrOf st) b x) (Q:=fun c st'=>st' = st ∧ ∃ m,c = (none,m) ∧ 1 ≤ m ∧ m ≤ n1 ∧ Up κ (arrOf st) b m ∧ (m = n1 ∨ κ.klt (KK κ (arrOf st) (b + m)) (KK κ (arrOf st) (b + m - 1)))) ?_ ?_ ⟨rfl,rfl,Up.one b⟩) ?_)
 ·rintro x c st' hx1 hx2 ⟨rfl,rfl,ux⟩
  dsimp only
  refine wpS_bind (J2f hO hk ka (by omega) (by omega) ?_)
  dsimp only
  cases hl : κ.blt (KK κ (arrOf st') (b + x)) (KK κ (arrOf st') (b + x - 1))
  ·rw [if_neg Bool.false_ne_true]
   exact wpS_pure ⟨rfl,rfl,ux.more (by omega) hl⟩
  ·rw [if_pos rfl]
   exact wpS_pure ⟨rfl,x,rfl,hx1,by omega,ux,.inr hl⟩
 ·rintro c st' ⟨rfl,rfl,ux⟩
  rw [show max 1 n1 = n1 by omega] at ux ⊢
  exact ⟨rfl,n1,rfl,h1,Nat.le_refl _,ux,.inl rfl⟩
 ·rintro c st' ⟨rfl,m,rfl,m1,m2,um,or⟩
  dsimp only
  by_cases c1 : m = n1
  ·rw [if_pos (by simpa using c1)]
   exact wpS_pure (q m st' (StR.refl _ _ _) m1 m2 um)
  ·rw [if_neg (by simpa using c1)]
   have hl : κ.klt (KK κ (arrOf st') (b + m)) (KK κ (arrOf st') (b + m - 1)):=or.resolve_left c1
   by_cases c2 : m > 1
   ·rw [if_pos c2]
    refine wpS_bind (J2f hO hk ka (by omega) (by omega) ?_)
    dsimp only
    cases hr : κ.blt (KK κ (arrOf st') b) (KK κ (arrOf st') (b + m - 1))
    ·rw [if_neg Bool.false_ne_true]
     refine wpS_bind (J3A ?_)
     have fl : ∀ k,b ≤ k → k < b + m → KK κ (arrOf st') k = KK κ (arrOf st') (b + m - 1):=fun k a1 a2=>by
      have x1:=um 0 (k - b) (by omega) (by omega)
      have x2:=um (k - b) (m - 1) (by omega) (by omega)
      rw [show b + (k - b) = k by omega] at x1 x2
      rw [show b + (m - 1) = b + m - 1 by omega] at x2
      exact KeyOrd.kle_antisymm x2 (KeyOrd.kle_trans (show κ.kle (KK κ (arrOf st') (b + m - 1)) (KK κ (arrOf st') b) from hr) x1)
     have h3 : StR st' (setArr st' (mirror (arrOf st') b (b + m) ((b + m - b) / 2))) b (b + n1):=StR.mir (Nat.le_refl _) (by omega) (by omega)
     show wpS _ _ _ _ (goDn b m n1) Q _
     refine J6O hO (h3.k.trans hk) (fun x hx=>ka x (h3.perm.subset hx)) (by rw [h3.size]; exact hb) (by omega) (fun i j hij hj=>?_) fun m' st2 a1 a2 a3 a4=>q m' st2 (h3.trans a1) a2 a3 a4
     show κ.kle (KK κ (mirror (arrOf st') _ _ _) (b + j)) (KK κ (mirror (arrOf st') _ _ _) (b + i))
     rw [J2H (by omega) fl,J2H (by omega) fl]
     by_cases cj : j < m
     ·rw [fl (b + i) (by omega) (by omega),fl (b + j) (by omega) (by omega)]
      exact KeyOrd.kle_refl _
     ·have ej : j = m:=by omega
      subst ej
      by_cases ci : i = j
      ·rw [ci]; exact KeyOrd.kle_refl _
      ·rw [fl (b + i) (by omega) (by omega)]
       exact KeyOrd.kle_of_klt hl
    ·rw [if_pos rfl]
     exact wpS_pure (q m st' (StR.refl _ _ _) m1 m2 um)
   ·rw [if_neg c2]
    have em : m = 1:=by omega
    subst em
    show wpS _ _ _ _ (goDn b 1 n1) Q _
    refine J6O hO hk ka hb (by omega) (fun i j hij hj=>?_) q
    by_cases ci : i = j
    ·rw [ci]; exact KeyOrd.kle_refl _
    ·rw [show i = 0 by omega,show j = 1 by omega]
     exact KeyOrd.kle_of_klt hl
end
section
variable {prog : Program} {w : World} {A : Around} {E : Value → Shared → Prop} {s : Shared} {κ : PyProof.Rows.KeyKind}
theorem StR.bub {st : SortSt} {l r i d : Nat} (h1 : l ≤ i - d) (h2 : i < r) (hi : i < (arrOf st).size) (hd : d ≤ i) : StR st (setArr st (bubble (arrOf st) i d)) l r :=
 ⟨rfl,rfl,rfl,Array.perm_iff_toList_perm.mp (bubble_perm _ _ _),fun k hk=>by
  show (bubble (arrOf st) i d)[k]? = _
  rw [getElem?_bubble hi d hd,if_neg (by omega),if_neg (by omega)]⟩
theorem J8N {b n ok : Nat} {st : SortSt} {Q : Bool → SortSt → Prop} (hO : κ.OneLt) (hk : kindOf st = oneType') (ka : ∀ x ∈ (arrOf st).toList,Kd κ x) (hb : b + n ≤ (arrOf st).size) (h0 : 1 ≤ ok) (h1 : ok ≤ n) (u : Up κ (arrOf st) b ok)
  (q : ∀ st',StR st st' b (b + n) → Up κ (arrOf st') b n → Q true st') : wpS (model prog w) A E s (binarySort' b n ok) Q st:=by
 rw [binarySort'_eq,show max ok 1 = ok by omega]
 refine wpS_bind (wpS_mono (wpS_forRange (I:=fun k c st'=>c = (none,()) ∧ StR st st' b (b + n) ∧ Up κ (arrOf st') b k) (Q:=fun c st'=>c = (none,()) ∧ StR st st' b (b + n) ∧ Up κ (arrOf st') b n) ?_ ?_ ⟨rfl,StR.refl _ _ _,u⟩) ?_)
 ·rintro k c st' hk1 hk2 ⟨rfl,hS,uk⟩
  have k1 : kindOf st' = oneType':=hS.k.trans hk
  have k2 : ∀ x ∈ (arrOf st').toList,Kd κ x:=fun x hx=>ka x (hS.perm.subset hx)
  have k3:=hS.size
  refine wpS_bind (wpS_mono (wpS_forRange
   (I:=fun x c st2=>st2 = st' ∧ ∃ l r,c = (none,l,r) ∧ l ≤ r ∧ r ≤ k ∧ r - l ≤ k - x ∧ (∀ i,i < l → κ.kle (KK κ (arrOf st') (b + i)) (KK κ (arrOf st') (b + k))) ∧ ∀ i,r ≤ i → i < k → κ.klt (KK κ (arrOf st') (b + k)) (KK κ (arrOf st') (b + i)))
   (Q:=fun c st2=>st2 = st' ∧ ∃ l r,c = (none,l,r) ∧ l ≤ k ∧ (∀ i,i < l → κ.kle (KK κ (arrOf st') (b + i)) (KK κ (arrOf st') (b + k))) ∧ ∀ i,l ≤ i → i < k → κ.klt (KK κ (arrOf st') (b + k)) (KK κ (arrOf st') (b + i))) ?_ ?_ ⟨rfl,0,k,rfl,by omega,by omega,by omega,fun i hi=>by omega,fun i a1 a2=>by omega⟩) ?_)
  ·rintro x c st2 _ hx ⟨rfl,l,r,rfl,a1,a2,a3,a4,a5⟩
   dsimp only
   by_cases cg : l ≥ r
   ·rw [if_pos cg]
    have e : l = r:=by omega
    subst e
    exact wpS_pure ⟨rfl,l,l,rfl,a2,a4,a5⟩
   ·rw [if_neg cg]
    refine wpS_bind (J2f hO k1 k2 (by omega) (by omega) ?_)
    dsimp only
    cases hl : κ.blt (KK κ (arrOf st2) (b + k)) (KK κ (arrOf st2) (b + (l + r) / 2))
    ·rw [if_neg Bool.false_ne_true]
     exact wpS_pure ⟨rfl,_,r,rfl,by omega,by omega,by omega,fun i hi=>KeyOrd.kle_trans (uk i ((l + r) / 2) (by omega) (by omega)) hl,a5⟩
    ·rw [if_pos rfl]
     exact wpS_pure ⟨rfl,l,_,rfl,by omega,by omega,by omega,a4,fun i b1 b2=>KeyOrd.klt_of_klt_of_kle hl (uk _ i b1 b2)⟩
  ·rintro c st2 ⟨rfl,l,r,rfl,a1,a2,a3,a4,a5⟩
   have e : l = r:=by omega
   subst e
   exact ⟨rfl,l,l,rfl,a2,a4,a5⟩
  ·rintro c st2 ⟨rfl,l,r,rfl,a2,a4,a5⟩
   show wpS _ _ _ _ (moveDown' (b + k) (b + l) >>= fun _=>pure (ForInStep.yield (none,()))) _ _
   rw [moveDown'_eq]
   have hsz : b + k < (arrOf st2).size:=by omega
   have ed : b + k - (b + l) = k - l:=by omega
   rw [ed]
   refine wpS_bind (wpS_modify (wpS_pure ⟨rfl,hS.trans (StR.bub (by omega) (by omega) hsz (by omega)),fun i j hij hj=>?_⟩))
   have kb : ∀ z,KK κ (bubble (arrOf st2) (b + k) (k - l)) (b + z) = if z = l then KK κ (arrOf st2) (b + k) else if l < z ∧ z ≤ k then KK κ (arrOf st2) (b + (z - 1)) else KK κ (arrOf st2) (b + z):=fun z=>by
    rw [KK_bubble hsz (by omega)]
    by_cases c1 : z = l
    ·rw [if_pos c1,if_pos (by omega)]
    ·rw [if_neg c1,if_neg (by omega)]
     by_cases c2 : l < z ∧ z ≤ k
     ·rw [if_pos c2,if_pos (by omega),show b + z - 1 = b + (z - 1) by omega]
     ·rw [if_neg c2,if_neg (by omega)]
   show κ.kle (KK κ (bubble (arrOf st2) (b + k) (k - l)) (b + i)) (KK κ (bubble (arrOf st2) (b + k) (k - l)) (b + j))
   rw [kb,kb]
   repeat' split
   all_goals first
    | (exfalso; omega)
    | exact KeyOrd.kle_refl _
    | exact a4 _ (by omega)
    | exact KeyOrd.kle_of_klt (a5 _ (by omega) (by omega))
    | exact uk _ _ (by omega) (by omega)
 ·rintro c st' ⟨rfl,hS,uk⟩
  rw [show max ok n = n by omega] at uk
  exact ⟨rfl,hS,uk⟩
 ·rintro c st' ⟨rfl,hS,uk⟩
  exact wpS_pure (q st' hS uk)
noncomputable def J02 (κ : PyProof.Rows.KeyKind) (L : List Keyed) : List (Nat × Nat × Nat) → Nat → Nat → Prop
 | [],a,b=>a = b
 | (u,n,_) :: r,a,b=>u = a ∧ 1 ≤ n ∧ (seg L u n).Pairwise (leKy κ) ∧ J02 κ L r (u + n) b
theorem J02.le {L : List Keyed} : ∀ {ps : List (Nat × Nat × Nat)} {a b : Nat},J02 κ L ps a b → a + ps.length ≤ b
 | [],a,b,h=>Nat.le_of_eq h
 | (u,n,p) :: r,a,b,h=>by
  have:=J02.le h.2.2.2
  have:=h.1
  have:=h.2.1
  rw [List.length_cons]
  omega
theorem J02.app {L : List Keyed} : ∀ {xs ys : List (Nat × Nat × Nat)} {a b : Nat},J02 κ L (xs ++ ys) a b → ∃ c,J02 κ L xs a c ∧ J02 κ L ys c b
 | [],ys,a,b,h=>⟨a,rfl,h⟩
 | (u,n,p) :: xs,ys,a,b,h=>by
  obtain ⟨c,h1,h2⟩:=J02.app h.2.2.2
  exact ⟨c,⟨h.1,h.2.1,h.2.2.1,h1⟩,h2⟩
theorem J02.cat {L : List Keyed} : ∀ {xs ys : List (Nat × Nat × Nat)} {a c b : Nat},J02 κ L xs a c → J02 κ L ys c b → J02 κ L (xs ++ ys) a b
 | [],ys,a,c,b,h,h2=>by
  have e : a = c:=h
  subst e
  exact h2
 | (u,n,p) :: xs,ys,a,c,b,h,h2=>⟨h.1,h.2.1,h.2.2.1,J02.cat h.2.2.2 h2⟩
theorem J8c {L L' : List Keyed} {e u n : Nat} (h : L'.take e = L.take e) (hn : u + n ≤ e) : seg L' u n = seg L u n:=by
 have key : ∀ M : List Keyed,seg M u n = ((M.take e).drop u).take n:=fun M=>by
  unfold seg
  rw [List.drop_take,List.take_take,Nat.min_eq_left (by omega)]
 rw [key,key,h]
theorem J6E {L L' : List Keyed} {e u n : Nat} (h : L'.drop e = L.drop e) (hn : e ≤ u) : seg L' u n = seg L u n:=by
 have key : ∀ M : List Keyed,M.drop u = (M.drop e).drop (u - e):=fun M=>by rw [List.drop_drop,show e + (u - e) = u by omega]
 unfold seg
 rw [key L',key L,h]
theorem J02.of {L L' : List Keyed} : ∀ {ps : List (Nat × Nat × Nat)} {a b : Nat},J02 κ L ps a b → (∀ u n,a ≤ u → u + n ≤ b → seg L' u n = seg L u n) → J02 κ L' ps a b
 | [],_,_,h,_=>h
 | (u,n,p) :: r,a,b,h,hs=>by
  have h1:=h.1
  have h2:=J02.le h.2.2.2
  exact ⟨h.1,h.2.1,by rw [hs u n (by omega) (by omega)]; exact h.2.2.1,J02.of h.2.2.2 fun u' n' a1 a2=>hs u' n' (by omega) a2⟩
structure J1g (κ : PyProof.Rows.KeyKind) (a₀ : List Keyed) (st : SortSt) (e : Nat) : Prop where
 k : kindOf st = oneType'
 f : failedOf st = none
 perm : (arrOf st).toList.Perm a₀
 po : J02 κ (arrOf st).toList (pendingOf st).toList 0 e
 le : e ≤ (arrOf st).size
theorem J4Y {α : Type} : ∀ (pre : List α) (x y z : α) (post : List α),((pre ++ x :: y :: post).set pre.length z).eraseIdx (pre.length + 1) = pre ++ z :: post
 | [],x,y,z,post=>rfl
 | p :: pre,x,y,z,post=>by
  show p :: (((pre ++ x :: y :: post).set pre.length z).eraseIdx (pre.length + 1)) = _
  rw [J4Y pre x y z post]
  rfl
theorem Jbi {α : Type} {l : List α} {i : Nat} (h : i + 1 < l.length) : ∃ pre x y post,l = pre ++ x :: y :: post ∧ pre.length = i:=by
 refine ⟨l.take i,l[i],l[i + 1],l.drop (i + 2),?_,by rw [List.length_take]; omega⟩
 rw [← List.drop_eq_getElem_cons (by omega),← List.drop_eq_getElem_cons (by omega),List.take_append_drop]
theorem J41 {a₀ : List Keyed} {e i : Nat} {st : SortSt} {Q : Bool → SortSt → Prop} (hO : κ.OneLt) (ka : ∀ x ∈ a₀,Kd κ x) (h : J1g κ a₀ st e) (hi : i + 1 < (pendingOf st).size)
  (q : ∀ st',J1g κ a₀ st' e → (pendingOf st').size + 1 = (pendingOf st).size → (arrOf st').toList.drop e = (arrOf st).toList.drop e → Q true st') : wpS (model prog w) A E s (mergeAt' i) Q st:=by
 obtain ⟨pre,⟨u,m,pw⟩,⟨v,n,pv⟩,post,el,ei⟩:=Jbi (l:=(pendingOf st).toList) (i:=i) (by rw [Array.length_toList]; exact hi)
 have po:=h.po
 rw [el] at po
 obtain ⟨c,p1,p2⟩:=po.app
 obtain ⟨e1,m1,s1,e2,n1,s2,p3⟩:=p2
 subst e1
 have e2' : v = u + m:=e2
 subst e2'
 have le3:=p3.le
 have gl : ∀ j x,(pendingOf st).toList[j]? = some x → (pendingOf st)[j]? = some x:=fun j x hx=>by rwa [Array.getElem?_toList] at hx
 have le:=h.le
 refine J6L hO h.k h.f (fun x hx=>ka x (h.perm.subset hx)) (u:=u) (m:=m) (n:=n) (pw:=pw) (pv:=pv) (gl _ _ ?_) (gl _ _ ?_) m1 n1 (by omega) s1 s2 fun st' k1 k2 k3 ma=>?_
 ·rw [el,← ei,List.getElem?_append_right (Nat.le_refl _),Nat.sub_self]
  rfl
 ·rw [el,← ei,List.getElem?_append_right (by omega),show pre.length + 1 - pre.length = 1 by omega]
  rfl
 ·have tl : (pendingOf st').toList = pre ++ (u,m + n,pw) :: post:=by
   rw [k3]
   have : (((pendingOf st).setIfInBounds i (u,m + n,pw)).eraseIdxIfInBounds (i + 1)).toList = ((pendingOf st).toList.set i (u,m + n,pw)).eraseIdx (i + 1):=by simp
   rw [this,el,← ei,J4Y]
  have sz : (pendingOf st').size + 1 = (pendingOf st).size:=by
   rw [← Array.length_toList,← Array.length_toList,tl,el]
   simp
   omega
  have len : (arrOf st').size = (arrOf st).size:=by
   have:=ma.perm.length_eq
   rwa [Array.length_toList,Array.length_toList] at this
  have dr : ∀ z,u + (m + n) ≤ z → (arrOf st').toList.drop z = (arrOf st).toList.drop z:=fun z hz=>by
   have:=congrArg (List.drop (z - (u + (m + n)))) ma.post
   rwa [List.drop_drop,List.drop_drop,show u + (m + n) + (z - (u + (m + n))) = z by omega] at this
  refine q st' ⟨k1,k2,ma.perm.trans h.perm,?_,by omega⟩ sz (dr e (by omega))
  rw [tl]
  refine (p1.of fun u' n' a1 a2=>J8c ma.pre a2).cat ⟨rfl,by omega,ma.srt,?_⟩
  rw [show u + (m + n) = u + m + n by omega]
  exact p3.of fun u' n' a1 a2=>J6E (dr (u + m + n) (by omega)) a1
end
section
variable {prog : Program} {w : World} {A : Around} {E : Value → Shared → Prop} {s : Shared} {κ : PyProof.Rows.KeyKind}
theorem J02.mod {L : List Keyed} {g : Nat} : ∀ {ps : List (Nat × Nat × Nat)} {i a b : Nat},J02 κ L ps a b → J02 κ L (ps.modify i fun x=>(x.fst,x.2.fst,g)) a b
 | [],i,a,b,h=>by cases i <;> exact h
 | (u,n,p) :: r,0,a,b,h=>h
 | (u,n,p) :: r,i + 1,a,b,h=>⟨h.1,h.2.1,h.2.2.1,J02.mod h.2.2.2⟩
theorem J1g.push {a₀ : List Keyed} {st : SortSt} {lo n : Nat} (S : J1g κ a₀ st lo) (h1 : 1 ≤ n) (h2 : lo + n ≤ (arrOf st).size) (h3 : (seg (arrOf st).toList lo n).Pairwise (leKy κ)) : J1g κ a₀ (setPending st ((pendingOf st).push (lo,n,0))) (lo + n) :=
 ⟨S.k,S.f,S.perm,by
  show J02 κ (arrOf st).toList ((pendingOf st).push (lo,n,0)).toList 0 (lo + n)
  rw [Array.toList_push]
  exact S.po.cat ⟨rfl,h1,h3,rfl⟩,h2⟩
theorem StR.runs {a₀ : List Keyed} {st st' : SortSt} {lo r : Nat} (S : J1g κ a₀ st lo) (h : StR st st' lo r) : J1g κ a₀ st' lo:=by
 refine ⟨h.k.trans S.k,h.f.trans S.f,h.perm.trans S.perm,?_,by rw [h.size]; exact S.le⟩
 rw [h.p]
 have e : (arrOf st').toList.take lo = (arrOf st).toList.take lo:=by
  refine List.ext_getElem? fun j=>?_
  rw [List.getElem?_take,List.getElem?_take]
  split
  ·rw [Array.getElem?_toList,Array.getElem?_toList]
   exact h.out j (.inl (by assumption))
  ·rfl
 exact S.po.of fun u n _ hn=>J8c e hn
theorem J7a {st : SortSt} {Q : Unit → SortSt → Prop} (hO : κ.OneLt) (ka : ∀ x ∈ (arrOf st).toList,Kd κ x) (hk : kindOf st = oneType') (hf : failedOf st = none) (hp : pendingOf st = #[]) (h2 : 2 ≤ (arrOf st).size)
  (q : ∀ st',(arrOf st').toList.Perm (arrOf st).toList → failedOf st' = none → (arrOf st').toList.Pairwise (leKy κ) → Q () st') : wpS (model prog w) A E s sortRuns' Q st:=by
 rw [sortRuns'_eq]
 refine wpS_bind (wpS_get ?_)
 dsimp only
 have S0 : J1g κ (arrOf st).toList st 0:=⟨hk,hf,List.Perm.refl _,by rw [hp]; rfl,Nat.zero_le _⟩
 obtain ⟨size,es⟩ : ∃ z,z = (arrOf st).size:=⟨_,rfl⟩
 rw [← es] at h2 ⊢
 have sz : ∀ {st' e},J1g κ (arrOf st).toList st' e → (arrOf st').size = size:=fun h=>by
  have:=h.perm.length_eq
  rwa [Array.length_toList,Array.length_toList,← es] at this
 refine wpS_bind (wpS_mono (wpS_forRange (I:=fun x c st'=>∃ lo,c = (none,lo) ∧ J1g κ (arrOf st).toList st' lo ∧ x ≤ lo) (Q:=fun c st'=>∃ lo,c = (none,lo) ∧ J1g κ (arrOf st).toList st' size) ?step ?fin ⟨0,rfl,S0,Nat.le_refl _⟩) ?post)
 case fin =>
  rintro c st' ⟨lo,rfl,S,hl⟩
  have:=S.le
  rw [sz S] at this
  have e : lo = size:=by omega
  subst e
  exact ⟨_,rfl,S⟩
 case step =>
  rintro x c st' _ hx ⟨lo,rfl,S,hl⟩
  dsimp only
  have sl:=S.le
  have zz:=sz S
  have ka' : ∀ x ∈ (arrOf st').toList,Kd κ x:=fun x hx=>ka x (S.perm.subset hx)
  by_cases cl : lo ≥ size
  ·rw [if_pos cl]
   have e : lo = size:=by omega
   subst e
   exact wpS_pure ⟨_,rfl,S⟩
  rw [if_neg cl]
  refine wpS_bind (J6I hO S.k ka' (by omega) (by omega) fun m st2 R2 m1 m2 u2=>?_)
  dsimp only
  have S2:=R2.runs S
  have z2:=R2.size
  by_cases cm : m < minRun' size size 0
  case' pos =>
   rw [if_pos cm]
   refine wpS_bind (wpS_lift (wpAny_rule ⟨rfl,?_⟩))
   refine wpS_bind (J8N hO S2.k (fun x hx=>ka x (S2.perm.subset hx)) (by omega) m1 (by omega) u2 fun st3 R3 u3=>?_)
   rw [if_neg (by decide)]
   have S3:=R3.runs S2
   have h1 : 1 ≤ min (size - lo) (minRun' size size 0):=by omega
   have h2 : lo + min (size - lo) (minRun' size size 0) ≤ (arrOf st3).size:=by rw [R3.size]; omega
   have h3:=u3.seg
   clear R3 u3 cm
   generalize min (size - lo) (minRun' size size 0) = n at h1 h2 h3 ⊢
  case' neg =>
   rw [if_neg cm]
   have S3:=S2
   have h1:=m1
   have h2 : lo + m ≤ (arrOf st2).size:=by omega
   have h3:=u2.seg
   clear u2 R2 S2 cm
   generalize st2 = st3 at S3 h2 h3 ⊢
   generalize m = n at h1 h2 h3 ⊢
  all_goals
    refine wpS_bind (wpS_get ?_)
    cases hb : (pendingOf st3).back? with
    | none=>exact wpS_bind (wpS_modify (wpS_pure ⟨_,rfl,S3.push h1 h2 h3,by omega⟩))
    | some z =>
     obtain ⟨s1,n1,p1⟩:=z
     dsimp only
     have keep : ∀ {st'},J1g κ (arrOf st).toList st' lo → (arrOf st').toList.drop lo = (arrOf st3).toList.drop lo → lo + n ≤ (arrOf st').size ∧ (seg (arrOf st').toList lo n).Pairwise (leKy κ):=fun {st'} S' e=>by
      have l1:=S'.perm.length_eq
      have l2:=S3.perm.length_eq
      rw [Array.length_toList] at l1 l2
      exact ⟨by omega,by rw [J6E e (Nat.le_refl _)]; exact h3⟩
     refine wpS_bind (wpS_mono (wpS_forRange (I:=fun _ c st'=>c = (none,()) ∧ J1g κ (arrOf st).toList st' lo ∧ (arrOf st').toList.drop lo = (arrOf st3).toList.drop lo) (Q:=fun c st'=>c = (none,()) ∧ J1g κ (arrOf st).toList st' lo ∧ (arrOf st').toList.drop lo = (arrOf st3).toList.drop lo) ?_ (fun c st' h=>h) ⟨rfl,S3,rfl⟩) ?_)
     ·rintro x c st' _ _ ⟨rfl,S',e'⟩
      refine wpS_bind (wpS_get ?_)
      by_cases c1 : (pendingOf st').size > 1
      ·rw [if_pos c1]
       cases hg : (pendingOf st')[(pendingOf st').size - 2]? with
       | none=>exact wpS_pure ⟨rfl,S',e'⟩
       | some y =>
        obtain ⟨y1,y2,y3⟩:=y
        dsimp only
        split
        ·exact wpS_pure ⟨rfl,S',e'⟩
        ·refine wpS_bind (J41 hO ka S' (by omega) fun st2 S2 _ d2=>?_)
         rw [if_neg (by decide)]
         exact wpS_pure ⟨rfl,S2,d2.trans e'⟩
      ·rw [if_neg c1]
       exact wpS_pure ⟨rfl,S',e'⟩
     ·rintro c st' ⟨rfl,S',e'⟩
      obtain ⟨k1,k2⟩:=keep S' e'
      dsimp only
      refine wpS_bind (wpS_modify (wpS_bind (wpS_modify (wpS_pure ⟨_,rfl,?_,by omega⟩))))
      have S2 : J1g κ (arrOf st).toList (setPending st' ((pendingOf st').modify ((pendingOf st').size - 1) fun x=>(x.fst,x.2.fst,power' size (2 * s1 + n1) (2 * s1 + n1 + n1 + n) size))) lo:=⟨S'.k,S'.f,S'.perm,by
       show J02 κ (arrOf st').toList ((pendingOf st').modify _ _).toList 0 lo
       rw [Array.toList_modify]
       exact S'.po.mod,S'.le⟩
      exact S2.push h1 k1 k2
 case post =>
  rintro c st' ⟨lo,rfl,S⟩
  dsimp only
  have p1:=S.po.le
  rw [Array.length_toList] at p1
  refine wpS_bind (wpS_mono (wpS_forRange (I:=fun x c st'=>c = (none,()) ∧ J1g κ (arrOf st).toList st' size ∧ ((pendingOf st').size + x ≤ size ∨ (pendingOf st').size ≤ 1)) (Q:=fun c st'=>c = (none,()) ∧ J1g κ (arrOf st).toList st' size ∧ (pendingOf st').size ≤ 1) ?_ ?_ ⟨rfl,S,.inl (by omega)⟩) ?_)
  ·rintro x c st2 _ hx ⟨rfl,S2,hs⟩
   refine wpS_bind (wpS_get ?_)
   by_cases c1 : (pendingOf st2).size ≤ 1
   ·rw [if_pos c1]
    exact wpS_pure ⟨rfl,S2,c1⟩
   ·rw [if_neg c1]
    refine wpS_bind (J41 hO ka S2 ?_ fun st3 S3 z3 _=>?_)
    ·have hle : ∀ (c : Prop) [Decidable c],(if c then (pendingOf st2).size - 2 - 1 else (pendingOf st2).size - 2) ≤ (pendingOf st2).size - 2:=fun c _=>by split <;> omega
     exact Nat.lt_of_le_of_lt (Nat.succ_le_succ (hle _)) (by omega)
    ·rw [if_neg (by decide)]
     exact wpS_pure ⟨rfl,S3,by omega⟩
  ·rintro c st2 ⟨rfl,S2,hs⟩
   exact ⟨rfl,S2,by omega⟩
  ·rintro c st2 ⟨rfl,S2,hs⟩
   refine wpS_pure (q st2 S2.perm S2.f ?_)
   have po:=S2.po
   have zz:=sz S2
   cases hl : (pendingOf st2).toList with
   | nil =>
    rw [hl] at po
    have : 0 = size:=po
    omega
   | cons y r =>
    have : r = []:=by
     have e:=congrArg List.length hl
     rw [Array.length_toList,List.length_cons] at e
     exact List.length_eq_zero_iff.mp (by omega)
    subst this
    obtain ⟨u,n,p⟩:=y
    rw [hl] at po
    obtain ⟨e1,_,e2,e3⟩:=po
    subst e1
    have e3' : 0 + n = size:=e3
    have en : n = (arrOf st2).toList.length:=by rw [Array.length_toList]; omega
    unfold seg at e2
    rw [en,List.drop_zero,List.take_length] at e2
    exact e2
end
section
variable {prog : Program} {w : World} {A : Around} {E : Value → Shared → Prop} {s : Shared} {κ : PyProof.Rows.KeyKind}
theorem J4J (hO : κ.OneLt) {l : Addr} {us : List Value} {z : Nat} {F : Fin → Shared → Prop} (hl : s.heap.get? l = some (seqObj "list" us.toArray z)) (ks : KeysOf κ (pairsOf us))
  (one : ∀ x y r,us = x :: y :: r → keyKind' (x :: y :: r).toArray = pure oneType') (few : us.length ≤ 100000)
  (q : ∀ xs : Array Keyed,xs.Perm (pairsOf us) → xs.toList.Pairwise (leKy κ) → F (.done (.ret .none)) { s with heap:=sortedHeap s.heap l us (xs.map (·.2)) }) :
  wpAny (model prog w) A (Builtin.«list.sort» ⟨[.ref l],[]⟩) F E s:=by
 have lt : l < s.heap.objs.size:=Heap.lt_size hl
 have big : (100000 : Nat) ≤ sizeLine:=by decide
 obtain ⟨y1,hl1⟩ : ∃ y1,(s.heap.update l (Obj.mapSeq fun _=>#[])).get? l = some (seqObj "list" #[] y1):=⟨_,get?_update_seq hl fun _=>#[]⟩
 have hl2 : (((s.heap.update l (Obj.mapSeq fun _=>#[])).push (seqObj "tuple" us.toArray 0)).push (seqObj "list" #[] 0)).get? l = some (seqObj "list" #[] y1):=by
  have n1 : l ≠ (s.heap.update l (Obj.mapSeq fun _=>#[])).objs.size:=by rw [Heap.size_update]; exact Nat.ne_of_lt lt
  have n2 : l ≠ ((s.heap.update l (Obj.mapSeq fun _=>#[])).push (seqObj "tuple" us.toArray 0)).objs.size:=by rw [size_push',Heap.size_update]; exact Nat.ne_of_lt (Nat.lt_succ_of_lt lt)
  rw [Heap.get?_push_ne _ _ _ n2,Heap.get?_push_ne _ _ _ n1,hl1]
 rw [list_sort_plain]
 refine wpAny_bind (listItems_at hl rfl (wpAny_bind (listUpdate_at hl rfl (wpAny_bind (seqEpoch_at hl1 rfl (wpAny_bind (wpAny_newTuple (wpAny_bind (wpAny_newList (wpAny_holding ?_))))))))))
 dsimp only
 show wpAny (model prog w) A _ F E { s with heap:=((s.heap.update l (Obj.mapSeq fun _=>#[])).push (seqObj "tuple" us.toArray 0)).push (seqObj "list" #[] 0) }
 by_cases c : us.toArray.size < 2
 ·have c' : us.length < 2:=by simpa using c
  rw [if_pos c,if_pos c]
  refine wpAny_bind (wpAny_pure ?_)
  rw [StateT.run_pure]
  refine wpAny_bind (wpAny_pure (wpAny_bind (seqEpoch_at hl2 rfl (wpAny_bind (listUpdate_at hl2 rfl ?_ (hsz2:=?_))))))
  ·simp only [bne_self_eq_false,Bool.false_eq_true,if_false]
   refine wpAny_pure (q (us.toArray.zip us.toArray) (Array.Perm.refl _) ?_)
   have : (us.toArray.zip us.toArray).toList.length < 2:=by rw [Array.length_toList,Array.size_zip]; omega
   match h : (us.toArray.zip us.toArray).toList,this with
   | [],_=>exact .nil
   | [x],_=>exact List.pairwise_singleton _ _
   | _ :: _ :: _,hh=>exact absurd hh (by simp only [List.length_cons]; omega)
  ·have e : (us.toArray.zip us.toArray).size = us.length:=by rw [Array.size_zip]; simp
   rw [Array.size_map]
   show (us.toArray.zip us.toArray).size ≤ _
   omega
 ·rw [if_neg c,if_neg c]
  obtain ⟨x,y,r,rfl⟩ : ∃ x y r,us = x :: y :: r:=by
   match us,c with
   | [],c=>exact absurd (by simp) c
   | [_],c=>exact absurd (by simp) c
   | x :: y :: r,_=>exact ⟨x,y,r,rfl⟩
  rw [one _ _ _ rfl]
  refine wpAny_bind (wpAny_pure ?_)
  have kd : ∀ p ∈ (arrOf (SortSt.mk' oneType' ((x :: y :: r).toArray.zip (x :: y :: r).toArray) #[] 7 none)).toList,Kd κ p:=fun p hp=>ks p hp
  have s2 : 2 ≤ (arrOf (SortSt.mk' oneType' ((x :: y :: r).toArray.zip (x :: y :: r).toArray) #[] 7 none)).size:=by
   show 2 ≤ ((x :: y :: r).toArray.zip (x :: y :: r).toArray).size
   rw [Array.size_zip]
   simp
  refine wpAny_bind (wpAny_mono (J7a (κ:=κ) (Q:=fun _ t=>(arrOf t).toList.Perm ((x :: y :: r).toArray.zip (x :: y :: r).toArray).toList ∧ failedOf t = none ∧ (arrOf t).toList.Pairwise (leKy κ)) hO kd rfl rfl rfl s2 fun t b1 b2 b3=>⟨b1,b2,b3⟩) ?_ fun _ _ h=>h)
  rintro ⟨⟨⟩,t⟩ s' ⟨rfl,b1,b2,b3⟩
  have pm : (arrOf t).Perm (pairsOf (x :: y :: r)):=Array.perm_iff_toList_perm.mpr b1
  have ps : (arrOf t).size = (x :: y :: r).length:=pm.size_eq.trans (pairsOf_size _)
  dsimp only
  refine wpAny_bind (seqEpoch_at hl2 rfl (wpAny_bind (listUpdate_at hl2 rfl ?_ (hsz2:=?_))))
  ·rw [b2]
   simp only [bne_self_eq_false,Bool.false_eq_true,if_false]
   exact wpAny_pure (q (arrOf t) pm b3)
  ·rw [Array.size_map]
   show (arrOf t).size ≤ _
   omega
end
theorem Ja4 {us : List Value} {ss : List Str} (hS : StrsAre us ss) {xs : Array Keyed} (hp : xs.Perm (pairsOf us)) (hs : xs.toList.Pairwise (leKy strKind)) :
  ∃ ss',StrsAre (xs.map (·.2)).toList ss' ∧ ss'.Perm ss ∧ sortedS ss' = true:=by
 refine sorted_out_str hS hp fun i j hij hj=>?_
 rw [← hp.size_eq] at hj
 obtain ⟨x,ex⟩:=Ju (a:=xs) (i:=i) (by omega)
 obtain ⟨y,ey⟩:=Ju (a:=xs) (i:=j) hj
 rw [J4V ex,J4V ey]
 exact J29 hs hij (Jh ex) (Jh ey)
section
variable {X : Cx}
theorem J4G (hc : X.calm = true) : J1i X (.builtin "sorted") (fun xs H Q=>∃ (a : Addr) (kvs : List (Key × V)) (ss : List Str),xs = [.ref a] ∧ H a = some (.dK kvs) ∧ kvs.map (·.1) = ss.map Sum.inr ∧ ss.length ≤ 100000 ∧ ∀ D ss',H D = none → ss'.Perm ss → sortedS ss' = true → Q (.ref D) (upd H D (.lst (ss'.map V.str)))):=by
 intro pins s σ H xs us Q I r h
 obtain ⟨a,kvs,ss,rfl,ha,hk,hl,q⟩:=h
 obtain ⟨u,rfl,ru⟩:=J6x r
 cases ru
 obtain ⟨z,hsm,vs,kv,hd⟩:=J9U I.hok ha
 have hkl:=kv.length
 have hkk:=kv.keys
 have hsl : kvs.length = ss.length:=by have:=congrArg List.length hk; simpa using this
 have big : (100000 : Nat) ≤ sizeLine:=by decide
 refine Calls.call_function_entry kind_sorted plain_sorted entry_sorted (args_sorted1 _) ?_
 unfold Builtin.«sorted»
 refine wpAny_bind (m:=checkCount "sorted" 1 1 _) (wpAny_pure ?_)
 refine wpAny_bind (J5X (I.ok.hd hc) hsm hd (by omega) fun s1 acc keep g1 d1 o1 hz1 items=>?_)
 obtain ⟨h1,gg,dd,tk,oo⟩:=s1
 simp only at keep g1 d1 o1
 subst g1 d1 o1
 have hS : StrsAre acc.toList ss:=by
  refine J3n (by rw [Array.length_toList,items.1]; omega) fun i v hv=>?_
  obtain ⟨k,x,e1,e2⟩:=items.2 i v (by simpa using hv)
  have e3 : (ss.map (Sum.inr : Str → Key))[i]? = some k:=by rw [← hk,hkk,List.getElem?_map,e1]; rfl
  rw [List.getElem?_map] at e3
  cases hs : ss[i]? with
  | none=>rw [hs] at e3; cases e3
  | some y =>
   rw [hs] at e3
   cases e3
   obtain ⟨t,e⟩:=Value.isStrOf_shape (x:=y) (v:=v) e2
   exact ⟨y,t,rfl,e⟩
 refine wpAny_bind (wpAny_newList ?_)
 have hoL : (h1.push (seqObj "list" acc.toList.toArray 0)).get? h1.objs.size = some (seqObj "list" acc.toList.toArray 0):=Heap.get?_push_size _ rfl
 show wpAny _ _ _ _ _ (⟨h1.push (seqObj "list" acc.toList.toArray 0),s.gens,s.drawn,tk,s.os⟩ : Shared)
 have hal : acc.toList.length ≤ 100000:=by rw [Array.length_toList,items.1]; omega
 refine wpAny_bind (wpAny_holding (wpAny_call_entry slot_list_sort ⟨_,hoL,rfl⟩ entry_list_sort (J4J strKind_oneLt hoL hS.keysOf (fun v₁ v₂ rest e=>keyKind_strs (by rw [← e]; exact hS)) hal fun arr a1 a2=>⟨_,rfl,?_⟩) (args_list_sort _)))
 refine wpAny_pure ⟨_,rfl,?_⟩
 obtain ⟨ss',b1,b2,b3⟩:=Ja4 hS a1 a2
 obtain ⟨e,he⟩:=sortedHeap_at (out:=arr.map (·.2)) hoL
 have hsz : s.heap.objs.size ≤ h1.objs.size:=Nat.le_of_lt hz1
 have hfr : H h1.objs.size = none:=I.hok.fresh hsz
 refine ⟨.ref h1.objs.size,_,I.laid (o:=.lst (ss'.map V.str)) (t':=tk) (fun b o eb=>?_) hsz ⟨?_,(arr.map (·.2)).toList,e,J5c b1,?_⟩,rfl,q _ ss' hfr b2 b3⟩
 ·have hlt:=Heap.lt_size (keep b o eb)
  show (sortedHeap (h1.push (seqObj "list" acc.toList.toArray 0)) h1.objs.size acc.toList (arr.map (·.2))).get? b = some o
  rw [sortedHeap_old (Nat.ne_of_lt hlt) (by rw [size_push']; exact Nat.lt_succ_of_lt hlt)]
  exact Heap.get?_push_of_some _ (keep b o eb)
 ·rw [List.length_map,b2.length_eq]
  omega
 ·rw [Array.toArray_toList]
  exact he
end
end L2
set_option linter.all false
set_option maxRecDepth 100000
set_option maxHeartbeats 4000000
namespace L2
open PySem PySem.Spec PyProof.Rows
section
variable {X : Cx}
noncomputable def rGeS : R2:=fun x y H Q=>∃ a b : List Nat,x = T a ∧ y = T b ∧ Q (.bl (!decide (a < b))) H
theorem Jbq : OpR X (compareOp .GtE) rGeS:=by
 intro pins s σ H x y v u Q I rx ry h
 obtain ⟨a,b,rfl,rfl,q⟩:=h
 obtain ⟨t,rfl⟩:=rx
 obtain ⟨t',rfl⟩:=ry
 exact P.ge_str (JA I q rfl)
end
end L2
set_option maxHeartbeats 4000000
namespace K11
open PySem L2
noncomputable def top (i : Nat) : Stmt:=PySem.Challenge.pw_rotafair_k11_tails_or_a_row.main.body.getD i (.Pass ⟨0,0,0,0⟩)
noncomputable abbrev J35 : Stmt:=top 5
noncomputable abbrev J0r : Stmt:=top 6
noncomputable abbrev J1A : Stmt:=top 7
noncomputable abbrev JW : Stmt:=top 8
noncomputable abbrev J0x : Stmt:=JP (top 10) 0
noncomputable abbrev J0b : Stmt:=JP (top 10) 1
noncomputable abbrev J0l : Stmt:=JP (top 10) 2
noncomputable abbrev J0R : Stmt:=JP (top 11) 0
noncomputable abbrev J0B : Stmt:=JP (top 11) 1
noncomputable abbrev J13 : Stmt:=JP (top 11) 2
noncomputable abbrev J0z : Stmt:=JP (top 12) 0
noncomputable abbrev J08 : Stmt:=JP (top 12) 1
noncomputable abbrev J0O : Stmt:=JP (top 12) 2
noncomputable abbrev J0U : Stmt:=JP (top 13) 0
noncomputable abbrev J0s : Stmt:=JP (top 13) 1
noncomputable abbrev J15 : Stmt:=JP (top 13) 2
noncomputable abbrev J07 : Stmt:=JP (top 14) 0
noncomputable abbrev J00 : Stmt:=JP (top 14) 1
noncomputable abbrev J0u : Stmt:=JP (top 14) 2
noncomputable abbrev J14 : Stmt:=JP (top 15) 0
noncomputable abbrev J0T : Stmt:=JP (top 15) 1
noncomputable abbrev J1w : Stmt:=JP (top 15) 2
noncomputable abbrev J09 : Stmt:=top 23
noncomputable abbrev JV : Stmt:=top 20
noncomputable abbrev JD : Stmt:=top 21
noncomputable abbrev J2a : Stmt:=top 19
noncomputable abbrev J0M : Stmt:=top 16
noncomputable abbrev J0V : Stmt:=top 24
noncomputable abbrev J0S : Stmt:=top 25
noncomputable abbrev J16 : Stmt:=top 26
noncomputable abbrev J0W : Stmt:=top 27
noncomputable abbrev J0Q : Stmt:=top 28
noncomputable abbrev J17 : Stmt:=top 29
noncomputable abbrev J0X : Stmt:=top 30
noncomputable abbrev J0w : Stmt:=top 31
noncomputable abbrev J0h : Stmt:=top 32
noncomputable abbrev J20 : Stmt:=top 33
theorem Ja7 : Jm ["sign","mark"] ["sign","mark"] (J6 J35):=⟨rfl,rfl,rfl,by decide +kernel,rfl,by decide +kernel,by decide +kernel⟩
theorem J4w : Jm ["marks","many"] ["marks","many"] (J6 J0r):=⟨rfl,rfl,rfl,by decide +kernel,rfl,by decide +kernel,by decide +kernel⟩
theorem J8w : Jm ["signs","mark"] ["signs","mark"] (J6 J1A):=⟨rfl,rfl,rfl,by decide +kernel,rfl,by decide +kernel,by decide +kernel⟩
theorem J3P : Jm ["signs","marks"] ["signs","marks"] (J6 JW):=⟨rfl,rfl,rfl,by decide +kernel,rfl,by decide +kernel,by decide +kernel⟩
theorem J4y : Jm ["self","word"] ["self","word"] (J6 J0x):=⟨rfl,rfl,rfl,by decide +kernel,rfl,by decide +kernel,by decide +kernel⟩
theorem J3R : Jm ["self"] ["self"] (J6 J0b):=⟨rfl,rfl,rfl,by decide +kernel,rfl,by decide +kernel,by decide +kernel⟩
theorem J2E : Jm ["self","marks","nearest"] ["self","marks"] (J6 J0l):=⟨rfl,rfl,rfl,by decide +kernel,rfl,by decide +kernel,by decide +kernel⟩
theorem J5v : Jm ["self","many","marks","days"] ["self","many","marks","days"] (J6 J0R):=⟨rfl,rfl,rfl,by decide +kernel,rfl,by decide +kernel,by decide +kernel⟩
theorem J4D : Jm ["self"] ["self"] (J6 J0B):=⟨rfl,rfl,rfl,by decide +kernel,rfl,by decide +kernel,by decide +kernel⟩
theorem J6m : Jm ["self","marks"] ["self","marks"] (J6 J13):=⟨rfl,rfl,rfl,by decide +kernel,rfl,by decide +kernel,by decide +kernel⟩
theorem J4A : Jm ["self","many","marks","days"] ["self","many","marks","days"] (J6 J0z):=⟨rfl,rfl,rfl,by decide +kernel,rfl,by decide +kernel,by decide +kernel⟩
theorem J3K : Jm ["self"] ["self"] (J6 J08):=⟨rfl,rfl,rfl,by decide +kernel,rfl,by decide +kernel,by decide +kernel⟩
theorem J5w : Jm ["self","marks"] ["self","marks"] (J6 J0O):=⟨rfl,rfl,rfl,by decide +kernel,rfl,by decide +kernel,by decide +kernel⟩
theorem J5x : Jm ["self","left","right"] ["self","left","right"] (J6 J0U):=⟨rfl,rfl,rfl,by decide +kernel,rfl,by decide +kernel,by decide +kernel⟩
theorem J4z : Jm ["self"] ["self"] (J6 J0s):=⟨rfl,rfl,rfl,by decide +kernel,rfl,by decide +kernel,by decide +kernel⟩
theorem J67 : Jm ["self","marks"] ["self","marks"] (J6 J15):=⟨rfl,rfl,rfl,by decide +kernel,rfl,by decide +kernel,by decide +kernel⟩
theorem J3L : Jm ["self","left","right"] ["self","left","right"] (J6 J07):=⟨rfl,rfl,rfl,by decide +kernel,rfl,by decide +kernel,by decide +kernel⟩
theorem J3s : Jm ["self"] ["self"] (J6 J00):=⟨rfl,rfl,rfl,by decide +kernel,rfl,by decide +kernel,by decide +kernel⟩
theorem J4F : Jm ["self","marks"] ["self","marks"] (J6 J0u):=⟨rfl,rfl,rfl,by decide +kernel,rfl,by decide +kernel,by decide +kernel⟩
theorem J6o : Jm ["self","inner"] ["self","inner"] (J6 J14):=⟨rfl,rfl,rfl,by decide +kernel,rfl,by decide +kernel,by decide +kernel⟩
theorem J5B : Jm ["self"] ["self"] (J6 J0T):=⟨rfl,rfl,rfl,by decide +kernel,rfl,by decide +kernel,by decide +kernel⟩
theorem J7B : Jm ["self","marks"] ["self","marks"] (J6 J1w):=⟨rfl,rfl,rfl,by decide +kernel,rfl,by decide +kernel,by decide +kernel⟩
theorem J3O : Jm ["_law_script","_law_k"] ["_law_script","_law_k"] (J6 J09):=⟨rfl,rfl,rfl,by decide +kernel,rfl,by decide +kernel,by decide +kernel⟩
theorem J0Z : Jm ["rows","marks","longer","row"] ["rows","marks"] (J6 JV):=⟨rfl,rfl,rfl,by decide +kernel,rfl,by decide +kernel,by decide +kernel⟩
theorem JR : Jm ["rows","kept","tails","new","row","tail"] ["rows","kept","tails"] (J6 JD):=⟨rfl,rfl,rfl,by decide +kernel,rfl,by decide +kernel,by decide +kernel⟩
theorem J1f : Jm ["rule","other","marks","kept","tails","rows","good","row","bad"] ["rule","other","marks"] (J6 J2a):=⟨rfl,rfl,rfl,by decide +kernel,rfl,by decide +kernel,by decide +kernel⟩
theorem J6q : Jm ["rule","past","row"] ["rule","past","row"] (J6 J0M):=⟨rfl,rfl,rfl,by decide +kernel,rfl,by decide +kernel,by decide +kernel⟩
theorem J0q : Jm ["_law_cell","_law_far","_law_letters","_law_one","_law_two","_law_some"] ["_law_cell","_law_far"] (J6 J0V):=⟨rfl,rfl,rfl,by decide +kernel,rfl,by decide +kernel,by decide +kernel⟩
theorem J04 : Jm ["_law_cell","_law_marks_here","_law_far","_law_one","_law_word","_law_k","_law_signs"] ["_law_cell","_law_marks_here","_law_far"] (J6 J0S):=⟨rfl,rfl,rfl,by decide +kernel,rfl,by decide +kernel,by decide +kernel⟩
theorem J01 : Jm ["_law_cells","_law_marks_here","_law_far","_law_held","_law_cell","_law_way","_law_right","_law_left"] ["_law_cells","_law_marks_here","_law_far"] (J6 J16):=⟨rfl,rfl,rfl,by decide +kernel,rfl,by decide +kernel,by decide +kernel⟩
theorem J5t : Jm ["_law_mark","_law_word"] ["_law_mark","_law_word"] (J6 J0W):=⟨rfl,rfl,rfl,by decide +kernel,rfl,by decide +kernel,by decide +kernel⟩
theorem J0v : Jm ["_law_cell","_law_marks_here","_law_one","_law_two","_law_found","_law_word"] ["_law_cell","_law_marks_here"] (J6 J0Q):=⟨rfl,rfl,rfl,by decide +kernel,rfl,by decide +kernel,by decide +kernel⟩
theorem J0n : Jm ["_law_cell","_law_marks_here","_law_one","_law_size","_law_signs","_law_word","_law_k"] ["_law_cell","_law_marks_here"] (J6 J17):=⟨rfl,rfl,rfl,by decide +kernel,rfl,by decide +kernel,by decide +kernel⟩
theorem J1T : Jm ["_law_script","_law_rule_here","_law_marks_here","_law_far","_law_way","_law_cell"] ["_law_script","_law_rule_here","_law_marks_here","_law_far"] (J6 J0X):=⟨rfl,rfl,rfl,by decide +kernel,rfl,by decide +kernel,by decide +kernel⟩
theorem JB : Jm ["_law_tails","_law_rule_here","_law_other_here","_law_marks_here","_law_many","_law_met","_law_left","_law_here","_law_mark","_law_row","_law_behind","_law_tail","_law_k"] ["_law_tails","_law_rule_here","_law_other_here","_law_marks_here"] (J6 J0w):=⟨rfl,rfl,rfl,by decide +kernel,rfl,by decide +kernel,by decide +kernel⟩
theorem J1S : Jm ["_law_row","_law_rule_here","_law_other_here","_law_marks_here","_law_ones","_law_others"] ["_law_row","_law_rule_here","_law_other_here","_law_marks_here"] (J6 J0h):=⟨rfl,rfl,rfl,by decide +kernel,rfl,by decide +kernel,by decide +kernel⟩
theorem J0E : Jm ["_law_script","_law_far","_law_marks_here","_law_rule_here","_law_other_here","_law_cell","_law_word","_law_found","_law_again","_law_row","_law_kept"] ["_law_script"] (J6 J20):=⟨rfl,rfl,rfl,by decide +kernel,rfl,by decide +kernel,by decide +kernel⟩
structure Tx (K : PySem.W.Frag) (mg : Str → Option Value) (J5 J8 J2 J9 J1 Jc : Addr) : Prop where
 JaT : GF K mg "fits" J35
 J5o : GF K mg "last_marks" J0r
 J9c : GF K mg "let_by" J1A
 J4s : GF K mg "count_among" JW
 J5G : MF K J5 "__init__" "Never.__init__" J0x
 J4E : MF K J5 "reach" "Never.reach" J0b
 J6n : MF K J5 "bad" "Never.bad" J0l
 J6e : MF K J8 "__init__" "Most.__init__" J0R
 J5s : MF K J8 "reach" "Most.reach" J0B
 J7n : MF K J8 "bad" "Most.bad" J13
 J5z : MF K J2 "__init__" "Least.__init__" J0z
 J4B : MF K J2 "reach" "Least.reach" J08
 J66 : MF K J2 "bad" "Least.bad" J0O
 J6j : MF K J9 "__init__" "Both.__init__" J0U
 J5j : MF K J9 "reach" "Both.reach" J0s
 J7k : MF K J9 "bad" "Both.bad" J15
 J4r : MF K J1 "__init__" "Either.__init__" J07
 J3Q : MF K J1 "reach" "Either.reach" J00
 J5F : MF K J1 "bad" "Either.bad" J0u
 J7l : MF K Jc "__init__" "Not.__init__" J14
 J6v : MF K Jc "reach" "Not.reach" J0T
 J8z : MF K Jc "bad" "Not.bad" J1w
 J4u : GF K mg "_law_cell_at" J09
 J4v : GF K mg "longer_rows" JV
 J2k : GF K mg "rows_of_new_tails" JD
 Ja6 : GF K mg "alike" J2a
 J7z : GF K mg "bad_days" J0M
 J6r : GF K mg "_law_marks" J0V
 J6a : GF K mg "_law_plain" J0S
 J7h : GF K mg "_law_rule" J16
 J68 : GF K mg "_law_after" J0W
 J6b : GF K mg "_law_chain" J0Q
 J7s : GF K mg "_law_deep" J17
 J6i : GF K mg "_law_other" J0X
 J5g : GF K mg "_law_walked" J0w
 J6h : GF K mg "_law_parts" J0h
 JbW : GF K mg "law" J20
 J0J : CF K mg "Never" J5
 J1l : CF K mg "Most" J8
 J0y : CF K mg "Least" J2
 J12 : CF K mg "Both" J9
 J06 : CF K mg "Either" J1
 J2F : CF K mg "Not" Jc
 JK : J0c K J5 "word"
 J0P : J0c K J8 "many"
 J0A : J0c K J8 "marks"
 J0i : J0c K J8 "days"
 J0t : J0c K J2 "many"
 J0a : J0c K J2 "marks"
 JS : J0c K J2 "days"
 J0m : J0c K J9 "left"
 J03 : J0c K J9 "right"
 JX : J0c K J1 "left"
 JN : J0c K J1 "right"
 J0j : J0c K Jc "inner"
 J6l : mg "all" = none
 J6k : mg "any" = none
 JQ : mg "isinstance" = none
 JO : mg "len" = none
 J31 : mg "list" = none
 J2p : mg "max" = none
 J1C : mg "range" = none
 J22 : mg "sorted" = none
 J4L : mg "str" = none
 J2D : mg "tuple" = none
 J6d : mg "zip" = none
 J10 : ∃ t,mg "MOST_TAILS" = some (.int 400 t)
theorem J2w {n : Nat} (h : n ≤ 1000) : n ≤ sizeLine:=Nat.le_trans h (by decide)
theorem J7c {α : Type} (l : List α) (k : Int) (h0 : 0 ≤ k) : cutN l (some k) none = l.drop k.toNat:=by
 unfold cutN
 have e : HT.sIx l.length 0 (some k) = min k.toNat l.length:=by
  show (if k < 0 then _ else min k.toNat l.length) = _
  rw [if_neg (by omega)]
 rw [e,HT.sIx_none]
 by_cases h : k.toNat ≤ l.length
 ·rw [Nat.min_eq_left h]
  exact List.take_of_length_le (by rw [List.length_drop]; omega)
 ·rw [Nat.min_eq_right (by omega),List.drop_eq_nil_of_le (Nat.le_refl _),List.drop_eq_nil_of_le (by omega),List.take_nil]
theorem JaV {α : Type} (l : List α) (k : Int) (h0 : 0 ≤ k) : cutN l none (some k) = l.take k.toNat:=by
 unfold cutN
 have e : HT.sIx l.length l.length (some k) = min k.toNat l.length:=by
  show (if k < 0 then _ else min k.toNat l.length) = _
  rw [if_neg (by omega)]
 rw [e,HT.sIx_none,List.drop_zero,Nat.sub_zero]
 by_cases h : k.toNat ≤ l.length
 ·rw [Nat.min_eq_left h]
 ·rw [Nat.min_eq_right (by omega),List.take_of_length_le (Nat.le_refl _),List.take_of_length_le (by omega)]
theorem Jap {α : Type} (l : List α) (lo hi : Option Int) : (cutN l lo hi).length ≤ l.length:=by
 unfold cutN
 rw [List.length_take,List.length_drop]
 omega
theorem JM {α : Type} (l : List α) (i : Int) (h0 : 0 ≤ i) (h : i < l.length) : ∃ c,atI l i = some c ∧ l[i.toNat]? = some c:=by
 have hi : i.toNat < l.length:=by omega
 have e : i = ((i.toNat : Nat) : Int):=by omega
 have q : atI l ((i.toNat : Nat) : Int) = some l[i.toNat]:=J3x (by simp [hi])
 rw [← e] at q
 exact ⟨l[i.toNat],q,List.getElem?_eq_getElem hi⟩
theorem J9j {ys : List V} (h : ∀ y ∈ ys,∃ c,y = T [c]) : ∃ cs : List Nat,ys = (cs.map fun c=>[c]).map T ∧ cs.length = ys.length:=by
 induction ys with
 | nil=>exact ⟨[],rfl,rfl⟩
 | cons y r ih =>
  obtain ⟨c,rfl⟩:=h y List.mem_cons_self
  obtain ⟨cs,e,hl⟩:=ih fun z hz=>h z (List.mem_cons_of_mem _ hz)
  exact ⟨c :: cs,by rw [e]; rfl,by simp [hl]⟩
noncomputable def J1F (x y : V) : Bool:=if decide (x = T [63]) = true then true else if decide (x = T [35]) = true then !decide (y = T [45]) else decide (x = y)
noncomputable def Jaa : Sp:=fun vs H Q _=>∃ a b,vs = [T a,T b] ∧ Q (.bl (J1F (T a) (T b))) H
noncomputable def Ja8 : Sp:=fun vs H Q _=>∃ l n,vs = [T l,.int n] ∧ l.length ≤ 1000 ∧ 0 ≤ n ∧ Q (T (l.drop (l.length - n.toNat))) H
noncomputable def Jab (K : PySem.W.Frag) : Sp:=fun vs H Q _=>∃ (a : Addr) (ns : List Int) (k : Int),vs = [.ref a,.int k] ∧ SqL K H a (ns.map V.int) ∧ 0 ≤ k ∧ ∀ v,Q (.int v) H
noncomputable def sp_law (K : PySem.W.Frag) : Sp:=fun vs H Q _=>∃ (a : Addr) (ns : List Int),vs = [.ref a] ∧ SqL K H a (ns.map V.int) ∧ ns.length ≤ 63 ∧ ∀ H',Q (.bl true) H'
theorem Jbg {p : (Nat → Nat → St → Hp → Prop) → Prop} (h : ∃ W,p W) : ∃ W,p W:=h
theorem Jae {p : (Nat → St → Hp → Prop) → Prop} (h : ∃ W,p W) : ∃ W,p W:=h
theorem JbO {A B : Prop} (h : B) : if (!true) = true then A else B:=h
theorem JbN {A B : Prop} (h : A) : if (!false) = true then A else B:=h
theorem JaF {i j : Int} (h1 : 0 < j) (h2 : j < 1073741824) : CDiv i j:=⟨h1,h2⟩
theorem JbC {i j : Int} (h1 : -(2 ^ 64) < i) (h2 : i < 2 ^ 64) : CMul i j:=.inl ⟨h1,h2⟩
theorem Jby {i j : Int} (h1 : -(2 ^ 64) < j) (h2 : j < 2 ^ 64) : CMul i j:=.inr ⟨h1,h2⟩
theorem Jb4 {n : Int} (h : 0 < n) : 0 < n:=h
@[irreducible] def Here (p : Prop) : Prop:=p
theorem Here.mk {p : Prop} (h : p) : Here p:=by unfold Here; exact h
theorem Here.out {p : Prop} (h : Here p) : p:=by unfold Here at h; exact h
theorem Ja2 {i : Nat} {v : V} {σ σ' : St} {H : Hp} {Q : St → Hp → Prop} (e : σ.set i (some v) = σ') (h : Q σ' H) : J2M i v σ H Q:=by subst e; exact h
theorem J9P {n : Nat} (h : n ≤ 100000) : n ≤ sizeLine:=Nat.le_trans h (by decide)
theorem J9Z {n : Nat} (h : n ≤ 100000) : n < sizeLine:=Nat.lt_of_le_of_lt h (by decide)
local macro_rules | `(tactic| walk_at "len")=>`(tactic| (simp only [List.length_append,List.length_cons,List.length_nil,List.length_singleton,List.length_take,List.length_drop,List.length_map,List.length_reverse,List.length_range] <;> omega))
local macro_rules | `(tactic| walk_at "st")=>`(tactic| (try simp only [L2.start,List.map_cons,List.map_nil,List.length_cons,List.length_nil,Nat.reduceAdd,Nat.reduceSub,List.replicate_succ,List.replicate_zero,List.cons_append,List.nil_append]))
local macro_rules | `(tactic| walk_at "lk")=>`(tactic| fail)
local macro_rules | `(tactic| walk_at "cl")=>`(tactic| first
 | (with_reducible assumption) | rfl
 | (with_reducible show @LE.le Nat _ _ _; first | omega | (walk_at "len") | exact J9P (by omega) | exact J9P (by walk_at "len"))
 | (with_reducible show @LT.lt Nat _ _ _; first | omega | (walk_at "len") | exact J9Z (by omega) | exact J9Z (by walk_at "len"))
 | (with_reducible show @LE.le Int _ _ _; omega) | (with_reducible show @LT.lt Int _ _ _; omega)
 | ((with_reducible refine JaF ?_ ?_) <;> omega) | ((with_reducible refine JbC ?_ ?_) <;> omega) | ((with_reducible refine Jby ?_ ?_) <;> omega) | ((with_reducible refine Jb4 ?_) <;> omega)
 | exact Jb | exact JJ (by with_reducible assumption) _ _ _ Jb | exact SqL.of (by with_reducible assumption) | exact SqL.of Jb | exact SqT.of Jb | exact SqT.of (by with_reducible assumption) | exact Or.inl (by with_reducible assumption) | exact Or.inl (SqL.of (by with_reducible assumption)) | exact Or.inl (SqL.of Jb)
 | exact Or.inl ⟨rfl,_,SqL.of (by with_reducible assumption)⟩ | exact Or.inl ⟨rfl,_,SqL.of Jb⟩ | exact Or.inl ⟨rfl,_,by with_reducible assumption⟩ | exact ⟨_,by with_reducible assumption⟩ | exact ⟨_,SqL.of (by with_reducible assumption)⟩ | exact ⟨_,SqL.of Jb⟩
 | exact ⟨by omega,by omega⟩ | assumption | walk_at "lk")
local macro_rules | `(tactic| walk_at "rd1")=>`(tactic| first
 | (with_reducible refine Ja2 (by first | (simp only [List.set_cons_zero,List.set_cons_succ]; done) | (simp only [List.set_cons_zero,List.set_cons_succ]; rfl)) ?_)
 | (with_reducible refine iteT ?_) | (with_reducible refine iteF ?_) | (with_reducible refine JbO ?_) | (with_reducible refine JbN ?_)
 | ((fail_if_success apply Jbg); (fail_if_success apply Jae); apply Exists.intro)
 | (apply And.intro; (· walk_at "cl"))
 | (refine Or.inl ⟨_,rfl,?_⟩) | (refine Or.inr (Or.inl ⟨_,rfl,?_⟩)) | (refine Or.inr (Or.inr (Or.inl ⟨_,rfl,?_⟩))) | (refine Or.inr (Or.inr (Or.inr (Or.inl ⟨_,rfl,?_⟩)))) | (refine Or.inr (Or.inr (Or.inr (Or.inr ⟨_,_,rfl,by with_reducible assumption,?_⟩)))))
local macro_rules | `(tactic| walk_at "rd")=>`(tactic| repeat (walk_at "rd1"))
noncomputable def letV (m : List Nat) (c : Nat) : Bool:=(m.map fun s=>J1F (T [s]) (T [c])).any id
noncomputable def cntV (m l : List Nat) : Nat:=(l.filter (letV m)).length
noncomputable def J6V (n : Int) (m : List Nat) (d : Int) (l : List Nat) : Bool:=decide (n < (cntV m (l.drop (l.length - d.toNat)) : Int))
noncomputable def J1U (n : Int) (m : List Nat) (d : Int) (l : List Nat) : Bool:=if (l.length : Int) < d then false else decide ((cntV m (l.drop (l.length - d.toNat)) : Int) < n)
noncomputable def J4h (C : Addr) (H : Hp) (p : Addr) (n : Int) (m : List Nat) (d : Int) : Prop:=∃ dx,H p = some (.ins C dx [("many",.int n),("marks",T m),("days",.int d)])
theorem J4h.same {C : Addr} {H H' : Hp} {p : Addr} {n d : Int} {m : List Nat} (h : J4h C H p n m d) (s : Same H H') : J4h C H' p n m d:=let ⟨dx,e⟩:=h; ⟨dx,s _ _ e⟩
theorem J8h (x y z : V) : List.lookup ("many" : Str) [(("many" : Str),x),("marks",y),("days",z)] = some x:=by rw [List.lookup_cons,beq_self_eq_true]
theorem J6U (x y z : V) : List.lookup ("marks" : Str) [(("many" : Str),x),("marks",y),("days",z)] = some y:=by
 rw [List.lookup_cons,beq_eq_false_iff_ne.mpr (by decide +kernel),List.lookup_cons,beq_self_eq_true]
theorem J2X (x y z : V) : List.lookup ("days" : Str) [(("many" : Str),x),("marks",y),("days",z)] = some z:=by
 rw [List.lookup_cons,beq_eq_false_iff_ne.mpr (by decide +kernel),List.lookup_cons,beq_eq_false_iff_ne.mpr (by decide +kernel),List.lookup_cons,beq_self_eq_true]
theorem put3 (n : Int) (m : List Nat) (d : Int) : putF "days" (.int d) (putF "marks" (T m) (putF "many" (.int n) [])) = ([("many",.int n),("marks",T m),("days",.int d)] : List (Str × V)):=by
 have h1 : ¬ (("many" : Str) = "marks"):=by decide +kernel
 have h2 : ¬ (("many" : Str) = "days"):=by decide +kernel
 have h3 : ¬ (("marks" : Str) = "days"):=by decide +kernel
 simp [putF,h1,h2,h3]
noncomputable def JaU : Sp:=fun vs H Q _=>∃ m c,vs = [T m,T [c]] ∧ m.length ≤ 1000 ∧ ∀ H',Same H H' → Q (.bl (letV m c)) H'
noncomputable def J9b : Sp:=fun vs H Q _=>∃ m l,vs = [T m,T l] ∧ m.length ≤ 1000 ∧ l.length ≤ 1000 ∧ ∀ H',Same H H' → Q (.int (cntV m l)) H'
noncomputable def J2B (C : Addr) : Sp:=fun vs H Q _=>∃ p dx n m d,vs = [.ref p,.int n,T m,.int d] ∧ H p = some (.ins C dx []) ∧ Q .non (upd (upd (upd H p (.ins C dx (putF "many" (.int n) []))) p (.ins C dx (putF "marks" (T m) (putF "many" (.int n) [])))) p (.ins C dx [("many",.int n),("marks",T m),("days",.int d)]))
noncomputable def J4K (C : Addr) : Sp:=fun vs H Q _=>∃ p n m d,vs = [.ref p] ∧ J4h C H p n m d ∧ Q (.int d) H
noncomputable def J88 (C : Addr) (B : Int → List Nat → Int → List Nat → Bool) : Sp:=fun vs H Q _=>∃ p n m d l,vs = [.ref p,T l] ∧ J4h C H p n m d ∧ m.length ≤ 1000 ∧ 0 ≤ d ∧ l.length ≤ 1000 ∧ ∀ H',Same H H' → Q (.bl (B n m d l)) H'
noncomputable def nevB (w l : List Nat) : Bool:=if l.length < w.length then false else ((w.zip (l.drop (l.length - w.length))).map fun p=>J1F (T [p.1]) (T [p.2])).all id
noncomputable def J5e (C : Addr) (H : Hp) (p : Addr) (w : List Nat) : Prop:=∃ dx,H p = some (.ins C dx [("word",T w)])
theorem J5e.same {C : Addr} {H H' : Hp} {p : Addr} {w : List Nat} (h : J5e C H p w) (s : Same H H') : J5e C H' p w:=let ⟨dx,e⟩:=h; ⟨dx,s _ _ e⟩
theorem wl (v : V) : List.lookup ("word" : Str) [(("word" : Str),v)] = some v:=by rw [List.lookup_cons,beq_self_eq_true]
theorem J3z (x y : V) : List.lookup ("left" : Str) [(("left" : Str),x),("right",y)] = some x:=by rw [List.lookup_cons,beq_self_eq_true]
theorem J2I (x y : V) : List.lookup ("right" : Str) [(("left" : Str),x),("right",y)] = some y:=by
 rw [List.lookup_cons,beq_eq_false_iff_ne.mpr (by decide +kernel),List.lookup_cons,beq_self_eq_true]
theorem J6z (x : V) : List.lookup ("inner" : Str) [(("inner" : Str),x)] = some x:=by rw [List.lookup_cons,beq_self_eq_true]
theorem put2 (x y : V) : putF "right" y (putF "left" x []) = ([("left",x),("right",y)] : List (Str × V)):=by
 have h1 : ¬ (("left" : Str) = "right"):=by decide +kernel
 simp [putF,h1]
noncomputable def J87 (C : Addr) : Sp:=fun vs H Q _=>∃ p dx w,vs = [.ref p,T w] ∧ H p = some (.ins C dx []) ∧ Q .non (upd H p (.ins C dx [("word",T w)]))
noncomputable def J99 (C : Addr) : Sp:=fun vs H Q _=>∃ p w,vs = [.ref p] ∧ J5e C H p w ∧ w.length ≤ 1000 ∧ Q (.int w.length) H
noncomputable def JaR (C : Addr) : Sp:=fun vs H Q _=>∃ p w l,vs = [.ref p,T l] ∧ J5e C H p w ∧ w.length ≤ 1000 ∧ l.length ≤ 1000 ∧ ∀ H',Same H H' → Q (.bl (nevB w l)) H'
noncomputable def J2y (C : Addr) : Sp:=fun vs H Q _=>∃ p dx a b,vs = [.ref p,.ref a,.ref b] ∧ H p = some (.ins C dx []) ∧ Q .non (upd (upd H p (.ins C dx (putF "left" (.ref a) []))) p (.ins C dx [("left",.ref a),("right",.ref b)]))
noncomputable def J6s (C : Addr) : Sp:=fun vs H Q _=>∃ p dx a,vs = [.ref p,.ref a] ∧ H p = some (.ins C dx []) ∧ Q .non (upd H p (.ins C dx [("inner",.ref a)]))
inductive R where
 | nev (w : List Nat)
 | most (n : Int) (m : List Nat) (d : Int)
 | least (n : Int) (m : List Nat) (d : Int)
 | both (l r : R)
 | either (l r : R)
 | neg (i : R)
noncomputable def R.depth : R → Nat
 | .nev _=>0
 | .most _ _ _=>0
 | .least _ _ _=>0
 | .both l r=>max l.depth r.depth + 1
 | .either l r=>max l.depth r.depth + 1
 | .neg i=>i.depth + 1
noncomputable def R.bad : R → List Nat → Bool
 | .nev w,x=>nevB w x
 | .most n m d,x=>J6V n m d x
 | .least n m d,x=>J1U n m d x
 | .both l r,x=>l.bad x || r.bad x
 | .either l r,x=>l.bad x && r.bad x
 | .neg i,x=>!i.bad x
noncomputable def R.reach : R → Int
 | .nev w=>w.length
 | .most _ _ d=>d
 | .least _ _ d=>d
 | .both l r=>if r.reach > l.reach then r.reach else l.reach
 | .either l r=>if r.reach > l.reach then r.reach else l.reach
 | .neg i=>i.reach
structure Cs where
 nev : Addr
 most : Addr
 least : Addr
 both : Addr
 either : Addr
 neg : Addr
noncomputable def R.cls (c : Cs) : R → Addr
 | .nev _=>c.nev
 | .most _ _ _=>c.most
 | .least _ _ _=>c.least
 | .both _ _=>c.both
 | .either _ _=>c.either
 | .neg _=>c.neg
noncomputable def Jk (c : Cs) (H : Hp) : R → Addr → Prop
 | .nev w,p=>J5e c.nev H p w ∧ w.length ≤ 1000
 | .most n m d,p=>J4h c.most H p n m d ∧ m.length ≤ 1000 ∧ 0 ≤ d
 | .least n m d,p=>J4h c.least H p n m d ∧ m.length ≤ 1000 ∧ 0 ≤ d
 | .both l r,p=>∃ dx a b,H p = some (.ins c.both dx [("left",.ref a),("right",.ref b)]) ∧ Jk c H l a ∧ Jk c H r b
 | .either l r,p=>∃ dx a b,H p = some (.ins c.either dx [("left",.ref a),("right",.ref b)]) ∧ Jk c H l a ∧ Jk c H r b
 | .neg i,p=>∃ dx a,H p = some (.ins c.neg dx [("inner",.ref a)]) ∧ Jk c H i a
theorem Jk.same {c : Cs} {H H' : Hp} (s : Same H H') : ∀ {r : R} {p : Addr},Jk c H r p → Jk c H' r p
 | .nev _,_,h=>⟨h.1.same s,h.2⟩
 | .most _ _ _,_,h=>⟨h.1.same s,h.2⟩
 | .least _ _ _,_,h=>⟨h.1.same s,h.2⟩
 | .both _ _,_,⟨dx,a,b,e,h1,h2⟩=>⟨dx,a,b,s _ _ e,Jk.same s h1,Jk.same s h2⟩
 | .either _ _,_,⟨dx,a,b,e,h1,h2⟩=>⟨dx,a,b,s _ _ e,Jk.same s h1,Jk.same s h2⟩
 | .neg _,_,⟨dx,a,e,h1⟩=>⟨dx,a,s _ _ e,Jk.same s h1⟩
theorem Jk.obj {c : Cs} {H : Hp} {r : R} {p : Addr} (h : Jk c H r p) : ∃ dx fs,H p = some (.ins (r.cls c) dx fs) ∧ fs.lookup ("bad" : Str) = none ∧ fs.lookup ("reach" : Str) = none ∧ fs.lookup ("text" : Str) = none:=by
 have no1 : ∀ (x m : Str) (v : V),m ≠ x → List.lookup m [(x,v)] = none:=fun x m v hm=>by rw [List.lookup_cons,beq_eq_false_iff_ne.mpr hm]; rfl
 have no2 : ∀ (x y m : Str) (v u : V),m ≠ x → m ≠ y → List.lookup m [(x,v),(y,u)] = none:=fun x y m v u h1 h2=>by rw [List.lookup_cons,beq_eq_false_iff_ne.mpr h1]; exact no1 _ _ _ h2
 have no3 : ∀ (x y z m : Str) (v u t : V),m ≠ x → m ≠ y → m ≠ z → List.lookup m [(x,v),(y,u),(z,t)] = none:=fun x y z m v u t h1 h2 h3=>by rw [List.lookup_cons,beq_eq_false_iff_ne.mpr h1]; exact no2 _ _ _ _ _ h2 h3
 cases r with
 | nev w =>
  obtain ⟨⟨dx,e⟩,_⟩:=h
  exact ⟨dx,_,e,no1 _ _ _ (by decide +kernel),no1 _ _ _ (by decide +kernel),no1 _ _ _ (by decide +kernel)⟩
 | most n m d =>
  obtain ⟨⟨dx,e⟩,_⟩:=h
  exact ⟨dx,_,e,no3 _ _ _ _ _ _ _ (by decide +kernel) (by decide +kernel) (by decide +kernel),no3 _ _ _ _ _ _ _ (by decide +kernel) (by decide +kernel) (by decide +kernel),no3 _ _ _ _ _ _ _ (by decide +kernel) (by decide +kernel) (by decide +kernel)⟩
 | least n m d =>
  obtain ⟨⟨dx,e⟩,_⟩:=h
  exact ⟨dx,_,e,no3 _ _ _ _ _ _ _ (by decide +kernel) (by decide +kernel) (by decide +kernel),no3 _ _ _ _ _ _ _ (by decide +kernel) (by decide +kernel) (by decide +kernel),no3 _ _ _ _ _ _ _ (by decide +kernel) (by decide +kernel) (by decide +kernel)⟩
 | both l r =>
  obtain ⟨dx,a,b,e,_⟩:=h
  exact ⟨dx,_,e,no2 _ _ _ _ _ (by decide +kernel) (by decide +kernel),no2 _ _ _ _ _ (by decide +kernel) (by decide +kernel),no2 _ _ _ _ _ (by decide +kernel) (by decide +kernel)⟩
 | either l r =>
  obtain ⟨dx,a,b,e,_⟩:=h
  exact ⟨dx,_,e,no2 _ _ _ _ _ (by decide +kernel) (by decide +kernel),no2 _ _ _ _ _ (by decide +kernel) (by decide +kernel),no2 _ _ _ _ _ (by decide +kernel) (by decide +kernel)⟩
 | neg i =>
  obtain ⟨dx,a,e,_⟩:=h
  exact ⟨dx,_,e,no1 _ _ _ (by decide +kernel),no1 _ _ _ (by decide +kernel),no1 _ _ _ (by decide +kernel)⟩
noncomputable def JbV (c : Cs) (r : R) : Sp:=fun vs H Q _=>∃ p l,vs = [.ref p,T l] ∧ Jk c H r p ∧ l.length ≤ 1000 ∧ ∀ H',Same H H' → Q (.bl (r.bad l)) H'
noncomputable def JaS (c : Cs) (r : R) : Sp:=fun vs H Q _=>∃ p,vs = [.ref p] ∧ Jk c H r p ∧ Q (.int r.reach) H
noncomputable def R.fine : R → Prop
 | .nev w=>1 ≤ w.length ∧ w.length ≤ 7
 | .most _ _ d=>1 ≤ d ∧ d ≤ 7
 | .least _ _ d=>1 ≤ d ∧ d ≤ 7
 | .both l r=>l.fine ∧ r.fine
 | .either l r=>l.fine ∧ r.fine
 | .neg i=>i.fine
theorem R.far17 : ∀ {r : R},r.fine → 1 ≤ r.reach ∧ r.reach ≤ 7
 | .nev w,h=>by
  have:=h.1
  have:=h.2
  show (1 : Int) ≤ (w.length : Int) ∧ (w.length : Int) ≤ 7
  omega
 | .most _ _ _,h=>h
 | .least _ _ _,h=>h
 | .both l r,h=>by
  have a:=R.far17 h.1
  have b:=R.far17 h.2
  show 1 ≤ (if r.reach > l.reach then r.reach else l.reach) ∧ (if r.reach > l.reach then r.reach else l.reach) ≤ 7
  split <;> omega
 | .either l r,h=>by
  have a:=R.far17 h.1
  have b:=R.far17 h.2
  show 1 ≤ (if r.reach > l.reach then r.reach else l.reach) ∧ (if r.reach > l.reach then r.reach else l.reach) ≤ 7
  split <;> omega
 | .neg i,h=>R.far17 (r:=i) h
theorem J37 {α : Type} (l : List α) (k d : Nat) (h1 : d ≤ k) (h2 : k ≤ l.length) : (l.drop (l.length - k)).drop ((l.drop (l.length - k)).length - d) = l.drop (l.length - d):=by
 rw [List.drop_drop,List.length_drop]
 congr 1
 omega
theorem R.bad_last : ∀ (r : R),r.fine → ∀ (l : List Nat) (k : Nat),r.reach ≤ (k : Int) → k ≤ l.length → r.bad l = r.bad (l.drop (l.length - k))
 | .nev w,_,l,k,h1,h2=>by
  have h1' : w.length ≤ k:=by
   have : (w.length : Int) ≤ (k : Int):=h1
   omega
  show nevB w l = nevB w (l.drop (l.length - k))
  unfold nevB
  rw [if_neg (by omega),if_neg (by rw [List.length_drop]; omega),J37 l k w.length h1' h2]
 | .most n m d,hf,l,k,h1,h2=>by
  have h1' : d ≤ (k : Int):=h1
  have:=hf.1
  show J6V n m d l = J6V n m d (l.drop (l.length - k))
  unfold J6V
  rw [J37 l k d.toNat (by omega) h2]
 | .least n m d,hf,l,k,h1,h2=>by
  have h1' : d ≤ (k : Int):=h1
  have:=hf.1
  show J1U n m d l = J1U n m d (l.drop (l.length - k))
  unfold J1U
  rw [if_neg (by omega),if_neg (by rw [List.length_drop]; omega),J37 l k d.toNat (by omega) h2]
 | .both x y,hf,l,k,h1,h2=>by
  have h1' : (if y.reach > x.reach then y.reach else x.reach) ≤ (k : Int):=h1
  have a : x.reach ≤ (k : Int):=by split at h1' <;> omega
  have b : y.reach ≤ (k : Int):=by split at h1' <;> omega
  show (x.bad l || y.bad l) = (x.bad _ || y.bad _)
  rw [R.bad_last x hf.1 l k a h2,R.bad_last y hf.2 l k b h2]
 | .either x y,hf,l,k,h1,h2=>by
  have h1' : (if y.reach > x.reach then y.reach else x.reach) ≤ (k : Int):=h1
  have a : x.reach ≤ (k : Int):=by split at h1' <;> omega
  have b : y.reach ≤ (k : Int):=by split at h1' <;> omega
  show (x.bad l && y.bad l) = (x.bad _ && y.bad _)
  rw [R.bad_last x hf.1 l k a h2,R.bad_last y hf.2 l k b h2]
 | .neg i,hf,l,k,h1,h2=>by
  show (!i.bad l) = (!i.bad _)
  rw [R.bad_last i hf l k h1 h2]
theorem Jk.lst {c : Cs} {H : Hp} {h : Addr} {xs ys : List V} (hh : H h = some (.lst xs)) : ∀ {r : R} {p : Addr},Jk c H r p → Jk c (upd H h (.lst ys)) r p:=by
 have key : ∀ (q C dx : Addr) (fs : List (Str × V)),H q = some (.ins C dx fs) → upd H h (.lst ys) q = some (.ins C dx fs):=fun q C dx fs e=>by
  have : q ≠ h:=fun z=>by rw [z,hh] at e; cases e
  rw [Jr this]; exact e
 intro r
 induction r with
 | nev w=>rintro p ⟨⟨dx,e⟩,r⟩; exact ⟨⟨dx,key _ _ _ _ e⟩,r⟩
 | most n m d=>rintro p ⟨⟨dx,e⟩,r⟩; exact ⟨⟨dx,key _ _ _ _ e⟩,r⟩
 | least n m d=>rintro p ⟨⟨dx,e⟩,r⟩; exact ⟨⟨dx,key _ _ _ _ e⟩,r⟩
 | both l r i1 i2=>rintro p ⟨dx,a,b,e,h1,h2⟩; exact ⟨dx,a,b,key _ _ _ _ e,i1 h1,i2 h2⟩
 | either l r i1 i2=>rintro p ⟨dx,a,b,e,h1,h2⟩; exact ⟨dx,a,b,key _ _ _ _ e,i1 h1,i2 h2⟩
 | neg i i1=>rintro p ⟨dx,a,e,h1⟩; exact ⟨dx,a,key _ _ _ _ e,i1 h1⟩
noncomputable def rNev (c6 : Cs) : List V → Hp → VK → Prop:=fun vs H Q=>∃ w,vs = [T w] ∧ w.length ≤ 1000 ∧ ∀ p H',Same H H' → Jk c6 H' (.nev w) p → Q (.ref p) H'
noncomputable def J9y (c6 : Cs) : List V → Hp → VK → Prop:=fun vs H Q=>∃ n m d,vs = [.int n,T m,.int d] ∧ m.length ≤ 1000 ∧ 0 ≤ d ∧ ∀ p H',Same H H' → Jk c6 H' (.most n m d) p → Q (.ref p) H'
noncomputable def J7Q (c6 : Cs) : List V → Hp → VK → Prop:=fun vs H Q=>∃ n m d,vs = [.int n,T m,.int d] ∧ m.length ≤ 1000 ∧ 0 ≤ d ∧ ∀ p H',Same H H' → Jk c6 H' (.least n m d) p → Q (.ref p) H'
noncomputable def J4i (c6 : Cs) : List V → Hp → VK → Prop:=fun vs H Q=>∃ a b x y,vs = [.ref a,.ref b] ∧ Jk c6 H x a ∧ Jk c6 H y b ∧ ∀ p dx H',Same H H' → Jk c6 H' (.both x y) p → H' p = some (.ins c6.both dx [("left",.ref a),("right",.ref b)]) → Q (.ref p) H'
noncomputable def J2g (c6 : Cs) : List V → Hp → VK → Prop:=fun vs H Q=>∃ a b x y,vs = [.ref a,.ref b] ∧ Jk c6 H x a ∧ Jk c6 H y b ∧ ∀ p dx H',Same H H' → Jk c6 H' (.either x y) p → H' p = some (.ins c6.either dx [("left",.ref a),("right",.ref b)]) → Q (.ref p) H'
noncomputable def rNot (c6 : Cs) : List V → Hp → VK → Prop:=fun vs H Q=>∃ a x,vs = [.ref a] ∧ Jk c6 H x a ∧ ∀ p dx H',Same H H' → Jk c6 H' (.neg x) p → H' p = some (.ins c6.neg dx [("inner",.ref a)]) → Q (.ref p) H'
theorem J4d {c6 : Cs} : ∀ vs H Q,rNev c6 vs H Q → ∀ x dx,H x = none → H dx = none → dx ≠ x → J87 c6.nev (.ref x :: (vs ++ [])) (upd (upd H dx (.own x)) x (.ins c6.nev dx [])) (fun v H2=>v = .non ∧ Q (.ref x) H2) E0:=by
 rintro _ H Q ⟨w,rfl,hw,q⟩ x dx nx ndx _
 exact ⟨x,dx,w,rfl,Jb,rfl,q x _ (((JJ ndx _).upd nx).upd nx) ⟨⟨dx,Jb⟩,hw⟩⟩
theorem J8m {c6 : Cs} : ∀ vs H Q,J9y c6 vs H Q → ∀ x dx,H x = none → H dx = none → dx ≠ x → J2B c6.most (.ref x :: (vs ++ [])) (upd (upd H dx (.own x)) x (.ins c6.most dx [])) (fun v H2=>v = .non ∧ Q (.ref x) H2) E0:=by
 rintro _ H Q ⟨n,m,d,rfl,hm,hd,q⟩ x dx nx ndx _
 exact ⟨x,dx,n,m,d,rfl,Jb,rfl,q x _ (((((JJ ndx _).upd nx).upd nx).upd nx).upd nx) ⟨⟨dx,Jb⟩,hm,hd⟩⟩
theorem J72 {c6 : Cs} : ∀ vs H Q,J7Q c6 vs H Q → ∀ x dx,H x = none → H dx = none → dx ≠ x → J2B c6.least (.ref x :: (vs ++ [])) (upd (upd H dx (.own x)) x (.ins c6.least dx [])) (fun v H2=>v = .non ∧ Q (.ref x) H2) E0:=by
 rintro _ H Q ⟨n,m,d,rfl,hm,hd,q⟩ x dx nx ndx _
 exact ⟨x,dx,n,m,d,rfl,Jb,rfl,q x _ (((((JJ ndx _).upd nx).upd nx).upd nx).upd nx) ⟨⟨dx,Jb⟩,hm,hd⟩⟩
theorem J2i {c6 : Cs} : ∀ vs H Q,J4i c6 vs H Q → ∀ x dx,H x = none → H dx = none → dx ≠ x → J2y c6.both (.ref x :: (vs ++ [])) (upd (upd H dx (.own x)) x (.ins c6.both dx [])) (fun v H2=>v = .non ∧ Q (.ref x) H2) E0:=by
 rintro _ H Q ⟨a,b,y,z,rfl,ha,hb,q⟩ x dx nx ndx _
 have ss:=((((JJ ndx (.own x)).upd nx (o:=.ins c6.both dx [])).upd nx (o:=.ins c6.both dx (putF "left" (.ref a) []))).upd nx (o:=.ins c6.both dx [("left",.ref a),("right",.ref b)]))
 exact ⟨x,dx,a,b,rfl,Jb,rfl,q x dx _ ss ⟨dx,a,b,Jb,ha.same ss,hb.same ss⟩ Jb⟩
theorem J1N {c6 : Cs} : ∀ vs H Q,J2g c6 vs H Q → ∀ x dx,H x = none → H dx = none → dx ≠ x → J2y c6.either (.ref x :: (vs ++ [])) (upd (upd H dx (.own x)) x (.ins c6.either dx [])) (fun v H2=>v = .non ∧ Q (.ref x) H2) E0:=by
 rintro _ H Q ⟨a,b,y,z,rfl,ha,hb,q⟩ x dx nx ndx _
 have ss:=((((JJ ndx (.own x)).upd nx (o:=.ins c6.either dx [])).upd nx (o:=.ins c6.either dx (putF "left" (.ref a) []))).upd nx (o:=.ins c6.either dx [("left",.ref a),("right",.ref b)]))
 exact ⟨x,dx,a,b,rfl,Jb,rfl,q x dx _ ss ⟨dx,a,b,Jb,ha.same ss,hb.same ss⟩ Jb⟩
theorem J63 {c6 : Cs} : ∀ vs H Q,rNot c6 vs H Q → ∀ x dx,H x = none → H dx = none → dx ≠ x → J6s c6.neg (.ref x :: (vs ++ [])) (upd (upd H dx (.own x)) x (.ins c6.neg dx [])) (fun v H2=>v = .non ∧ Q (.ref x) H2) E0:=by
 rintro _ H Q ⟨a,y,rfl,ha,q⟩ x dx nx ndx _
 have ss:=(((JJ ndx (.own x)).upd nx (o:=.ins c6.neg dx [])).upd nx (o:=.ins c6.neg dx [("inner",.ref a)]))
 exact ⟨x,dx,a,rfl,Jb,rfl,q x dx _ ss ⟨dx,a,Jb,ha.same ss⟩ Jb⟩
section
variable {P : Program} {w : World} {K : PySem.W.Frag} {mg : Str → Option Value} {base : Heap} {J5 J8 J2 J9 J1 Jc : Addr}
theorem J9e (tx : Tx K mg J5 J8 J2 J9 J1 Jc) : FnG P w K mg base "fits" 1 ["sign","mark"] Jaa:=by
 refine tx.JaT.g Ja7 (fun _ _ _ _ _ _ us hl=>match us,hl with | [_,_],_=>rfl) (fun vs H Q E h=>?_) (fun f cdv A outer s H vs Q E hr h=>?_)
 ·obtain ⟨a,b,rfl,_⟩:=h
  rfl
 ·obtain ⟨a,b,rfl,q⟩:=h
  refine ⟨_,(J4 (JF (Jl J0o (pv 0) (Js (l:=[63]) (by decide +kernel)) (Jn _)) (Ja (Jj J1G)) Jq)
   (J4 (JF (Jl J0o (pv 0) (Js (l:=[35]) (by decide +kernel)) (Jn _)) (Ja (Jj (J1u J4m (pv 1) (Js (l:=[45]) (by decide +kernel)) (Jn _)))) Jq)
   (Ja (Jj (J1u J0o (pv 0) (pv 1) (Jn _)))))),?_⟩
  walk_at "st"
  refine ⟨_,rfl,rfl,_,rfl,?_⟩
  refine ite2 (fun c=>?_) (fun c=>?_)
  ·have e : J1F (T a) (T b) = true:=by unfold J1F; rw [if_pos c]
   rw [e] at q
   exact q
  ·refine ⟨_,rfl,rfl,_,rfl,?_⟩
   refine ite2 (fun c2=>?_) (fun c2=>?_)
   ·have e : J1F (T a) (T b) = !decide (T b = T [45]):=by unfold J1F; rw [if_neg c,if_pos c2]
    rw [e] at q
    exact ⟨_,rfl,rfl,q⟩
   ·have e : J1F (T a) (T b) = decide (T a = T b):=by unfold J1F; rw [if_neg c,if_neg c2]
    rw [e] at q
    exact ⟨_,rfl,_,rfl,rfl,q⟩
theorem J1q (tx : Tx K mg J5 J8 J2 J9 J1 Jc) : FnG P w K mg base "last_marks" 1 ["marks","many"] Ja8:=by
 refine tx.J5o.g J4w (fun _ _ _ _ _ _ us hl=>match us,hl with | [_,_],_=>rfl) (fun vs H Q E h=>?_) (fun f cdv A outer s H vs Q E hr h=>?_)
 ·obtain ⟨a,b,rfl,_⟩:=h
  rfl
 ·obtain ⟨l,n,rfl,hl,hn,q⟩:=h
  refine ⟨_,(Ja (Jj (J1O J7S (pv 0) (J1s (Jf (J1x rfl) rfl tx.J2p J38 (J0 J7 (J0 (Jd J28 (Jf JE rfl tx.JO PySem.boot_len (J0 (pv 0) J3)) (pv 1)) J3)))) J5Y))),?_⟩
  walk_at "st"
  refine ⟨_,rfl,_,rfl,l,rfl,J2w hl,_,rfl,_,_,rfl,rfl,_,_,rfl,_,rfl,l,rfl,J2w hl,?_⟩
  have e : cutN l (some (if (l.length : Int) - n > 0 then (l.length : Int) - n else 0)) none = l.drop (l.length - n.toNat):=by
   rw [J7c _ _ (by split <;> omega)]
   congr 1
   split <;> omega
  rw [e]
  exact q
theorem J9g (tx : Tx K mg J5 J8 J2 J9 J1 Jc) : FnG P w K mg base "let_by" 2 ["signs","mark"] JaU:=by
 have J7v:=J9e (P:=P) (w:=w) (base:=base) tx
 refine tx.J9c.g J8w (fun _ _ _ _ _ _ us hl=>match us,hl with | [_,_],_=>rfl) (fun vs H Q E h=>?_) (fun f cdv A outer s H vs Q E hr h=>?_)
 ·obtain ⟨m,c,rfl,_⟩:=h
  rfl
 ·obtain ⟨m,c,rfl,hm,q⟩:=h
  refine ⟨_,(Ja (Jj (Jf (J7G (K:=K) rfl rfl) rfl tx.J6k Jb6 (J0 (J1Y (osc:=J6 J1A) (ON:=["signs","mark"]) (N:=["sign","mark"]) (js:=[none,some 1]) ⟨rfl,by decide +kernel,by decide +kernel,by decide +kernel,rfl,by decide +kernel⟩ rfl rfl rfl (J4p (pv 0)) (fun _ _ _ _ _=>JU (i:=0) (show List.Nodup (["sign","mark"] : List Str) from by decide +kernel) rfl (Or.inl rfl)) (fun _ _ _ _ _=>J2L) (fun _ _ _ _ _=>(Jz J7v (hr.mono (by decide)) (J0 (pv 0) (J0 (pv 1) J3))))) J3)))),?_⟩
  walk_at "st"
  refine ⟨_,rfl,m,rfl,?_⟩
  refine J7d (fun x=>match x with | .str z=>.bl (J1F (.str z) (T [c])) | v=>v) (J2c m) ?_ (fun x hx H' s' R hR=>?_) (fun D H' hD s' hDD=>?_)
  ·rw [List.length_map]; omega
  ·obtain ⟨k,_,rfl⟩:=List.mem_map.mp hx
   exact ⟨_,rfl,_,rfl,[k],[c],rfl,hR H' (Same.refl _)⟩
  refine ⟨D,m.map fun s=>J1F (T [s]) (T [c]),rfl,SqL.of ?_,?_⟩
  ·rw [hDD,List.map_map,List.map_map]
   rfl
  ·exact q H' s'
theorem J2o (tx : Tx K mg J5 J8 J2 J9 J1 Jc) : FnG P w K mg base "count_among" 3 ["signs","marks"] J9b:=by
 have J9d:=J9g (P:=P) (w:=w) (base:=base) tx
 refine tx.J4s.g J3P (fun _ _ _ _ _ _ us hl=>match us,hl with | [_,_],_=>rfl) (fun vs H Q E h=>?_) (fun f cdv A outer s H vs Q E hr h=>?_)
 ·obtain ⟨m,c,rfl,_⟩:=h
  rfl
 ·obtain ⟨m,l,rfl,hm,hl,q⟩:=h
  refine ⟨_,(Ja (Jj (Jf (JH (K:=K) rfl) rfl tx.JO PySem.boot_len (J0 (J1Y (osc:=J6 JW) (ON:=["signs","marks"]) (N:=["mark","signs"]) (js:=[none,some 0]) ⟨rfl,by decide +kernel,by decide +kernel,by decide +kernel,rfl,by decide +kernel⟩ rfl rfl rfl (J4p (pv 1)) (fun _ _ _ _ _=>JU (i:=0) (show List.Nodup (["mark","signs"] : List Str) from by decide +kernel) rfl (Or.inl rfl)) (fun _ _ _ _ _=>J49 (J27 (Jz J9d (hr.mono (by decide)) (J0 (pv 1) (J0 (pv 0) J3))))) (fun _ _ _ _ _=>(pv 0))) J3)))),?_⟩
  walk_at "st"
  refine ⟨_,rfl,l,rfl,?_⟩
  refine J64 (fun x=>match x with | .str ⟨⟨[c]⟩⟩=>letV m c | _=>false) (fun x=>x) (J2c l) ?_ (fun x hx H' s' R hR=>?_) (fun x hx hp H' s' R hR=>?_) (fun D H' hD s' hDD=>?_)
  ·rw [List.length_map]; omega
  ·obtain ⟨k,_,rfl⟩:=List.mem_map.mp hx
   exact ⟨_,rfl,_,rfl,m,k,rfl,hm,fun H2 s2=>⟨_,rfl,hR H2 s2⟩⟩
  ·exact ⟨_,rfl,hR H' (Same.refl _)⟩
  refine ⟨D,_,rfl,.inl (SqL.of hDD),?_⟩
  have e : ((((l.map fun c=>T [c]).filter (fun x=>match x with | .str ⟨⟨[c]⟩⟩=>letV m c | _=>false)).map (fun x=>x)).length : Int) = (cntV m l : Int):=by
   rw [List.length_map,List.filter_map,List.length_map]
   rfl
  rw [e]
  exact q H' s'
theorem J1r (tx : Tx K mg J5 J8 J2 J9 J1 Jc) : MtG P w K mg base J5 "__init__" 1 ["self","word"] (J87 J5):=by
 refine tx.J5G.g tx.J0J.cl J4y (fun _ _ _ _ _ _ us hl=>match us,hl with | [_,_],_=>rfl) (fun vs H Q E h=>?_) (fun f cdv A outer s H vs Q E hr h=>?_)
 ·obtain ⟨p,dx,w,rfl,_⟩:=h
  rfl
 ·obtain ⟨p,dx,w,rfl,hp,q⟩:=h
  refine ⟨_,(Ja (J1m (pv 0) (pv 1) rfl)),?_⟩
  walk_at "st"
  exact ⟨_,rfl,_,rfl,p,J5,dx,[],rfl,hp,tx.J0J.cl,tx.JK,by decide,q⟩
theorem J4t (tx : Tx K mg J5 J8 J2 J9 J1 Jc) : MtG P w K mg base J5 "reach" 1 ["self"] (J99 J5):=by
 refine tx.J4E.g tx.J0J.cl J3R (fun _ _ _ _ _ _ us hl=>match us,hl with | [_],_=>rfl) (fun vs H Q E h=>?_) (fun f cdv A outer s H vs Q E hr h=>?_)
 ·obtain ⟨p,w,rfl,_⟩:=h
  rfl
 ·obtain ⟨p,w,rfl,⟨dx,hp⟩,hw,q⟩:=h
  refine ⟨_,(Ja (Jj (Jf JE rfl tx.JO PySem.boot_len (J0 (JC (K:=K) rfl (pv 0) rfl) J3)))),?_⟩
  walk_at "st"
  exact ⟨_,rfl,p,J5,dx,_,_,rfl,hp,tx.J0J.cl,tx.JK,wl _,w,rfl,J2w hw,q⟩
theorem J6c (tx : Tx K mg J5 J8 J2 J9 J1 Jc) : MtG P w K mg base J5 "bad" 2 ["self","marks"] (JaR J5):=by
 have J7v:=J9e (P:=P) (w:=w) (base:=base) tx
 have J05:=J1q (P:=P) (w:=w) (base:=base) tx
 refine tx.J6n.g tx.J0J.cl J2E (fun _ _ _ _ _ _ us hl=>match us,hl with | [_,_],_=>rfl) (fun vs H Q E h=>?_) (fun f cdv A outer s H vs Q E hr h=>?_)
 ·obtain ⟨p,w,l,rfl,_⟩:=h
  rfl
 ·obtain ⟨p,w,l,rfl,⟨dx,hp⟩,hw,hl,q⟩:=h
  refine ⟨_,(J4 (JF (Jl J3p (Jf JE rfl tx.JO PySem.boot_len (J0 (pv 1) J3)) (Jf JE rfl tx.JO PySem.boot_len (J0 (JC (K:=K) rfl (pv 0) rfl) J3)) (Jn _)) (Ja (Jj J1G)) Jq)
   (J4 (Je (i:=2) J2E.nd rfl (Or.inl rfl) (Jz J05 (hr.mono (by decide)) (J0 (pv 1) (J0 (Jf JE rfl tx.JO PySem.boot_len (J0 (JC (K:=K) rfl (pv 0) rfl) J3)) J3))))
   (Ja (Jj (Jf (J7Y (K:=K) rfl rfl) rfl tx.J6l Jbl (J0 (J1Y (osc:=J6 J0l) (ON:=["self","marks","nearest"]) (N:=["sign","mark"]) (js:=[none,none]) ⟨rfl,by decide +kernel,by decide +kernel,by decide +kernel,rfl,by decide +kernel⟩ rfl rfl rfl (Jax rfl tx.J6d (J0 (JC (K:=K) rfl (pv 0) rfl) (J0 (pv 2) J3))) (fun _ _ _ _ _=>Jbn (K:=K) (i:=0) (j:=1) rfl rfl (show List.Nodup (["sign","mark"] : List Str) from by decide +kernel) rfl rfl (Or.inl rfl) (Or.inl rfl)) (fun _ _ _ _ _=>J2L) (fun _ _ _ _ _=>(Jz J7v (hr.mono (by decide)) (J0 (pv 0) (J0 (pv 1) J3))))) J3)))))),?_⟩
  walk_at "st"
  refine ⟨_,rfl,l,rfl,J2w hl,_,rfl,p,J5,dx,_,_,rfl,hp,tx.J0J.cl,tx.JK,wl _,w,rfl,J2w hw,_,_,rfl,rfl,_,rfl,?_⟩
  refine ite2 (fun c=>?_) (fun c=>?_)
  ·have c':=of_decide_eq_true c
   have e : nevB w l = false:=by unfold nevB; rw [if_pos (by omega)]
   have q':=q H (Same.refl _)
   rw [e] at q'
   exact q'
  ·have c' : ¬ ((l.length : Int) < (w.length : Int)):=of_decide_eq_false (Bool.eq_false_iff.mpr c)
   refine ⟨_,rfl,_,rfl,p,J5,dx,_,_,rfl,hp,tx.J0J.cl,tx.JK,wl _,w,rfl,J2w hw,l,_,rfl,hl,by omega,?_⟩
   refine ⟨_,rfl,p,J5,dx,_,_,rfl,hp,tx.J0J.cl,tx.JK,wl _,_,rfl,w,_,rfl,?_⟩
   refine J8V (fun c d=>.bl (J1F (T [c]) (T [d]))) ?_ (fun c d H' s' R hR=>?_) (fun D H' hD s' hDD=>?_)
   ·omega
   ·exact ⟨_,rfl,_,rfl,_,_,rfl,hR H' (Same.refl _)⟩
   refine ⟨D,((w.zip (l.drop (l.length - (w.length : Int).toNat))).map fun p=>J1F (T [p.1]) (T [p.2])),rfl,SqL.of ?_,?_⟩
   ·rw [hDD,List.map_map]
    rfl
   ·have e : nevB w l = ((w.zip (l.drop (l.length - (w.length : Int).toNat))).map fun p=>J1F (T [p.1]) (T [p.2])).all id:=by
     unfold nevB
     rw [if_neg (by omega),Int.toNat_natCast]
    have q':=q H' s'
    rw [e] at q'
    exact q'
theorem J3m (tx : Tx K mg J5 J8 J2 J9 J1 Jc) : MtG P w K mg base J8 "__init__" 1 ["self","many","marks","days"] (J2B J8):=by
 refine tx.J6e.g tx.J1l.cl J5v (fun _ _ _ _ _ _ us hl=>match us,hl with | [_,_,_,_],_=>rfl) (fun vs H Q E h=>?_) (fun f cdv A outer s H vs Q E hr h=>?_)
 ·obtain ⟨p,dx,n,m,d,rfl,_⟩:=h
  rfl
 ·obtain ⟨p,dx,n,m,d,rfl,hp,q⟩:=h
  refine ⟨_,(J4 (J1m (pv 0) (pv 1) rfl)
   (J4 (J1m (pv 0) (pv 2) rfl)
   (Ja (J1m (pv 0) (pv 3) rfl)))),?_⟩
  walk_at "st"
  refine ⟨_,rfl,_,rfl,p,J8,dx,[],rfl,hp,tx.J1l.cl,tx.J0P,by decide,?_⟩
  refine ⟨_,rfl,_,rfl,p,J8,dx,_,rfl,Jb,tx.J1l.cl,tx.J0A,by show 1 < 1000; decide,?_⟩
  refine ⟨_,rfl,_,rfl,p,J8,dx,_,rfl,Jb,tx.J1l.cl,tx.J0i,?_,?_⟩
  ·have:=J0Y "marks" (T m) (putF "many" (.int n) [])
   have h2:=J0Y "many" (V.int n) []
   have h3 : ([] : List (Str × V)).length = 0:=rfl
   omega
  rw [put3]
  exact q
theorem J5A (tx : Tx K mg J5 J8 J2 J9 J1 Jc) : MtG P w K mg base J8 "reach" 1 ["self"] (J4K J8):=by
 refine tx.J5s.g tx.J1l.cl J4D (fun _ _ _ _ _ _ us hl=>match us,hl with | [_],_=>rfl) (fun vs H Q E h=>?_) (fun f cdv A outer s H vs Q E hr h=>?_)
 ·obtain ⟨p,n,m,d,rfl,_⟩:=h
  rfl
 ·obtain ⟨p,n,m,d,rfl,⟨dx,hp⟩,q⟩:=h
  refine ⟨_,(Ja (Jj (JC (K:=K) rfl (pv 0) rfl))),?_⟩
  walk_at "st"
  exact ⟨_,rfl,p,J8,dx,_,_,rfl,hp,tx.J1l.cl,tx.J0i,J2X _ _ _,q⟩
theorem J7C (tx : Tx K mg J5 J8 J2 J9 J1 Jc) : MtG P w K mg base J8 "bad" 4 ["self","marks"] (J88 J8 J6V):=by
 have J1K:=J2o (P:=P) (w:=w) (base:=base) tx
 have J05:=J1q (P:=P) (w:=w) (base:=base) tx
 refine tx.J7n.g tx.J1l.cl J6m (fun _ _ _ _ _ _ us hl=>match us,hl with | [_,_],_=>rfl) (fun vs H Q E h=>?_) (fun f cdv A outer s H vs Q E hr h=>?_)
 ·obtain ⟨p,n,m,d,l,rfl,_⟩:=h
  rfl
 ·obtain ⟨p,n,m,d,l,rfl,⟨dx,hp⟩,hm,hd,hl,q⟩:=h
  refine ⟨_,(Ja (Jj (J1u J8f (Jz J1K (hr.mono (by decide)) (J0 (JC (K:=K) rfl (pv 0) rfl) (J0 (Jz J05 (hr.mono (by decide)) (J0 (pv 1) (J0 (JC (K:=K) rfl (pv 0) rfl) J3))) J3))) (JC (K:=K) rfl (pv 0) rfl) (Jn _)))),?_⟩
  walk_at "st"
  refine ⟨_,rfl,p,J8,dx,_,_,rfl,hp,tx.J1l.cl,tx.J0A,J6U _ _ _,_,rfl,_,rfl,p,J8,dx,_,_,rfl,hp,tx.J1l.cl,tx.J0i,J2X _ _ _,l,d,rfl,hl,hd,m,_,rfl,hm,?_,fun H' s'=>?_⟩
  ·rw [List.length_drop]; omega
  exact ⟨_,rfl,p,J8,dx,_,_,rfl,s' _ _ hp,tx.J1l.cl,tx.J0P,J8h _ _ _,_,_,rfl,rfl,q H' s'⟩
theorem J2x (tx : Tx K mg J5 J8 J2 J9 J1 Jc) : MtG P w K mg base J2 "__init__" 1 ["self","many","marks","days"] (J2B J2):=by
 refine tx.J5z.g tx.J0y.cl J4A (fun _ _ _ _ _ _ us hl=>match us,hl with | [_,_,_,_],_=>rfl) (fun vs H Q E h=>?_) (fun f cdv A outer s H vs Q E hr h=>?_)
 ·obtain ⟨p,dx,n,m,d,rfl,_⟩:=h
  rfl
 ·obtain ⟨p,dx,n,m,d,rfl,hp,q⟩:=h
  refine ⟨_,(J4 (J1m (pv 0) (pv 1) rfl)
   (J4 (J1m (pv 0) (pv 2) rfl)
   (Ja (J1m (pv 0) (pv 3) rfl)))),?_⟩
  walk_at "st"
  refine ⟨_,rfl,_,rfl,p,J2,dx,[],rfl,hp,tx.J0y.cl,tx.J0t,by decide,?_⟩
  refine ⟨_,rfl,_,rfl,p,J2,dx,_,rfl,Jb,tx.J0y.cl,tx.J0a,by show 1 < 1000; decide,?_⟩
  refine ⟨_,rfl,_,rfl,p,J2,dx,_,rfl,Jb,tx.J0y.cl,tx.JS,?_,?_⟩
  ·have:=J0Y "marks" (T m) (putF "many" (.int n) [])
   have h2:=J0Y "many" (V.int n) []
   have h3 : ([] : List (Str × V)).length = 0:=rfl
   omega
  rw [put3]
  exact q
theorem J4x (tx : Tx K mg J5 J8 J2 J9 J1 Jc) : MtG P w K mg base J2 "reach" 1 ["self"] (J4K J2):=by
 refine tx.J4B.g tx.J0y.cl J3K (fun _ _ _ _ _ _ us hl=>match us,hl with | [_],_=>rfl) (fun vs H Q E h=>?_) (fun f cdv A outer s H vs Q E hr h=>?_)
 ·obtain ⟨p,n,m,d,rfl,_⟩:=h
  rfl
 ·obtain ⟨p,n,m,d,rfl,⟨dx,hp⟩,q⟩:=h
  refine ⟨_,(Ja (Jj (JC (K:=K) rfl (pv 0) rfl))),?_⟩
  walk_at "st"
  exact ⟨_,rfl,p,J2,dx,_,_,rfl,hp,tx.J0y.cl,tx.JS,J2X _ _ _,q⟩
theorem J69 (tx : Tx K mg J5 J8 J2 J9 J1 Jc) : MtG P w K mg base J2 "bad" 4 ["self","marks"] (J88 J2 J1U):=by
 have J1K:=J2o (P:=P) (w:=w) (base:=base) tx
 have J05:=J1q (P:=P) (w:=w) (base:=base) tx
 refine tx.J66.g tx.J0y.cl J5w (fun _ _ _ _ _ _ us hl=>match us,hl with | [_,_],_=>rfl) (fun vs H Q E h=>?_) (fun f cdv A outer s H vs Q E hr h=>?_)
 ·obtain ⟨p,n,m,d,l,rfl,_⟩:=h
  rfl
 ·obtain ⟨p,n,m,d,l,rfl,⟨dx,hp⟩,hm,hd,hl,q⟩:=h
  refine ⟨_,(J4 (JF (Jl J3p (Jf JE rfl tx.JO PySem.boot_len (J0 (pv 1) J3)) (JC (K:=K) rfl (pv 0) rfl) (Jn _)) (Ja (Jj J1G)) Jq)
   (Ja (Jj (J1u J3p (Jz J1K (hr.mono (by decide)) (J0 (JC (K:=K) rfl (pv 0) rfl) (J0 (Jz J05 (hr.mono (by decide)) (J0 (pv 1) (J0 (JC (K:=K) rfl (pv 0) rfl) J3))) J3))) (JC (K:=K) rfl (pv 0) rfl) (Jn _))))),?_⟩
  walk_at "st"
  refine ⟨_,rfl,l,rfl,J2w hl,_,rfl,p,J2,dx,_,_,rfl,hp,tx.J0y.cl,tx.JS,J2X _ _ _,_,_,rfl,rfl,_,rfl,?_⟩
  refine ite2 (fun c=>?_) (fun c=>?_)
  ·have c':=of_decide_eq_true c
   have e : J1U n m d l = false:=by unfold J1U; rw [if_pos c']
   have q':=q H (Same.refl _)
   rw [e] at q'
   exact q'
  have c' : ¬ ((l.length : Int) < d):=of_decide_eq_false (Bool.eq_false_iff.mpr c)
  have e : J1U n m d l = decide ((cntV m (l.drop (l.length - d.toNat)) : Int) < n):=by unfold J1U; rw [if_neg c']
  refine ⟨_,rfl,p,J2,dx,_,_,rfl,hp,tx.J0y.cl,tx.J0a,J6U _ _ _,_,rfl,_,rfl,p,J2,dx,_,_,rfl,hp,tx.J0y.cl,tx.JS,J2X _ _ _,l,d,rfl,hl,hd,m,_,rfl,hm,?_,fun H' s'=>?_⟩
  ·rw [List.length_drop]; omega
  have q':=q H' s'
  rw [e] at q'
  exact ⟨_,rfl,p,J2,dx,_,_,rfl,s' _ _ hp,tx.J0y.cl,tx.J0t,J8h _ _ _,_,_,rfl,rfl,q'⟩
theorem J1D (tx : Tx K mg J5 J8 J2 J9 J1 Jc) : MtG P w K mg base J9 "__init__" 1 ["self","left","right"] (J2y J9):=by
 refine tx.J6j.g tx.J12.cl J5x (fun _ _ _ _ _ _ us hl=>match us,hl with | [_,_,_],_=>rfl) (fun vs H Q E h=>?_) (fun f cdv A outer s H vs Q E hr h=>?_)
 ·obtain ⟨p,dx,a,b,rfl,_⟩:=h
  rfl
 ·obtain ⟨p,dx,a,b,rfl,hp,q⟩:=h
  refine ⟨_,(J4 (J1m (pv 0) (pv 1) rfl)
   (Ja (J1m (pv 0) (pv 2) rfl))),?_⟩
  walk_at "st"
  refine ⟨_,rfl,_,rfl,p,J9,dx,[],rfl,hp,tx.J12.cl,tx.J0m,by decide,?_⟩
  refine ⟨_,rfl,_,rfl,p,J9,dx,_,rfl,Jb,tx.J12.cl,tx.J03,by show 1 < 1000; decide,?_⟩
  rw [put2]
  exact q
theorem J1J (tx : Tx K mg J5 J8 J2 J9 J1 Jc) : MtG P w K mg base J1 "__init__" 1 ["self","left","right"] (J2y J1):=by
 refine tx.J4r.g tx.J06.cl J3L (fun _ _ _ _ _ _ us hl=>match us,hl with | [_,_,_],_=>rfl) (fun vs H Q E h=>?_) (fun f cdv A outer s H vs Q E hr h=>?_)
 ·obtain ⟨p,dx,a,b,rfl,_⟩:=h
  rfl
 ·obtain ⟨p,dx,a,b,rfl,hp,q⟩:=h
  refine ⟨_,(J4 (J1m (pv 0) (pv 1) rfl)
   (Ja (J1m (pv 0) (pv 2) rfl))),?_⟩
  walk_at "st"
  refine ⟨_,rfl,_,rfl,p,J1,dx,[],rfl,hp,tx.J06.cl,tx.JX,by decide,?_⟩
  refine ⟨_,rfl,_,rfl,p,J1,dx,_,rfl,Jb,tx.J06.cl,tx.JN,by show 1 < 1000; decide,?_⟩
  rw [put2]
  exact q
theorem J2r (tx : Tx K mg J5 J8 J2 J9 J1 Jc) : MtG P w K mg base Jc "__init__" 1 ["self","inner"] (J6s Jc):=by
 refine tx.J7l.g tx.J2F.cl J6o (fun _ _ _ _ _ _ us hl=>match us,hl with | [_,_],_=>rfl) (fun vs H Q E h=>?_) (fun f cdv A outer s H vs Q E hr h=>?_)
 ·obtain ⟨p,dx,a,rfl,_⟩:=h
  rfl
 ·obtain ⟨p,dx,a,rfl,hp,q⟩:=h
  refine ⟨_,(Ja (J1m (pv 0) (pv 1) rfl)),?_⟩
  walk_at "st"
  exact ⟨_,rfl,_,rfl,p,Jc,dx,[],rfl,hp,tx.J2F.cl,tx.J0j,by decide,q⟩
noncomputable abbrev cs6 (J5 J8 J2 J9 J1 Jc : Addr) : Cs:=⟨J5,J8,J2,J9,J1,Jc⟩
theorem J2m (tx : Tx K mg J5 J8 J2 J9 J1 Jc) : ∀ r : R,MtG P w K mg base (r.cls (cs6 J5 J8 J2 J9 J1 Jc)) "bad" (5 + r.depth) ["self","marks"] (JbV (cs6 J5 J8 J2 J9 J1 Jc) r)
 | .nev w=>(J6c tx).imp (fun vs H Q E ⟨p,l,e,h,hl,q⟩=>⟨p,w,l,e,h.1,h.2,hl,q⟩) |>.mono (by show 2 ≤ 5 + _; omega)
 | .most n m d=>(J7C tx).imp (fun vs H Q E ⟨p,l,e,h,hl,q⟩=>⟨p,n,m,d,l,e,h.1,h.2.1,h.2.2,hl,q⟩) |>.mono (by show 4 ≤ 5 + _; omega)
 | .least n m d=>(J69 tx).imp (fun vs H Q E ⟨p,l,e,h,hl,q⟩=>⟨p,n,m,d,l,e,h.1,h.2.1,h.2.2,hl,q⟩) |>.mono (by show 4 ≤ 5 + _; omega)
 | .both x y=>by
  have Gx:=J2m tx x
  have Gy:=J2m tx y
  refine MtG.mono (j:=(5 + max x.depth y.depth) + 1) (tx.J7k.g tx.J12.cl J67 (fun _ _ _ _ _ _ us hl=>match us,hl with | [_,_],_=>rfl) (fun vs H Q E h=>?_) (fun f cdv A outer s H vs Q E hr h=>?_)) (by show _ ≤ 5 + (max x.depth y.depth + 1); omega)
  ·obtain ⟨p,l,rfl,_⟩:=h
   rfl
  ·obtain ⟨p,l,rfl,⟨dx,a,b,e,ha,hb⟩,hl,q⟩:=h
   refine ⟨_,(Ja (Jj (JbD (J1B (P:=P) (w:=w) (K:=K) (mg:=mg) (base:=base) hr (JC (K:=K) rfl (pv 0) rfl) (J0 (pv 1) J3) rfl rfl rfl rfl rfl) (J60 (J1B (P:=P) (w:=w) (K:=K) (mg:=mg) (base:=base) hr (JC (K:=K) rfl (pv 0) rfl) (J0 (pv 1) J3) rfl rfl rfl rfl rfl))))),?_⟩
   walk_at "st"
   obtain ⟨dx1,fs1,o1,n1,_⟩:=ha.obj
   refine ⟨_,rfl,p,J9,dx,_,_,rfl,e,tx.J12.cl,tx.J0m,J3z _ _,a,_,dx1,fs1,_,_,_,rfl,o1,n1,Gx,by omega,_,rfl,a,l,rfl,ha,hl,fun H1 s1=>⟨_,rfl,?_⟩⟩
   refine ite2 (fun c=>?_) (fun c=>?_)
   ·have q':=q H1 s1
    rw [show (R.both x y).bad l = true by show (x.bad l || y.bad l) = true; rw [c,Bool.true_or]] at q'
    exact q'
   ·obtain ⟨dx2,fs2,o2,n2,_⟩:=(hb.same s1).obj
    refine ⟨_,rfl,p,J9,dx,_,_,rfl,s1 _ _ e,tx.J12.cl,tx.J03,J2I _ _,b,_,dx2,fs2,_,_,_,rfl,o2,n2,Gy,by omega,_,rfl,b,l,rfl,hb.same s1,hl,fun H2 s2=>?_⟩
    have q':=q H2 (s1.trans s2)
    rw [show (R.both x y).bad l = y.bad l by show (x.bad l || y.bad l) = y.bad l; rw [Bool.eq_false_iff.mpr c,Bool.false_or]] at q'
    exact q'
 | .either x y=>by
  have Gx:=J2m tx x
  have Gy:=J2m tx y
  refine MtG.mono (j:=(5 + max x.depth y.depth) + 1) (tx.J5F.g tx.J06.cl J4F (fun _ _ _ _ _ _ us hl=>match us,hl with | [_,_],_=>rfl) (fun vs H Q E h=>?_) (fun f cdv A outer s H vs Q E hr h=>?_)) (by show _ ≤ 5 + (max x.depth y.depth + 1); omega)
  ·obtain ⟨p,l,rfl,_⟩:=h
   rfl
  ·obtain ⟨p,l,rfl,⟨dx,a,b,e,ha,hb⟩,hl,q⟩:=h
   refine ⟨_,(Ja (Jj (J7F (J1B (P:=P) (w:=w) (K:=K) (mg:=mg) (base:=base) hr (JC (K:=K) rfl (pv 0) rfl) (J0 (pv 1) J3) rfl rfl rfl rfl rfl) (J60 (J1B (P:=P) (w:=w) (K:=K) (mg:=mg) (base:=base) hr (JC (K:=K) rfl (pv 0) rfl) (J0 (pv 1) J3) rfl rfl rfl rfl rfl))))),?_⟩
   walk_at "st"
   obtain ⟨dx1,fs1,o1,n1,_⟩:=ha.obj
   refine ⟨_,rfl,p,J1,dx,_,_,rfl,e,tx.J06.cl,tx.JX,J3z _ _,a,_,dx1,fs1,_,_,_,rfl,o1,n1,Gx,by omega,_,rfl,a,l,rfl,ha,hl,fun H1 s1=>⟨_,rfl,?_⟩⟩
   refine ite2 (fun c=>?_) (fun c=>?_)
   ·obtain ⟨dx2,fs2,o2,n2,_⟩:=(hb.same s1).obj
    refine ⟨_,rfl,p,J1,dx,_,_,rfl,s1 _ _ e,tx.J06.cl,tx.JN,J2I _ _,b,_,dx2,fs2,_,_,_,rfl,o2,n2,Gy,by omega,_,rfl,b,l,rfl,hb.same s1,hl,fun H2 s2=>?_⟩
    have q':=q H2 (s1.trans s2)
    rw [show (R.either x y).bad l = y.bad l by show (x.bad l && y.bad l) = y.bad l; rw [c,Bool.true_and]] at q'
    exact q'
   ·have q':=q H1 s1
    rw [show (R.either x y).bad l = false by show (x.bad l && y.bad l) = false; rw [Bool.eq_false_iff.mpr c,Bool.false_and]] at q'
    exact q'
 | .neg x=>by
  have Gx:=J2m tx x
  refine MtG.mono (j:=(5 + x.depth) + 1) (tx.J8z.g tx.J2F.cl J7B (fun _ _ _ _ _ _ us hl=>match us,hl with | [_,_],_=>rfl) (fun vs H Q E h=>?_) (fun f cdv A outer s H vs Q E hr h=>?_)) (by show _ ≤ 5 + (x.depth + 1); omega)
  ·obtain ⟨p,l,rfl,_⟩:=h
   rfl
  ·obtain ⟨p,l,rfl,⟨dx,a,e,ha⟩,hl,q⟩:=h
   refine ⟨_,(Ja (Jj (Jbk (J1B (P:=P) (w:=w) (K:=K) (mg:=mg) (base:=base) hr (JC (K:=K) rfl (pv 0) rfl) (J0 (pv 1) J3) rfl rfl rfl rfl rfl)))),?_⟩
   walk_at "st"
   obtain ⟨dx1,fs1,o1,n1,_⟩:=ha.obj
   exact ⟨_,rfl,p,Jc,dx,_,_,rfl,e,tx.J2F.cl,tx.J0j,J6z _,a,_,dx1,fs1,_,_,_,rfl,o1,n1,Gx,Nat.le_refl _,_,rfl,a,l,rfl,ha,hl,fun H1 s1=>⟨_,rfl,q H1 s1⟩⟩
theorem J2A (tx : Tx K mg J5 J8 J2 J9 J1 Jc) : ∀ r : R,MtG P w K mg base (r.cls (cs6 J5 J8 J2 J9 J1 Jc)) "reach" (1 + r.depth) ["self"] (JaS (cs6 J5 J8 J2 J9 J1 Jc) r)
 | .nev w=>(J4t tx).imp (fun vs H Q E ⟨p,e,h,q⟩=>⟨p,w,e,h.1,h.2,q⟩) |>.mono (by show 1 ≤ 1 + _; omega)
 | .most n m d=>(J5A tx).imp (fun vs H Q E ⟨p,e,h,q⟩=>⟨p,n,m,d,e,h.1,q⟩) |>.mono (by show 1 ≤ 1 + _; omega)
 | .least n m d=>(J4x tx).imp (fun vs H Q E ⟨p,e,h,q⟩=>⟨p,n,m,d,e,h.1,q⟩) |>.mono (by show 1 ≤ 1 + _; omega)
 | .both x y=>by
  have Gx:=J2A tx x
  have Gy:=J2A tx y
  refine MtG.mono (j:=(1 + max x.depth y.depth) + 1) (tx.J5j.g tx.J12.cl J4z (fun _ _ _ _ _ _ us hl=>match us,hl with | [_],_=>rfl) (fun vs H Q E h=>?_) (fun f cdv A outer s H vs Q E hr h=>?_)) (by show _ ≤ 1 + (max x.depth y.depth + 1); omega)
  ·obtain ⟨p,rfl,_⟩:=h
   rfl
  ·obtain ⟨p,rfl,⟨dx,a,b,e,ha,hb⟩,q⟩:=h
   refine ⟨_,(Ja (Jj (Jf (J1x rfl) rfl tx.J2p J38 (J0 (J1t (P:=P) (w:=w) (K:=K) (mg:=mg) (base:=base) hr (JC (K:=K) rfl (pv 0) rfl) rfl rfl rfl rfl rfl) (J0 (J1t (P:=P) (w:=w) (K:=K) (mg:=mg) (base:=base) hr (JC (K:=K) rfl (pv 0) rfl) rfl rfl rfl rfl rfl) J3))))),?_⟩
   walk_at "st"
   obtain ⟨dx1,fs1,o1,_,n1,_⟩:=ha.obj
   obtain ⟨dx2,fs2,o2,_,n2,_⟩:=hb.obj
   exact ⟨_,rfl,p,J9,dx,_,_,rfl,e,tx.J12.cl,tx.J0m,J3z _ _,a,_,dx1,fs1,_,_,_,rfl,o1,n1,Gx,by omega,a,rfl,ha,
    _,rfl,p,J9,dx,_,_,rfl,e,tx.J12.cl,tx.J03,J2I _ _,b,_,dx2,fs2,_,_,_,rfl,o2,n2,Gy,by omega,b,rfl,hb,_,_,rfl,q⟩
 | .either x y=>by
  have Gx:=J2A tx x
  have Gy:=J2A tx y
  refine MtG.mono (j:=(1 + max x.depth y.depth) + 1) (tx.J3Q.g tx.J06.cl J3s (fun _ _ _ _ _ _ us hl=>match us,hl with | [_],_=>rfl) (fun vs H Q E h=>?_) (fun f cdv A outer s H vs Q E hr h=>?_)) (by show _ ≤ 1 + (max x.depth y.depth + 1); omega)
  ·obtain ⟨p,rfl,_⟩:=h
   rfl
  ·obtain ⟨p,rfl,⟨dx,a,b,e,ha,hb⟩,q⟩:=h
   refine ⟨_,(Ja (Jj (Jf (J1x rfl) rfl tx.J2p J38 (J0 (J1t (P:=P) (w:=w) (K:=K) (mg:=mg) (base:=base) hr (JC (K:=K) rfl (pv 0) rfl) rfl rfl rfl rfl rfl) (J0 (J1t (P:=P) (w:=w) (K:=K) (mg:=mg) (base:=base) hr (JC (K:=K) rfl (pv 0) rfl) rfl rfl rfl rfl rfl) J3))))),?_⟩
   walk_at "st"
   obtain ⟨dx1,fs1,o1,_,n1,_⟩:=ha.obj
   obtain ⟨dx2,fs2,o2,_,n2,_⟩:=hb.obj
   exact ⟨_,rfl,p,J1,dx,_,_,rfl,e,tx.J06.cl,tx.JX,J3z _ _,a,_,dx1,fs1,_,_,_,rfl,o1,n1,Gx,by omega,a,rfl,ha,
    _,rfl,p,J1,dx,_,_,rfl,e,tx.J06.cl,tx.JN,J2I _ _,b,_,dx2,fs2,_,_,_,rfl,o2,n2,Gy,by omega,b,rfl,hb,_,_,rfl,q⟩
 | .neg x=>by
  have Gx:=J2A tx x
  refine MtG.mono (j:=(1 + x.depth) + 1) (tx.J6v.g tx.J2F.cl J5B (fun _ _ _ _ _ _ us hl=>match us,hl with | [_],_=>rfl) (fun vs H Q E h=>?_) (fun f cdv A outer s H vs Q E hr h=>?_)) (by show _ ≤ 1 + (x.depth + 1); omega)
  ·obtain ⟨p,rfl,_⟩:=h
   rfl
  ·obtain ⟨p,rfl,⟨dx,a,e,ha⟩,q⟩:=h
   refine ⟨_,(Ja (Jj (J1t (P:=P) (w:=w) (K:=K) (mg:=mg) (base:=base) hr (JC (K:=K) rfl (pv 0) rfl) rfl rfl rfl rfl rfl))),?_⟩
   walk_at "st"
   obtain ⟨dx1,fs1,o1,_,n1,_⟩:=ha.obj
   exact ⟨_,rfl,p,Jc,dx,_,_,rfl,e,tx.J2F.cl,tx.J0j,J6z _,a,_,dx1,fs1,_,_,_,rfl,o1,n1,Gx,Nat.le_refl _,a,rfl,ha,q⟩
end
section
variable {P : Program} {w : World} {K : PySem.W.Frag} {mg : Str → Option Value} {base : Heap} {J5 J8 J2 J9 J1 Jc : Addr}
theorem J2l (tx : Tx K mg J5 J8 J2 J9 J1 Jc) : FnG P w K mg base "_law_cell_at" 1 ["_law_script","_law_k"] (Jab K):=by
 refine tx.J4u.g J3O (fun _ _ _ _ _ _ us hl=>match us,hl with | [_,_],_=>rfl) (fun vs H Q E h=>?_) (fun f cdv A outer s H vs Q E hr h=>?_)
 ·obtain ⟨a,ns,k,rfl,_⟩:=h
  rfl
 ·obtain ⟨a,ns,k,rfl,hS,h0,q⟩:=h
  refine ⟨_,(J4 (JF (Jl J3p (pv 1) (Jf (JH (K:=K) rfl) rfl tx.JO PySem.boot_len (J0 (pv 0) J3)) (Jn _)) (Ja (Jj (JI (J0I (K:=K) rfl) (pv 0) (pv 1) (fun _ _=>rfl)))) Jq)
   (Ja (Jj J7))),?_⟩
  walk_at "st"
  refine ⟨_,rfl,_,rfl,a,_,rfl,.inl hS,_,_,rfl,rfl,_,rfl,?_⟩
  refine ite2 (fun c=>?_) (fun c=>?_)
  ·have c' : k < ((ns.map V.int).length : Int):=of_decide_eq_true c
   rw [List.length_map] at c'
   obtain ⟨v,hv,_⟩:=JM (ns.map V.int) k h0 (by rw [List.length_map]; exact c')
   have hv' : ∃ z,v = .int z:=by
    obtain ⟨_,hm⟩:=JM (ns.map V.int) k h0 (by rw [List.length_map]; exact c')
    rw [hv] at hm
    obtain ⟨e1,e2⟩:=hm
    cases e1
    rw [List.getElem?_map] at e2
    cases h : ns[k.toNat]? with
    | none=>rw [h] at e2; cases e2
    | some z=>rw [h] at e2; exact ⟨z,(Option.some.inj e2).symm⟩
   obtain ⟨z,rfl⟩:=hv'
   exact ⟨_,rfl,_,rfl,a,_,_,_,rfl,rfl,hS,hv,q z⟩
  ·exact q 0
end
theorem newl {H : Hp} {l : Addr} {xs : List V} (h : H l = none) : ∃ H',H' = upd H l (.lst xs) ∧ H' l = some (.lst xs) ∧ Same H H':=⟨_,rfl,Jb,JJ h _⟩
theorem newt {H : Hp} {l : Addr} {xs : List V} (h : H l = none) : ∃ H',H' = upd H l (.tup xs) ∧ H' l = some (.tup xs) ∧ Same H H':=⟨_,rfl,Jb,JJ h _⟩
noncomputable def But (p : Addr) (H H' : Hp) : Prop:=∀ a u,a ≠ p → H a = some u → H' a = some u
noncomputable def J0f (ms : List Nat) (rows : List (List Nat)) : List (List Nat):=rows.flatMap fun r=>ms.map fun c=>r ++ [c]
noncomputable def Jo (k : Nat) (l : List Nat) : List Nat:=l.drop (l.length - k)
noncomputable def newF (k : Nat) (st : List (List Nat) × List (List Nat)) (r : List Nat) : List (List Nat) × List (List Nat):=if Jo k r ∈ st.2 then st else (st.1 ++ [r],st.2 ++ [Jo k r])
noncomputable def newS (k : Nat) (rows ts : List (List Nat)) : List (List Nat) × List (List Nat):=rows.foldl (newF k) ([],ts)
noncomputable def J1E (f : List Nat → Bool) (ms : List Nat) (k : Nat) (st : List (List Nat) × List (List Nat)) : List (List Nat) × List (List Nat):=newS k ((J0f ms st.1).filter fun r=>!f r) st.2
noncomputable def itA (f : List Nat → Bool) (ms : List Nat) (k : Nat) : Nat → List (List Nat) × List (List Nat)
 | 0=>([[]],[[]])
 | n + 1=>J1E f ms k (itA f ms k n)
noncomputable def kvT (ts : List (List Nat)) : List (Key × V):=ts.map fun t=>(Sum.inr ⟨t.toArray⟩,V.bl true)
theorem J8K (k : Nat) (rows ts : List (List Nat)) (r : List Nat) : newS k (rows ++ [r]) ts = newF k (newS k rows ts) r:=by
 unfold newS
 rw [List.foldl_append]
 rfl
theorem JaD {a b : List Nat} (h : (⟨a.toArray⟩ : Str) = ⟨b.toArray⟩) : a = b:=by
 injection h with h
 simpa using congrArg Array.toList h
theorem J3B (ts : List (List Nat)) (t : List Nat) : (valV (kvT ts) (Sum.inr ⟨t.toArray⟩)).isSome = decide (t ∈ ts):=by
 induction ts with
 | nil=>rfl
 | cons x r ih =>
  by_cases e : x = t
  ·subst e
   rw [show kvT (x :: r) = ((Sum.inr ⟨x.toArray⟩ : Key),V.bl true) :: kvT r from rfl,J2J rfl]
   simp
  ·have ne : ¬ (Sum.inr (⟨x.toArray⟩ : Str) : Key) = Sum.inr ⟨t.toArray⟩:=fun z=>e (JaD (Sum.inr.inj z))
   rw [show kvT (x :: r) = ((Sum.inr ⟨x.toArray⟩ : Key),V.bl true) :: kvT r from rfl,J2R ne,ih]
   have : (t ∈ x :: r) ↔ t ∈ r:=⟨fun h=>(List.mem_cons.mp h).resolve_left fun z=>e z.symm,List.mem_cons_of_mem _⟩
   exact decide_eq_decide.mpr this.symm
theorem J8q {ts : List (List Nat)} {t : List Nat} (h : ¬ t ∈ ts) : putK (kvT ts) (Sum.inr ⟨t.toArray⟩) (V.bl true) = kvT (ts ++ [t]):=by
 have hn : valV (kvT ts) (Sum.inr ⟨t.toArray⟩) = none:=by
  cases hv : valV (kvT ts) (Sum.inr ⟨t.toArray⟩) with
  | none=>rfl
  | some v =>
   have:=J3B ts t
   rw [hv,decide_eq_false h] at this
   cases this
 rw [J9x _ hn]
 unfold kvT
 rw [List.map_append]
 rfl
noncomputable def J3r (ms : List Nat) (l : List Nat) : Prop:=∀ c ∈ l,c ∈ ms
theorem J2h (k : Nat) (P : List (List Nat) × List (List Nat) → Prop) (hs : ∀ st r,P st → P (newF k st r)) : ∀ (rows : List (List Nat)) (st : List (List Nat) × List (List Nat)),P st → P (rows.foldl (newF k) st)
 | [],_,h=>h
 | r :: rs,st,h=>J2h k P hs rs _ (hs st r h)
theorem J2s (k : Nat) (P : List (List Nat) × List (List Nat) → Prop) : ∀ (rows : List (List Nat)) (st : List (List Nat) × List (List Nat)),(∀ st r,r ∈ rows → P st → P (newF k st r)) → P st → P (rows.foldl (newF k) st)
 | [],_,_,h=>h
 | r :: rs,st,hs,h=>J2s k P rs _ (fun st x hx=>hs st x (List.mem_cons_of_mem _ hx)) (hs st r List.mem_cons_self h)
theorem J86 {ms : List Nat} {k : Nat} {l : List Nat} (h : J3r ms l) : J3r ms (Jo k l):=fun c hc=>h c (List.mem_of_mem_drop hc)
theorem J54 (k : Nat) (l : List Nat) : (Jo k l).length ≤ k:=by unfold Jo; rw [List.length_drop]; omega
noncomputable def allT (ms : List Nat) : Nat → List (List Nat)
 | 0=>[[]]
 | k + 1=>[] :: (ms.flatMap fun c=>(allT ms k).map fun t=>c :: t)
theorem J6T {ms : List Nat} : ∀ {k : Nat} {l : List Nat},J3r ms l → l.length ≤ k → l ∈ allT ms k
 | 0,[],_,_=>by simp [allT]
 | 0,_ :: _,_,h=>by simp at h
 | k + 1,[],_,_=>by simp [allT]
 | k + 1,c :: l,h,hl=>by
  have h1 : l ∈ allT ms k:=J6T (fun x hx=>h x (List.mem_cons_of_mem _ hx)) (by simpa using hl)
  have h2 : c ∈ ms:=h c List.mem_cons_self
  rw [allT]
  refine List.mem_cons_of_mem _ (List.mem_flatMap.mpr ⟨c,h2,List.mem_map.mpr ⟨l,h1,rfl⟩⟩)
theorem J1M {α β : Type} (f : α → List β) (n : Nat) : ∀ l : List α,(∀ x ∈ l,(f x).length ≤ n) → (l.flatMap f).length ≤ l.length * n
 | [],_=>Nat.zero_le _
 | x :: l,h=>by
  rw [List.flatMap_cons,List.length_append,List.length_cons,Nat.add_mul,Nat.one_mul]
  have:=J1M f n l fun y hy=>h y (List.mem_cons_of_mem _ hy)
  have:=h x List.mem_cons_self
  omega
theorem J9D (ms : List Nat) (hm : ms.length ≤ 3) : ∀ k,k ≤ 3 → (allT ms k).length ≤ 40
 | 0,_=>by simp [allT]
 | k + 1,hk=>by
  have b : ∀ k,k ≤ 2 → (allT ms k).length ≤ 13:=by
   have b0 : (allT ms 0).length ≤ 1:=by simp [allT]
   have st : ∀ j n,(allT ms j).length ≤ n → (allT ms (j + 1)).length ≤ 1 + 3 * n:=fun j n h=>by
    rw [allT,List.length_cons]
    have h1:=J1M (fun c=>(allT ms j).map fun t=>c :: t) n ms fun c _=>by rw [List.length_map]; exact h
    have h2 : ms.length * n ≤ 3 * n:=Nat.mul_le_mul_right n hm
    omega
   intro k hk
   match k,hk with
   | 0,_=>omega
   | 1,_=>exact Nat.le_trans (st 0 1 b0) (by decide)
   | 2,_=>exact Nat.le_trans (st 1 4 (Nat.le_trans (st 0 1 b0) (by decide))) (by decide)
  have h:=b k (by omega)
  rw [allT,List.length_cons]
  have h1:=J1M (fun c=>(allT ms k).map fun t=>c :: t) 13 ms fun c _=>by rw [List.length_map]; exact h
  omega
theorem J1Q {α : Type} [DecidableEq α] : ∀ {l m : List α},l.Nodup → (∀ x ∈ l,x ∈ m) → l.length ≤ m.length
 | [],_,_,_=>Nat.zero_le _
 | x :: l,m,hn,h=>by
  obtain ⟨h1,h2⟩:=List.nodup_cons.mp hn
  have hx:=h x List.mem_cons_self
  have:=J1Q (l:=l) (m:=m.erase x) h2 fun y hy=>(List.mem_erase_of_ne (fun z=>h1 (by rw [← z]; exact hy))).mpr (h y (List.mem_cons_of_mem _ hy))
  rw [List.length_erase_of_mem hx] at this
  have : 0 < m.length:=List.length_pos_of_mem hx
  rw [List.length_cons]
  omega
structure ItOk (ms : List Nat) (k : Nat) (st : List (List Nat) × List (List Nat)) : Prop where
 nd : st.2.Nodup
 tl : ∀ t ∈ st.2,J3r ms t ∧ t.length ≤ k
 rw : ∀ r ∈ st.1,J3r ms r ∧ r.length ≤ st.2.length
 ln : st.1.length ≤ st.2.length
theorem J9S (k : Nat) (st : List (List Nat) × List (List Nat)) (r : List Nat) : (newF k st r).2.length + st.1.length = st.2.length + (newF k st r).1.length:=by
 unfold newF
 split
 ·exact Nat.add_comm _ _ ▸ rfl
 ·simp only [List.length_append,List.length_singleton]; omega
theorem J45 (k : Nat) (rows ts : List (List Nat)) : (newS k rows ts).2.length = ts.length + (newS k rows ts).1.length:=by
 unfold newS
 refine J2h k (fun st=>st.2.length = ts.length + st.1.length) (fun st r h=>?_) rows ([],ts) rfl
 have:=J9S k st r
 omega
theorem ItOk.step {f : List Nat → Bool} {ms : List Nat} {k : Nat} {st : List (List Nat) × List (List Nat)} (h : ItOk ms k st) : ItOk ms k (J1E f ms k st):=by
 have hr : ∀ r ∈ (J0f ms st.1).filter fun r=>!f r,J3r ms r ∧ r.length ≤ st.2.length + 1:=fun r hr=>by
  have hr:=(List.mem_filter.mp hr).1
  unfold J0f at hr
  obtain ⟨r0,h0,hr⟩:=List.mem_flatMap.mp hr
  obtain ⟨c,hc,rfl⟩:=List.mem_map.mp hr
  obtain ⟨o,l⟩:=h.rw r0 h0
  refine ⟨fun x hx=>?_,by rw [List.length_append,List.length_singleton]; omega⟩
  rcases List.mem_append.mp hx with hx | hx
  ·exact o x hx
  ·rw [List.mem_singleton.mp hx]; exact hc
 have key:=J2s k (fun s=>s.2.Nodup ∧ (∀ t ∈ s.2,J3r ms t ∧ t.length ≤ k) ∧ (∀ r ∈ s.1,J3r ms r ∧ r.length ≤ st.2.length + 1)) ((J0f ms st.1).filter fun r=>!f r) ([],st.2) (fun s r hm ⟨a1,a2,a3⟩=>?_) ⟨h.nd,h.tl,fun r hr=>by cases hr⟩
 ·obtain ⟨a1,a2,a3⟩:=key
  have hl:=J45 k ((J0f ms st.1).filter fun r=>!f r) st.2
  refine ⟨a1,a2,fun r hr=>?_,?_⟩
  ·obtain ⟨o,l⟩:=a3 r hr
   refine ⟨o,?_⟩
   have hp : 0 < (J1E f ms k st).1.length:=List.length_pos_of_mem hr
   have hl' : (J1E f ms k st).2.length = st.2.length + (J1E f ms k st).1.length:=hl
   omega
  ·have hl' : (J1E f ms k st).2.length = st.2.length + (J1E f ms k st).1.length:=hl
   omega
 ·unfold newF
  obtain ⟨o,l⟩:=hr r hm
  by_cases ht : Jo k r ∈ s.2
  ·rw [if_pos ht]; exact ⟨a1,a2,a3⟩
  ·rw [if_neg ht]
   refine ⟨?_,fun t hx=>?_,fun x hx=>?_⟩
   ·rw [List.nodup_append]
    refine ⟨a1,List.nodup_cons.mpr ⟨by simp,List.nodup_nil⟩,fun a ha b hb=>?_⟩
    rw [List.mem_singleton.mp hb]
    exact fun z=>ht (z ▸ ha)
   ·rcases List.mem_append.mp hx with hx | hx
    ·exact a2 t hx
    ·rw [List.mem_singleton.mp hx]; exact ⟨J86 o,J54 k r⟩
   ·rcases List.mem_append.mp hx with hx | hx
    ·exact a3 x hx
    ·rw [List.mem_singleton.mp hx]; exact ⟨o,l⟩
theorem J82 (f : List Nat → Bool) (ms : List Nat) (k : Nat) : ∀ n,ItOk ms k (itA f ms k n)
 | 0=>⟨List.nodup_cons.mpr ⟨by simp,List.nodup_nil⟩,fun t ht=>by rw [List.mem_singleton.mp ht]; exact ⟨fun c hc=>(by cases hc),Nat.zero_le _⟩,fun r hr=>by rw [List.mem_singleton.mp hr]; exact ⟨fun c hc=>(by cases hc),Nat.zero_le _⟩,Nat.le_refl _⟩
 | n + 1=>(J82 f ms k n).step
theorem J0p {k : Nat} {l : List Nat} (h : l.length ≤ k) : Jo k l = l:=by
 unfold Jo
 rw [Nat.sub_eq_zero_of_le h,List.drop_zero]
theorem J4l {k : Nat} {l : List Nat} (c : Nat) (h : k ≤ l.length) : Jo k l ++ [c] = (l ++ [c]).drop (l.length - k):=by
 unfold Jo
 rw [List.drop_append_of_le_length (by omega)]
theorem JY (k : Nat) (l : List Nat) (c : Nat) : Jo k (l ++ [c]) = Jo k (Jo k l ++ [c]):=by
 by_cases h : l.length ≤ k
 ·rw [J0p h]
 ·rw [J4l c (by omega)]
  unfold Jo
  rw [List.drop_drop,List.length_drop,List.length_append,List.length_singleton]
  congr 1
  omega
noncomputable def depK (k : Nat) (f : List Nat → Bool) : Prop:=∀ l c,f (l ++ [c]) = f (Jo k l ++ [c])
theorem R.dep {r : R} (hf : r.fine) {k : Nat} (h : r.reach ≤ (k : Int) + 1) : depK k r.bad:=fun l c=>by
 by_cases hl : l.length ≤ k
 ·rw [J0p hl]
 ·rw [J4l c (by omega),R.bad_last r hf (l ++ [c]) (k + 1) (by omega) (by rw [List.length_append,List.length_singleton]; omega)]
  congr 2
  rw [List.length_append,List.length_singleton]
  omega
inductive Cl (f g : List Nat → Bool) (ms : List Nat) : List Nat → Prop
 | nil : Cl f g ms []
 | snoc {l : List Nat} {c : Nat} (h : Cl f g ms l) (hc : c ∈ ms) (hf : f (l ++ [c]) = false) (hg : g (l ++ [c]) = false) : Cl f g ms (l ++ [c])
noncomputable def J1c (f g : List Nat → Bool) (ms : List Nat) (n : Nat) : Prop:=∃ l c,Cl f g ms l ∧ l.length = n ∧ c ∈ ms ∧ f (l ++ [c]) ≠ g (l ++ [c])
noncomputable def JaK (f g : List Nat → Bool) (ms : List Nat) (n : Nat) : Prop:=J1c f g ms n ∧ ∀ m < n,¬ J1c f g ms m
structure BI (f g : List Nat → Bool) (ms : List Nat) (k n : Nat) (rows ts : List (List Nat)) : Prop where
 no : ∀ m < n,¬ J1c f g ms m
 rep : ∀ r ∈ rows,∃ l,Cl f g ms l ∧ l.length = n ∧ Jo k l = Jo k r
 all : ∀ l,Cl f g ms l → l.length ≤ n → Jo k l ∈ ts
 cls : ∀ t ∈ ts,(∃ r ∈ rows,Jo k r = t) ∨ ∀ c ∈ ms,f (t ++ [c]) = g (t ++ [c]) ∧ (f (t ++ [c]) = false → Jo k (t ++ [c]) ∈ ts)
section
variable {f g : List Nat → Bool} {ms : List Nat} {k n : Nat} {rows ts : List (List Nat)}
theorem BI.zero : BI f g ms k 0 [[]] [[]]:=by
 refine ⟨fun m hm=>absurd hm (Nat.not_lt_zero _),fun r hr=>⟨[],.nil,rfl,by rw [List.mem_singleton.mp hr]⟩,fun l _ hl=>?_,fun t ht=>.inl ⟨[],List.mem_singleton_self _,?_⟩⟩
 ·obtain rfl : l = []:=List.length_eq_zero_iff.mp (by omega)
  rw [J0p (Nat.zero_le _)]
  exact List.mem_singleton_self _
 ·rw [List.mem_singleton.mp ht,J0p (Nat.zero_le _)]
theorem BI.part (h : BI f g ms k n rows ts) (df : depK k f) (dg : depK k g) {r : List Nat} {c : Nat} (hr : r ∈ rows) (hc : c ∈ ms) (hd : f (r ++ [c]) ≠ g (r ++ [c])) : JaK f g ms n:=by
 obtain ⟨l,hl,hn,e⟩:=h.rep r hr
 refine ⟨⟨l,c,hl,hn,hc,?_⟩,h.no⟩
 rw [df l c,dg l c,e,← df r c,← dg r c]
 exact hd
theorem BI.step {rows' ts' : List (List Nat)} (h : BI f g ms k n rows ts) (df : depK k f) (dg : depK k g) (hs : ∀ r ∈ rows,∀ c ∈ ms,f (r ++ [c]) = g (r ++ [c])) (hsub : ∀ t ∈ ts,t ∈ ts')
  (hal : ∀ r ∈ rows,∀ c ∈ ms,f (r ++ [c]) = false → Jo k (r ++ [c]) ∈ ts') (hfr : ∀ t ∈ ts',t ∈ ts ∨ ∃ r ∈ rows',Jo k r = t) (hin : ∀ r' ∈ rows',∃ r ∈ rows,∃ c ∈ ms,f (r ++ [c]) = false ∧ Jo k r' = Jo k (r ++ [c])) : BI f g ms k (n + 1) rows' ts':=by
 have key : ∀ l,Cl f g ms l → l.length ≤ n → ∀ c ∈ ms,f (l ++ [c]) = g (l ++ [c]) ∧ (f (l ++ [c]) = false → Jo k (l ++ [c]) ∈ ts'):=fun l hl hn c hc=>by
  rcases h.cls _ (h.all l hl hn) with ⟨r,hr,e⟩ | hcl
  ·rw [df l c,dg l c,JY,← e,← df r c,← dg r c,← JY]
   exact ⟨hs r hr c hc,hal r hr c hc⟩
  ·obtain ⟨h1,h2⟩:=hcl c hc
   rw [df l c,dg l c,JY]
   exact ⟨h1,fun z=>hsub _ (h2 z)⟩
 refine ⟨fun m hm ⟨l,c,hl,hlm,hc,hd⟩=>hd (key l hl (by omega) c hc).1,fun r' hr'=>?_,fun l hl hln=>?_,fun t ht=>?_⟩
 ·obtain ⟨r,hr,c,hc,hf,e⟩:=hin r' hr'
  obtain ⟨l,hl,hn,e2⟩:=h.rep r hr
  have hf' : f (l ++ [c]) = false:=by rw [df l c,e2,← df r c]; exact hf
  refine ⟨l ++ [c],.snoc hl hc hf' ?_,by rw [List.length_append,hn]; rfl,by rw [JY,e2,← JY,e]⟩
  rw [← (key l hl (by omega) c hc).1]
  exact hf'
 ·cases hl with
  | nil=>exact hsub _ (h.all [] .nil (Nat.zero_le _))
  | @snoc l c hl hc hf hg=>exact (key l hl (by rw [List.length_append,List.length_singleton] at hln; omega) c hc).2 hf
 ·rcases hfr t ht with h1 | h1
  ·rcases h.cls t h1 with ⟨r,hr,e⟩ | hcl
   ·refine .inr fun c hc=>?_
    have h2:=hs r hr c hc
    have h3:=hal r hr c hc
    rw [df r c,e] at h2 h3
    rw [dg r c,e] at h2
    rw [JY,e] at h3
    exact ⟨h2,h3⟩
   ·exact .inr fun c hc=>⟨(hcl c hc).1,fun z=>hsub _ ((hcl c hc).2 z)⟩
  ·exact .inl h1
theorem BI.done (h : BI f g ms k n [] ts) (df : depK k f) (dg : depK k g) : ∀ m,¬ J1c f g ms m:=by
 have hcl : ∀ t ∈ ts,∀ c ∈ ms,f (t ++ [c]) = g (t ++ [c]) ∧ (f (t ++ [c]) = false → Jo k (t ++ [c]) ∈ ts):=fun t ht=>(h.cls t ht).resolve_left fun ⟨r,hr,_⟩=>by cases hr
 have hal : ∀ l,Cl f g ms l → Jo k l ∈ ts:=fun l hl=>by
  induction hl with
  | nil=>exact h.all [] .nil (Nat.zero_le _)
  | @snoc l c hl hc hf hg ih =>
   rw [JY]
   refine (hcl _ ih c hc).2 ?_
   rw [← df l c]
   exact hf
 rintro m ⟨l,c,hl,_,hc,hd⟩
 refine hd ?_
 rw [df l c,dg l c]
 exact (hcl _ (hal l hl) c hc).1
end
theorem J4o (k : Nat) : ∀ (rows : List (List Nat)) (st : List (List Nat) × List (List Nat)) (t : List Nat),t ∈ st.2 → t ∈ (rows.foldl (newF k) st).2
 | [],_,_,h=>h
 | r :: rs,st,t,h=>J4o k rs _ t (by unfold newF; split; exact h; exact List.mem_append_left _ h)
theorem J70 (k : Nat) : ∀ (rows : List (List Nat)) (st : List (List Nat) × List (List Nat)) (x : List Nat),x ∈ rows → Jo k x ∈ (rows.foldl (newF k) st).2
 | r :: rs,st,x,h=>by
  rcases List.mem_cons.mp h with rfl | h
  ·refine J4o k rs _ _ ?_
   unfold newF
   split
   ·assumption
   ·exact List.mem_append_right _ (List.mem_singleton_self _)
  ·exact J70 k rs _ x h
theorem J4P (k : Nat) (rows ts : List (List Nat)) : ∀ t ∈ (newS k rows ts).2,t ∈ ts ∨ ∃ r ∈ (newS k rows ts).1,Jo k r = t:=by
 unfold newS
 refine J2h k (fun st=>∀ t ∈ st.2,t ∈ ts ∨ ∃ r ∈ st.1,Jo k r = t) (fun st r h=>?_) rows ([],ts) fun t ht=>.inl ht
 unfold newF
 split
 ·exact h
 ·intro t ht
  rcases List.mem_append.mp ht with ht | ht
  ·rcases h t ht with z | ⟨x,hx,e⟩
   ·exact .inl z
   ·exact .inr ⟨x,List.mem_append_left _ hx,e⟩
  ·exact .inr ⟨r,List.mem_append_right _ (List.mem_singleton_self _),(List.mem_singleton.mp ht).symm⟩
theorem J5K (k : Nat) (rows ts : List (List Nat)) : ∀ r ∈ (newS k rows ts).1,r ∈ rows:=by
 unfold newS
 refine J2s k (fun st=>∀ r ∈ st.1,r ∈ rows) rows ([],ts) (fun st r hr h=>?_) (fun r hr=>by cases hr)
 unfold newF
 split
 ·exact h
 ·intro x hx
  rcases List.mem_append.mp hx with hx | hx
  ·exact h x hx
  ·rw [List.mem_singleton.mp hx]; exact hr
theorem J19 {ms : List Nat} {rows : List (List Nat)} {x : List Nat} : x ∈ J0f ms rows ↔ ∃ r ∈ rows,∃ c ∈ ms,x = r ++ [c]:=by
 unfold J0f
 rw [List.mem_flatMap]
 refine ⟨fun ⟨r,hr,hx⟩=>?_,fun ⟨r,hr,c,hc,e⟩=>⟨r,hr,List.mem_map.mpr ⟨c,hc,e.symm⟩⟩⟩
 obtain ⟨c,hc,e⟩:=List.mem_map.mp hx
 exact ⟨r,hr,c,hc,e.symm⟩
theorem BI.go {f g : List Nat → Bool} {ms : List Nat} {k n : Nat} {rows ts : List (List Nat)} (h : BI f g ms k n rows ts) (df : depK k f) (dg : depK k g) (hs : ∀ x ∈ J0f ms rows,f x = g x) : BI f g ms k (n + 1) (newS k ((J0f ms rows).filter fun x=>!f x) ts).1 (newS k ((J0f ms rows).filter fun x=>!f x) ts).2:=by
 refine h.step df dg (fun r hr c hc=>hs _ (J19.mpr ⟨r,hr,c,hc,rfl⟩)) (fun t ht=>J4o k _ ([],ts) t ht) (fun r hr c hc hf=>J70 k _ ([],ts) _ (List.mem_filter.mpr ⟨J19.mpr ⟨r,hr,c,hc,rfl⟩,by rw [hf]; rfl⟩)) (J4P k _ ts) fun r' hr'=>?_
 obtain ⟨h1,h2⟩:=List.mem_filter.mp (J5K k _ ts r' hr')
 obtain ⟨r,hr,c,hc,rfl⟩:=J19.mp h1
 exact ⟨r,hr,c,hc,by simpa using h2,rfl⟩
noncomputable def J8y : Sp:=fun vs H Q _=>∃ (rl : Addr) (rows : List (List Nat)) (ms : List Nat),vs = [.ref rl,T ms] ∧ H rl = some (.lst (rows.map T)) ∧ rows.length ≤ 127 ∧ (∀ r ∈ rows,r.length ≤ 127) ∧ ms.length ≤ 3 ∧ ∀ D H',H D = none → Same H H' → H' D = some (.lst ((J0f ms rows).map T)) → Q (.ref D) H'
noncomputable def Ja9 : Sp:=fun vs H Q _=>∃ (rl D : Addr) (rows ts : List (List Nat)) (k : Nat),vs = [.ref rl,.int (k : Int),.ref D] ∧ H rl = some (.lst (rows.map T)) ∧ H D = some (.dK (kvT ts)) ∧ rows.length ≤ 400 ∧ (∀ r ∈ rows,r.length ≤ 140) ∧ ts.length ≤ 127 ∧
 ∀ N H',H N = none → But D H H' → H' N = some (.lst ((newS k rows ts).1.map T)) → H' D = some (.dK (kvT (newS k rows ts).2)) → Q (.ref N) H'
noncomputable def kept (a b : R) : Nat:=((if b.reach > a.reach then b.reach else a.reach) - 1).toNat
noncomputable def alT : List Nat:=[97,108,105,107,101]
theorem J94 {α β : Type} (f : α → List β) (l : List α) {i : Nat} {x : α} (h : l[i]? = some x) : (l.take (i + 1)).flatMap f = (l.take i).flatMap f ++ f x:=by
 rw [List.take_add_one,h,List.flatMap_append]
 show _ ++ (f x ++ []) = _
 rw [List.append_nil]
theorem J7f {α : Type} (p : α → Bool) (l : List α) {i : Nat} {x : α} (h : l[i]? = some x) : (l.take (i + 1)).filter p = (l.take i).filter p ++ (if p x = true then [x] else []):=by
 rw [List.take_add_one,h,List.filter_append]
 show _ ++ ([x].filter p) = _
 rw [List.filter_cons,List.filter_nil]
theorem J8s {rows : List (List Nat)} {i : Nat} {x : V} (h : (rows.map T)[i]? = some x) : ∃ r,rows[i]? = some r ∧ x = T r:=by
 rw [List.getElem?_map] at h
 cases hr : rows[i]? with
 | none=>rw [hr] at h; cases h
 | some r=>rw [hr] at h; exact ⟨r,rfl,(Option.some.inj h).symm⟩
section
variable {P : Program} {w : World} {K : PySem.W.Frag} {mg : Str → Option Value} {base : Heap} {J5 J8 J2 J9 J1 Jc : Addr}
theorem J4C (tx : Tx K mg J5 J8 J2 J9 J1 Jc) : FnG P w K mg base "longer_rows" 1 ["rows","marks"] J8y:=by
 refine tx.J4v.g J0Z (fun _ _ _ _ _ _ us hl=>match us,hl with | [_,_],_=>rfl) (fun vs H Q E h=>?_) (fun f cdv A outer s H vs Q E hr h=>?_)
 ·obtain ⟨rl,rows,ms,rfl,_⟩:=h
  rfl
 ·obtain ⟨rl,rows,ms,rfl,h1,hl,hrl,hm,q⟩:=h
  refine ⟨_,(J4 (Je (i:=2) J0Z.nd rfl (Or.inl rfl) (J0d J3))
   (J4 (J1W PassesOwn.never rfl (J1P (K:=K) rfl (pv 0)) (JU (i:=3) J0Z.nd rfl (Or.inr rfl)) (Ja (Jbd (i:=2) J0Z.nd rfl (Or.inl rfl) (J1Y (osc:=J6 JV) (ON:=["rows","marks","longer","row"]) (N:=["mark","row"]) (js:=[none,some 3]) ⟨rfl,by decide +kernel,by decide +kernel,by decide +kernel,rfl,by decide +kernel⟩ rfl rfl rfl (J4p (pv 1)) (fun _ _ _ _ _=>JU (i:=0) (show List.Nodup (["mark","row"] : List Str) from by decide +kernel) rfl (Or.inl rfl)) (fun _ _ _ _ _=>J2L) (fun _ _ _ _ _=>(Jd Jv (pv 1) (pv 0)))) Jao)))
   (Ja (Jj (pv 2))))),?_⟩
  walk_at "st"
  walk_at "rd"
  intro D nD
  obtain ⟨H1,e1,hD,s1⟩:=newl (xs:=[]) nD
  rw [← e1]
  have h11:=s1 _ _ h1
  walk_at "rd"
  refine J26 (K:=K) (xs:=rows.map T) (fun i σ H2=>Here (∃ v,σ = [some (.ref rl),some (T ms),some (.ref D),v] ∧ H2 D = some (.lst (((rows.take i).flatMap fun r=>ms.map fun c=>r ++ [c]).map T)) ∧ Same H H2)) (Here.mk ⟨none,rfl,hD,s1⟩) (fun i σ H2 _ hv=>by obtain ⟨_,_,_,s2⟩:=hv.out; exact SqL.of (s2 _ _ h1)) ?_ ?_
  ·rintro i x σ H2 hx hv
   obtain ⟨v,rfl,hD2,s2⟩:=hv.out
   obtain ⟨r,hr1,rfl⟩:=J8s hx
   have hrr:=hrl r (List.mem_of_getElem? hr1)
   have hfl : ((((rows.take i).flatMap fun r=>ms.map fun c=>r ++ [c]).map T).length) ≤ 400:=by
    rw [List.length_map]
    have:=J1M (fun r : List Nat=>ms.map fun c=>r ++ [c]) 3 (rows.take i) fun x _=>by rw [List.length_map]; exact hm
    rw [List.length_take] at this
    have h3 : min i rows.length * 3 ≤ 127 * 3:=Nat.mul_le_mul_right 3 (by omega)
    omega
   walk_at "rd"
   refine J7d (fun x=>match x with | .str ⟨⟨l⟩⟩=>T (r ++ l) | v=>v) (J2c ms) (by rw [List.length_map]; omega) (fun x hm' H' s' R hR=>?_) (fun D2 H3 nD2 s3 hD3=>?_)
   ·obtain ⟨c,hc,rfl⟩:=List.mem_map.mp hm'
    walk_at "rd"
    exact hR H' (Same.refl _)
   have hD2':=s3 _ _ hD2
   have e3 : ((ms.map fun c=>T [c]).map fun x=>match x with | .str ⟨⟨l⟩⟩=>T (r ++ l) | v=>v) = (ms.map fun c=>r ++ [c]).map T:=by
    rw [List.map_map,List.map_map]
    rfl
   rw [e3] at hD3
   have hl3 : ((ms.map fun c=>r ++ [c]).map T).length ≤ 3:=by rw [List.length_map,List.length_map]; exact hm
   walk_at "rd"
   refine Here.mk ⟨some (T r),rfl,?_,(s2.trans s3).upd nD⟩
   rw [Jb,J94 _ _ hr1,List.map_append]
  ·rintro σ H2 hv
   obtain ⟨v,rfl,hD2,s2⟩:=hv.out
   rw [List.length_map,List.take_of_length_le (Nat.le_refl _)] at hD2
   walk_at "rd"
   exact q D H2 nD s2 hD2
theorem J2j (tx : Tx K mg J5 J8 J2 J9 J1 Jc) : FnG P w K mg base "rows_of_new_tails" 2 ["rows","kept","tails"] Ja9:=by
 have J05:=J1q (P:=P) (w:=w) (base:=base) tx
 refine tx.J2k.g JR (fun _ _ _ _ _ _ us hl=>match us,hl with | [_,_,_],_=>rfl) (fun vs H Q E h=>?_) (fun f cdv A outer s H vs Q E hr h=>?_)
 ·obtain ⟨rl,D,rows,ts,k,rfl,_⟩:=h
  rfl
 ·obtain ⟨rl,D,rows,ts,k,rfl,h1,hD,hl,hrl,htl,q⟩:=h
  refine ⟨_,(J4 (Je (i:=3) JR.nd rfl (Or.inl rfl) (J0d J3))
   (J4 (J1W PassesOwn.never rfl (J1P (K:=K) rfl (pv 0)) (JU (i:=4) JR.nd rfl (Or.inl rfl)) (J4 (Je (i:=5) JR.nd rfl (Or.inl rfl) (Jz J05 (hr.mono (by decide)) (J0 (pv 4) (J0 (pv 1) J3))))
   (Ja (JF (J81 (J3a (J5f hr) (pv 5) (pv 2)) rfl) (J4 (J8a (J5f hr) (pv 2) (pv 5) J1G rfl)
   (Ja (J1v (J2S PySem.F.plainAttrs_list PySem.F.slot_list_append PySem.F.type_list_append J0D (pv 3) (J0 (pv 4) J3))))) Jq))))
   (Ja (Jj (pv 3))))),?_⟩
  walk_at "st"
  walk_at "rd"
  intro N nN
  have nDN : D ≠ N:=Jp hD nN
  obtain ⟨H1,e1,hN,s1⟩:=newl (xs:=[]) nN
  rw [← e1]
  have h11:=s1 _ _ h1
  walk_at "rd"
  refine J26 (K:=K) (xs:=rows.map T) (fun i σ H2=>Here (∃ v1 v2,σ = [some (.ref rl),some (.int (k : Int)),some (.ref D),some (.ref N),v1,v2] ∧ H2 N = some (.lst ((newS k (rows.take i) ts).1.map T)) ∧ H2 D = some (.dK (kvT (newS k (rows.take i) ts).2)) ∧ But D H H2)) (Here.mk ⟨none,none,rfl,hN,s1 _ _ hD,fun a u _ e=>s1 a u e⟩) (fun i σ H2 _ hv=>by obtain ⟨_,_,_,_,_,s2⟩:=hv.out; exact SqL.of (s2 _ _ (J9q h1 hD (fun z=>by cases z)) h1)) ?_ ?_
  ·rintro i x σ H2 hx hv
   obtain ⟨v1,v2,rfl,hN2,hD2,s2⟩:=hv.out
   obtain ⟨r,hr1,rfl⟩:=J8s hx
   have hrr:=hrl r (List.mem_of_getElem? hr1)
   have htk : newS k (rows.take (i + 1)) ts = newF k (newS k (rows.take i) ts) r:=by rw [List.take_add_one,hr1]; exact J8K _ _ _ _
   have hln:=J45 k (rows.take i) ts
   have hlk : (newS k (rows.take i) ts).1.length ≤ 400:=by
    have h3:=J2h k (fun st=>True) (fun _ _ _=>trivial) (rows.take i) ([],ts) trivial
    have h4 : ∀ (l : List (List Nat)) (st : List (List Nat) × List (List Nat)),(l.foldl (newF k) st).1.length ≤ st.1.length + l.length:=by
     intro l
     induction l with
     | nil=>intro st; exact Nat.le_refl _
     | cons x l ih =>
      intro st
      refine Nat.le_trans (ih _) ?_
      have : (newF k st x).1.length ≤ st.1.length + 1:=by
       unfold newF
       split
       ·omega
       ·rw [List.length_append,List.length_singleton]; omega
      rw [List.length_cons]
      omega
    have:=h4 (rows.take i) ([],ts)
    rw [List.length_take] at this
    have h5 : (newS k (rows.take i) ts).1.length ≤ 0 + min i rows.length:=this
    omega
   generalize newS k (rows.take i) ts = st at htk hln hN2 hD2 hlk
   have ek : r.drop (r.length - ((k : Int)).toNat) = Jo k r:=by rw [Int.toNat_natCast]; rfl
   have hg : DGet H2 D (T (r.drop (r.length - ((k : Int)).toNat))) (valV (kvT st.2) (Sum.inr ⟨(Jo k r).toArray⟩)):=by rw [ek]; exact DGet.k (k:=Sum.inr ⟨(Jo k r).toArray⟩) hD2
   have hkl : (kvT st.2).length < sizeLine:=by
    unfold kvT
    rw [List.length_map]
    exact Nat.lt_of_lt_of_le (show st.2.length < 600 by omega) (by decide)
   have hp : DPut H2 D (T (r.drop (r.length - ((k : Int)).toNat))) (.bl true) (upd H2 D (.dK (putK (kvT st.2) (Sum.inr ⟨(Jo k r).toArray⟩) (.bl true)))):=by rw [ek]; exact DPut.k (k:=Sum.inr ⟨(Jo k r).toArray⟩) hD2 hkl
   have hN3 : upd H2 D (.dK (putK (kvT st.2) (Sum.inr ⟨(Jo k r).toArray⟩) (.bl true))) N = some (.lst (st.1.map T)):=by rw [Jr nDN.symm]; exact hN2
   have hl3 : (st.1.map T).length ≤ 1000:=by rw [List.length_map]; omega
   walk_at "rd"
   rw [J3B]
   refine ite2 (fun z=>?_) (fun z=>?_)
   ·have z' : ¬ Jo k r ∈ st.2:=fun y=>by rw [decide_eq_true y] at z; cases z
    walk_at "rd"
    have e : newF k st r = (st.1 ++ [r],st.2 ++ [Jo k r]):=by unfold newF; rw [if_neg z']
    rw [J8q z'] at hN3 ⊢
    refine Here.mk ⟨_,_,rfl,?_,?_,fun a u na ea=>?_⟩
    ·rw [Jb,htk,e,List.map_append]; rfl
    ·rw [Jr nDN,Jb,htk,e]
    ·rw [Jr (Jp ea nN),Jr na]; exact s2 a u na ea
   ·have z' : Jo k r ∈ st.2:=Decidable.byContradiction fun y=>z (by rw [decide_eq_false y]; rfl)
    walk_at "rd"
    have e : newF k st r = st:=by unfold newF; rw [if_pos z']
    exact Here.mk ⟨_,_,rfl,by rw [htk,e]; exact hN2,by rw [htk,e]; exact hD2,s2⟩
  ·rintro σ H2 hv
   obtain ⟨v1,v2,rfl,hN2,hD2,s2⟩:=hv.out
   rw [List.length_map,List.take_of_length_le (Nat.le_refl _)] at hN2 hD2
   walk_at "rd"
   exact q N H2 nN s2 hN2 hD2
end
noncomputable def paT : List Nat:=[112,97,114,116,101,100]
noncomputable def J8p (a b : R) (ms : List Nat) : Prop:=(a.reach ≤ 4 ∧ b.reach ≤ 4 ∧ ms.length ≤ 3) ∨ (a.reach ≤ 7 ∧ b.reach ≤ 7 ∧ ms.length ≤ 2)
theorem J2d {ms : List Nat} {m : Nat} (hm : ms.length ≤ m) (j n : Nat) (h : (allT ms j).length ≤ n) : (allT ms (j + 1)).length ≤ 1 + m * n:=by
 rw [allT,List.length_cons]
 have h1:=J1M (fun c=>(allT ms j).map fun t=>c :: t) n ms fun c _=>by rw [List.length_map]; exact h
 have h2 : ms.length * n ≤ m * n:=Nat.mul_le_mul_right n hm
 omega
theorem Jbm {ms : List Nat} (hm : ms.length ≤ 2) : ∀ k,k ≤ 6 → (allT ms k).length ≤ 127:=fun k hk=>by
 have b0 : (allT ms 0).length ≤ 1:=by simp [allT]
 have b1:=J2d hm 0 1 b0
 have b2:=J2d hm 1 _ b1
 have b3:=J2d hm 2 _ b2
 have b4:=J2d hm 3 _ b3
 have b5:=J2d hm 4 _ b4
 have b6:=J2d hm 5 _ b5
 match k,hk with
 | 0,_=>omega
 | 1,_=>exact Nat.le_trans b1 (by decide)
 | 2,_=>exact Nat.le_trans b2 (by decide)
 | 3,_=>exact Nat.le_trans b3 (by decide)
 | 4,_=>exact Nat.le_trans b4 (by decide)
 | 5,_=>exact Nat.le_trans b5 (by decide)
 | 6,_=>exact b6
theorem J8p.all {a b : R} {ms : List Nat} (h : J8p a b ms) (ha : 1 ≤ a.reach) (hb : 1 ≤ b.reach) : (allT ms (kept a b)).length ≤ 127 ∧ ms.length ≤ 3:=by
 have ek : ((kept a b : Nat) : Int) = (if b.reach > a.reach then b.reach else a.reach) - 1:=by
  unfold kept
  rw [Int.toNat_of_nonneg (by split <;> omega)]
 rcases h with ⟨h1,h2,h3⟩ | ⟨h1,h2,h3⟩
 ·have : kept a b ≤ 3:=by
   have : ((kept a b : Nat) : Int) ≤ 3:=by rw [ek]; split <;> omega
   omega
  exact ⟨Nat.le_trans (J9D ms h3 _ this) (by decide),h3⟩
 ·have : kept a b ≤ 6:=by
   have : ((kept a b : Nat) : Int) ≤ 6:=by rw [ek]; split <;> omega
   omega
  exact ⟨Jbm h3 _ this,by omega⟩
theorem ItOk.le11 {ms : List Nat} {k : Nat} {st : List (List Nat) × List (List Nat)} (h : ItOk ms k st) (ha : (allT ms k).length ≤ 127) : st.2.length ≤ 127 :=
 Nat.le_trans (J1Q h.nd fun t ht=>J6T (h.tl t ht).1 (h.tl t ht).2) ha
structure Ends (f g : List Nat → Bool) (ms : List Nat) (k : Nat) (ts : List (List Nat)) : Prop where
 nd : ts.Nodup
 it : ∀ x,x ∈ ts ↔ ∃ l,Cl f g ms l ∧ Jo k l = x
theorem Cl.flip {f g : List Nat → Bool} {ms l : List Nat} (h : Cl f g ms l) : Cl g f ms l:=by
 induction h with
 | nil=>exact .nil
 | snoc h hc hf hg ih=>exact .snoc ih hc hg hf
theorem Ends.flip {f g : List Nat → Bool} {ms : List Nat} {k : Nat} {ts : List (List Nat)} (h : Ends f g ms k ts) : Ends g f ms k ts :=
 ⟨h.nd,fun x=>(h.it x).trans ⟨fun ⟨l,a,b⟩=>⟨l,a.flip,b⟩,fun ⟨l,a,b⟩=>⟨l,a.flip,b⟩⟩⟩
structure CR (f g : List Nat → Bool) (ms : List Nat) (k : Nat) (rows ts : List (List Nat)) : Prop where
 r : ∀ r ∈ rows,Cl f g ms r
 t : ∀ t ∈ ts,∃ l,Cl f g ms l ∧ Jo k l = t
theorem CR.zero {f g : List Nat → Bool} {ms : List Nat} {k : Nat} : CR f g ms k [[]] [[]]:=by
 refine ⟨fun r hr=>?_,fun t ht=>⟨[],.nil,?_⟩⟩
 ·rw [List.mem_singleton.mp hr]; exact .nil
 ·rw [List.mem_singleton.mp ht,J0p (Nat.zero_le _)]
theorem CR.go {f g : List Nat → Bool} {ms : List Nat} {k : Nat} {rows ts : List (List Nat)} (h : CR f g ms k rows ts) (hs : ∀ x ∈ J0f ms rows,f x = g x) : CR f g ms k (newS k ((J0f ms rows).filter fun x=>!f x) ts).1 (newS k ((J0f ms rows).filter fun x=>!f x) ts).2:=by
 have hr : ∀ r ∈ (newS k ((J0f ms rows).filter fun x=>!f x) ts).1,Cl f g ms r:=fun r hr=>by
  obtain ⟨h1,h2⟩:=List.mem_filter.mp (J5K k _ ts r hr)
  have h3:=hs r h1
  obtain ⟨r0,h0,c,hc,rfl⟩:=J19.mp h1
  have hf : f (r0 ++ [c]) = false:=by simpa using h2
  exact .snoc (h.r r0 h0) hc hf (by rw [← h3]; exact hf)
 refine ⟨hr,fun t ht=>?_⟩
 rcases J4P k _ ts t ht with z | ⟨r,h1,e⟩
 ·exact h.t t z
 ·exact ⟨r,hr r h1,e⟩
theorem BI.ends {f g : List Nat → Bool} {ms : List Nat} {k n : Nat} {ts : List (List Nat)} (h : BI f g ms k n [] ts) (c : CR f g ms k [] ts) (df : depK k f) (nd : ts.Nodup) : Ends f g ms k ts:=by
 have hcl : ∀ t ∈ ts,∀ c ∈ ms,f (t ++ [c]) = g (t ++ [c]) ∧ (f (t ++ [c]) = false → Jo k (t ++ [c]) ∈ ts):=fun t ht=>(h.cls t ht).resolve_left fun ⟨r,hr,_⟩=>by cases hr
 refine ⟨nd,fun x=>⟨c.t x,?_⟩⟩
 rintro ⟨l,hl,rfl⟩
 induction hl with
 | nil=>exact h.all [] .nil (Nat.zero_le _)
 | @snoc l c hl hc hf hg ih =>
  rw [JY]
  refine (hcl _ ih c hc).2 ?_
  rw [← df l c]
  exact hf
noncomputable def J7x (c6 : Cs) : Sp:=fun vs H Q _=>∃ (pa pb : Addr) (a b : R) (ms : List Nat),vs = [.ref pa,.ref pb,T ms] ∧ Jk c6 H a pa ∧ Jk c6 H b pb ∧ a.fine ∧ b.fine ∧ a.depth ≤ 20 ∧ b.depth ≤ 20 ∧ J8p a b ms ∧
 (∀ (t : Addr) (l : List Nat) (c : Nat) H',H t = none → Same H H' → H' t = some (.tup [T paT,T (l ++ [c])]) → l.length ≤ 127 → Cl a.bad b.bad ms l → c ∈ ms → a.bad (l ++ [c]) ≠ b.bad (l ++ [c]) → (∃ n,J1c a.bad b.bad ms n) → Q (.ref t) H') ∧
 (∀ (t l : Addr) H' ss ts,H t = none → H l = none → t ≠ l → Same H H' → H' t = some (.tup [T alT,.ref l]) → H' l = some (.lst (ss.map V.str)) → ss.Perm (ts.map fun t=>(⟨t.toArray⟩ : Str)) → PyProof.Rows.sortedS ss = true → ts.length ≤ 127 → Ends a.bad b.bad ms (kept a b) ts → (∀ n,¬ J1c a.bad b.bad ms n) → Q (.ref t) H')
section
variable {P : Program} {w : World} {K : PySem.W.Frag} {mg : Str → Option Value} {base : Heap} {J5 J8 J2 J9 J1 Jc : Addr}
theorem Ja5 (tx : Tx K mg J5 J8 J2 J9 J1 Jc) : FnG P w K mg base "alike" 30 ["rule","other","marks"] (J7x (cs6 J5 J8 J2 J9 J1 Jc)):=by
 have J2n:=J4C (P:=P) (w:=w) (base:=base) tx
 have J1o:=J2j (P:=P) (w:=w) (base:=base) tx
 refine tx.Ja6.g J1f (fun _ _ _ _ _ _ us hl=>match us,hl with | [_,_,_],_=>rfl) (fun vs H Q E h=>?_) (fun f cdv A outer s H vs Q E hr h=>?_)
 ·obtain ⟨pa,pb,a,b,ms,rfl,_⟩:=h
  rfl
 ·obtain ⟨pa,pb,a,b,ms,rfl,ha,hb,fa,fb,da,db,hF,q1,q2⟩:=h
  refine ⟨_,(J4 (Je (i:=3) J1f.nd rfl (Or.inl rfl) (Jd J28 (Jf (J1x rfl) rfl tx.J2p J38 (J0 (J1t (P:=P) (w:=w) (K:=K) (mg:=mg) (base:=base) hr (pv 0) rfl rfl rfl rfl rfl) (J0 (J1t (P:=P) (w:=w) (K:=K) (mg:=mg) (base:=base) hr (pv 1) rfl rfl rfl rfl rfl) J3))) J7))
   (J4 (Je (i:=4) J1f.nd rfl (Or.inl rfl) (J8r (J79 (Js (l:=[]) (by decide +kernel)) J1G J8d) rfl rfl (by simp) (by decide)))
   (J4 (Je (i:=5) J1f.nd rfl (Or.inl rfl) (J0d (J0 (Js (l:=[]) (by decide +kernel)) J3)))
   (J4 (J4j PassesOwn.never (J9o (pv 5) (fun _=>rfl)) (J4 (Je (i:=6) J1f.nd rfl (Or.inl rfl) (J0d J3))
   (J4 (J1W PassesOwn.never rfl (J1P (K:=K) rfl (Jz J2n (hr.mono (by decide)) (J0 (pv 5) (J0 (pv 2) J3)))) (JU (i:=7) J1f.nd rfl (Or.inl rfl)) (J4 (Je (i:=8) J1f.nd rfl (Or.inl rfl) (J1B (P:=P) (w:=w) (K:=K) (mg:=mg) (base:=base) hr (pv 0) (J0 (pv 7) J3) rfl rfl rfl rfl rfl))
   (J4 (JF (Jl J4m (pv 8) (J1B (P:=P) (w:=w) (K:=K) (mg:=mg) (base:=base) hr (pv 1) (J0 (pv 7) J3) rfl rfl rfl rfl rfl) (Jn _)) (Ja (Jj (J84 (J0 (Js (l:=[112,97,114,116,101,100]) (by decide +kernel)) (J0 (pv 7) J3))))) Jq)
   (Ja (JF (J3d (J27 (pv 8))) (Ja (J1v (J2S PySem.F.plainAttrs_list PySem.F.slot_list_append PySem.F.type_list_append J0D (pv 6) (J0 (pv 7) J3)))) Jq)))))
   (J4 (Je (i:=5) J1f.nd rfl (Or.inl rfl) (Jz J1o (hr.mono (by decide)) (J0 (pv 6) (J0 (pv 3) (J0 (pv 4) J3)))))
   (Ja (JF (Jl J8f (Jf J5a rfl tx.JO PySem.boot_len (J0 (pv 4) J3)) (Ja3 rfl tx.J10) (Jn _)) (Ja J9W) Jq))))))
   (Ja (Jj (J84 (J0 (Js (l:=[97,108,105,107,101]) (by decide +kernel)) (J0 (Jf (J4G rfl) rfl tx.J22 J8M (J0 (pv 4) J3)) J3))))))))),?_⟩
  walk_at "st"
  clear J2n J1o
  obtain ⟨dxa,fsa,oa,na1,na2,_⟩:=ha.obj
  obtain ⟨dxb,fsb,ob,nb1,nb2,_⟩:=hb.obj
  have Fa:=J2A (P:=P) (w:=w) (base:=base) tx a
  have Fb:=J2A (P:=P) (w:=w) (base:=base) tx b
  have Ba:=J2m (P:=P) (w:=w) (base:=base) tx a
  have Bb:=J2m (P:=P) (w:=w) (base:=base) tx b
  have wa:=R.far17 fa
  have wb:=R.far17 fb
  have ek : ((if b.reach > a.reach then b.reach else a.reach) - 1 : Int) = ((kept a b : Nat) : Int):=by
   unfold kept
   rw [Int.toNat_of_nonneg (by split <;> omega)]
  obtain ⟨hA,hm⟩:=hF.all wa.1 wb.1
  have dfa : depK (kept a b) a.bad:=R.dep fa (by rw [← ek]; split <;> omega)
  have dfb : depK (kept a b) b.bad:=R.dep fb (by rw [← ek]; split <;> omega)
  have dK1 : 1 + a.depth ≤ 29:=by omega
  have dK2 : 1 + b.depth ≤ 29:=by omega
  have dK3 : 5 + a.depth ≤ 29:=by omega
  have dK4 : 5 + b.depth ≤ 29:=by omega
  walk_at "rd"
  intro D nD
  refine ⟨Jb,[(Sum.inr ⟨#[]⟩,.bl true)],rfl,(by decide),?_⟩
  obtain ⟨H1,e1⟩ : ∃ H1,H1 = upd (upd H D (.dK [])) D (.dK (J2t [] [(Sum.inr ⟨#[]⟩,.bl true)])):=⟨_,rfl⟩
  rw [← e1]
  have hD1 : H1 D = some (.dK (kvT [[]])):=by rw [e1,Jb]; rfl
  have s1 : Same H H1:=by rw [e1]; exact (JJ nD _).upd nD
  clear e1
  walk_at "rd"
  intro rl nrl
  obtain ⟨H2,e2,hrl,s2⟩:=newl (xs:=[T []]) nrl
  rw [← e2]
  refine ⟨fun m σ H'=>Here (∃ n r v1 v2 v3,σ = [some (.ref pa),some (.ref pb),some (T ms),some (.int (kept a b : Nat)),some (.ref D),some (.ref r),v1,v2,v3] ∧ H' D = some (.dK (kvT (itA a.bad ms (kept a b) n).2)) ∧ H' r = some (.lst ((itA a.bad ms (kept a b) n).1.map T)) ∧ Same H H' ∧ BI a.bad b.bad ms (kept a b) n (itA a.bad ms (kept a b) n).1 (itA a.bad ms (kept a b) n).2 ∧ CR a.bad b.bad ms (kept a b) (itA a.bad ms (kept a b) n).1 (itA a.bad ms (kept a b) n).2 ∧ (∀ x ∈ (itA a.bad ms (kept a b) n).1,x.length = n) ∧ m = (127 - (itA a.bad ms (kept a b) n).2.length) + (if (itA a.bad ms (kept a b) n).1 = [] then 0 else 1)),⟨_,Here.mk ⟨0,rl,none,none,none,?_,s2 _ _ hD1,hrl,s1.trans s2,BI.zero,CR.zero,(fun x hx=>by rw [List.mem_singleton.mp hx]; rfl),rfl⟩⟩,?_⟩
  ·exact congrArg (fun z=>[some (.ref pa),some (.ref pb),some (T ms),some (.int z),some (.ref D),some (.ref rl),none,none,none]) ek
  rintro m σ H3 hv
  obtain ⟨n,r,v1,v2,v3,rfl,hD3,hr3,s3,hBI,hCR,hLn,rfl⟩:=hv.out
  have hok:=J82 a.bad ms (kept a b) n
  have hstep : itA a.bad ms (kept a b) (n + 1) = J1E a.bad ms (kept a b) (itA a.bad ms (kept a b) n):=rfl
  have hokS:=J82 a.bad ms (kept a b) (n + 1)
  have hle:=hok.le11 hA
  have hleS:=hokS.le11 hA
  refine ⟨_,rfl,_,Or.inl ⟨_,SqL.of hr3,rfl⟩,?_⟩
  by_cases he : (itA a.bad ms (kept a b) n).1 = []
  ·have hf : (!((itA a.bad ms (kept a b) n).1.map T).isEmpty) = false:=by rw [he]; rfl
   rw [hf]
   have hks : (kvT (itA a.bad ms (kept a b) n).2).map (·.1) = ((itA a.bad ms (kept a b) n).2.map fun t=>(⟨t.toArray⟩ : Str)).map Sum.inr:=by
    unfold kvT
    rw [List.map_map,List.map_map]
    rfl
   have hsl : ((itA a.bad ms (kept a b) n).2.map fun t=>(⟨t.toArray⟩ : Str)).length ≤ 100000:=by rw [List.length_map]; omega
   walk_at "rd"
   intro l ss nl hp hs
   obtain ⟨H4,e4,hl4,s4⟩:=newl (xs:=ss.map V.str) nl
   rw [← e4]
   walk_at "rd"
   intro t nt
   rw [he] at hBI hCR
   have s5 : Same H4 (upd H4 t (.tup [T alT,.ref l])):=JJ nt _
   exact q2 t l _ ss _ ((s3.trans s4).free nt) (s3.free nl) (Jp hl4 nt).symm ((s3.trans s4).trans s5) Jb (s5 _ _ hl4) hp hs hle (hBI.ends hCR dfa hok.nd) (hBI.done dfa dfb)
  ·have hf : (!((itA a.bad ms (kept a b) n).1.map T).isEmpty) = true:=by
    cases h : (itA a.bad ms (kept a b) n).1 with
    | nil=>exact absurd h he
    | cons _ _=>rfl
   rw [hf]
   refine ⟨fun σ' H'=>Here (∃ r v1 v2 v3,σ' = [some (.ref pa),some (.ref pb),some (T ms),some (.int (kept a b : Nat)),some (.ref D),some (.ref r),v1,v2,v3] ∧ H' D = some (.dK (kvT (itA a.bad ms (kept a b) (n + 1)).2)) ∧ H' r = some (.lst ((itA a.bad ms (kept a b) (n + 1)).1.map T)) ∧ Same H H' ∧ BI a.bad b.bad ms (kept a b) (n + 1) (itA a.bad ms (kept a b) (n + 1)).1 (itA a.bad ms (kept a b) (n + 1)).2 ∧ CR a.bad b.bad ms (kept a b) (itA a.bad ms (kept a b) (n + 1)).1 (itA a.bad ms (kept a b) (n + 1)).2 ∧ (∀ x ∈ (itA a.bad ms (kept a b) (n + 1)).1,x.length = n + 1)),fun σ' H' h'=>?_,?_⟩
   ·obtain ⟨r',u1,u2,u3,rfl,k1,k2,k3,k4,k4',k5⟩:=h'.out
    refine ⟨_,?_,Here.mk ⟨n + 1,r',u1,u2,u3,rfl,k1,k2,k3,k4,k4',k5,rfl⟩⟩
    have hl : (itA a.bad ms (kept a b) (n + 1)).2.length = (itA a.bad ms (kept a b) n).2.length + (itA a.bad ms (kept a b) (n + 1)).1.length:=J45 _ _ _
    rw [if_neg he]
    by_cases h0 : (itA a.bad ms (kept a b) (n + 1)).1 = []
    ·rw [if_pos h0]
     rw [h0] at hl
     have : (itA a.bad ms (kept a b) (n + 1)).2.length = (itA a.bad ms (kept a b) n).2.length:=hl
     omega
    ·rw [if_neg h0]
     have : 0 < (itA a.bad ms (kept a b) (n + 1)).1.length:=List.length_pos_iff.mpr h0
     omega
   have hr1 : (itA a.bad ms (kept a b) n).1.length ≤ 127:=by have:=hok.ln; omega
   have hr2 : ∀ x ∈ (itA a.bad ms (kept a b) n).1,x.length ≤ 127:=fun x hx=>by have:=(hok.rw x hx).2; omega
   generalize itA a.bad ms (kept a b) n = st at *
   walk_at "rd"
   intro g ng
   obtain ⟨H4,e4,hg,s4⟩:=newl (xs:=[]) ng
   rw [← e4]
   have hr4:=s4 _ _ hr3
   walk_at "rd"
   intro D5 H5 nD5 s5 hD5
   have lL : (J0f ms st.1).length ≤ 400:=by
    have h1:=J1M (fun r : List Nat=>ms.map fun c=>r ++ [c]) 3 st.1 fun x _=>by rw [List.length_map]; exact hm
    have h3 : st.1.length * 3 ≤ 127 * 3:=Nat.mul_le_mul_right 3 hr1
    exact Nat.le_trans h1 (by omega)
   have lR : ∀ x ∈ J0f ms st.1,x.length ≤ 128:=fun x hx=>by
    unfold J0f at hx
    obtain ⟨r0,h0,hx⟩:=List.mem_flatMap.mp hx
    obtain ⟨c,hc,rfl⟩:=List.mem_map.mp hx
    have:=hr2 r0 h0
    rw [List.length_append,List.length_singleton]
    omega
   have hS0 : J1E a.bad ms (kept a b) st = newS (kept a b) ((J0f ms st.1).filter fun r=>!a.bad r) st.2:=rfl
   have hPart : ∀ x ∈ J0f ms st.1,a.bad x ≠ b.bad x → JaK a.bad b.bad ms n ∧ x.length = n + 1:=fun x hx hd=>by
    obtain ⟨r0,h0,c,hc,rfl⟩:=J19.mp hx
    exact ⟨hBI.part dfa dfb h0 hc hd,by rw [List.length_append,hLn r0 h0]; rfl⟩
   have hPt : ∀ x ∈ J0f ms st.1,∃ l c,x = l ++ [c] ∧ Cl a.bad b.bad ms l ∧ c ∈ ms ∧ l.length ≤ 127:=fun x hx=>by
    obtain ⟨r0,h0,c,hc,rfl⟩:=J19.mp hx
    exact ⟨r0,c,rfl,hCR.r r0 h0,hc,hr2 r0 h0⟩
   have hGoC : (∀ x ∈ J0f ms st.1,a.bad x = b.bad x) → CR a.bad b.bad ms (kept a b) (J1E a.bad ms (kept a b) st).1 (J1E a.bad ms (kept a b) st).2:=fun h=>hCR.go h
   have hGo : (∀ x ∈ J0f ms st.1,a.bad x = b.bad x) → BI a.bad b.bad ms (kept a b) (n + 1) (J1E a.bad ms (kept a b) st).1 (J1E a.bad ms (kept a b) st).2:=fun h=>hBI.go dfa dfb h
   have hLn' : ∀ x ∈ (J1E a.bad ms (kept a b) st).1,x.length = n + 1:=fun x hx=>by
    obtain ⟨r0,h0,c,hc,rfl⟩:=J19.mp (List.mem_filter.mp (J5K _ _ _ x hx)).1
    rw [List.length_append,hLn r0 h0]
    rfl
   generalize J0f ms st.1 = L at lL lR hD5 hS0 hPart hPt hGo hGoC
   have ngD : g ≠ D5:=Jp hg nD5
   have nrg : ∀ x u,H3 x = some u → x ≠ g:=fun x u e=>Jp e ng
   refine ⟨D5,rfl,⟨_,SqL.of hD5⟩,?_⟩
   refine J26 (K:=K) (xs:=L.map T) (fun i σ H6=>Here (∃ v2 v3,σ = [some (.ref pa),some (.ref pb),some (T ms),some (.int (kept a b : Nat)),some (.ref D),some (.ref r),some (.ref g),v2,v3] ∧ H6 g = some (.lst (((L.take i).filter fun r=>!a.bad r).map T)) ∧ Same H3 H6 ∧ H6 D5 = some (.lst (L.map T)) ∧ ∀ x ∈ L.take i,a.bad x = b.bad x)) (Here.mk ⟨_,_,rfl,s5 _ _ hg,s4.trans s5,hD5,fun x hx=>(by cases hx)⟩) (fun i σ H6 _ hv=>by obtain ⟨_,_,_,_,_,h,_⟩:=hv.out; exact SqL.of h) ?_ ?_
   ·rintro i x σ H6 hx hv
    obtain ⟨v2,v3,rfl,hg6,s6,hD6,hEq⟩:=hv.out
    obtain ⟨l,hl1,rfl⟩:=J8s hx
    have hll:=lR l (List.mem_of_getElem? hl1)
    have hll' : l.length ≤ 1000:=by omega
    have S6:=s3.trans s6
    have ha6:=ha.same S6
    have oa6:=S6 _ _ oa
    have eft:=J7f (fun r=>!a.bad r) L hl1
    have hgl : (((L.take i).filter fun r=>!a.bad r).map T).length ≤ 1000:=by
     rw [List.length_map]
     have:=List.length_filter_le (fun r=>!a.bad r) (L.take i)
     rw [List.length_take] at this
     omega
    walk_at "rd"
    intro H7 s7
    have hb7:=hb.same (S6.trans s7)
    have ob7:=(S6.trans s7) _ _ ob
    walk_at "rd"
    intro H8 s8
    have hg8:=(s7.trans s8) _ _ hg6
    walk_at "rd"
    refine ite2 (fun u=>?_) (fun u=>?_)
    ·have u' : a.bad l ≠ b.bad l:=fun y=>by rw [y,decide_eq_true rfl] at u; cases u
     obtain ⟨p1,p2⟩:=hPart l (List.mem_of_getElem? hl1) u'
     walk_at "rd"
     intro t nt
     have S8:=(S6.trans s7).trans s8
     obtain ⟨l0,c,rfl,h1,h2,h3⟩:=hPt l (List.mem_of_getElem? hl1)
     exact q1 t l0 c _ (S8.free nt) (S8.trans (JJ nt _)) Jb h3 h1 h2 u' ⟨n,p1.1⟩
    have u' : a.bad l = b.bad l:=Decidable.byContradiction fun y=>u (by rw [decide_eq_false fun v=>y (V.bl.inj v)]; rfl)
    have hEq' : ∀ x ∈ L.take (i + 1),a.bad x = b.bad x:=fun x hx=>by
     rw [List.take_add_one,hl1] at hx
     rcases List.mem_append.mp hx with hx | hx
     ·exact hEq x hx
     ·rw [List.mem_singleton.mp hx]; exact u'
    walk_at "rd"
    refine ite2 (fun z=>?_) (fun z=>?_)
    ·walk_at "rd"
     refine Here.mk ⟨_,_,rfl,?_,((s6.trans s7).trans s8).upd ng,?_,hEq'⟩
     ·rw [Jb,eft,if_pos z,List.map_append]; rfl
     ·rw [Jr ngD.symm]; exact (s7.trans s8) _ _ hD6
    ·walk_at "rd"
     refine Here.mk ⟨_,_,rfl,?_,(s6.trans s7).trans s8,(s7.trans s8) _ _ hD6,hEq'⟩
     rw [hg8,eft,if_neg z,List.append_nil]
   ·rintro σ H6 hv
    obtain ⟨v2,v3,rfl,hg6,s6,hD6,hEq⟩:=hv.out
    rw [List.length_map,List.take_of_length_le (Nat.le_refl _)] at hg6 hEq
    have hBI':=hGo hEq
    have hCR':=hGoC hEq
    have hD7:=s6 _ _ hD3
    have lF : (L.filter fun r=>!a.bad r).length ≤ 400:=Nat.le_trans (List.length_filter_le _ _) (by omega)
    have rF : ∀ x ∈ L.filter fun r=>!a.bad r,x.length ≤ 140:=fun x hx=>by have:=lR x (List.mem_filter.mp hx).1; omega
    have l2 : st.2.length ≤ 127:=by omega
    walk_at "rd"
    intro N H7 nN b7 hN7 hD8
    rw [← hS0,← hstep] at hN7 hD8
    rw [← hstep] at hBI' hCR' hLn'
    have hkl : ((kvT (itA a.bad ms (kept a b) (n + 1)).2).length : Int) ≤ 400:=by
     unfold kvT
     rw [List.length_map]
     omega
    walk_at "rd"
    refine ite2 (fun z=>?_) (fun z=>?_)
    ·exact absurd (of_decide_eq_true z) (by omega)
    ·walk_at "rd"
     exact Here.mk ⟨N,_,_,_,rfl,hD8,hN7,(fun x u e=>b7 x u (Jp e nD) ((s3.trans s6) x u e)),hBI',hCR',hLn'⟩
end
noncomputable def Gd (r : R) : Prop:=r.fine ∧ r.reach ≤ 4
noncomputable def Gn (n : Int) (r : R) : Prop:=r.fine ∧ r.reach ≤ n
noncomputable def J7A (c6 : Cs) : Sp:=fun vs H Q _=>∃ (c : Int) (ms : List Nat) (far : Int),vs = [.int c,T ms,.int far] ∧ 1 ≤ ms.length ∧ ms.length ≤ 3 ∧ 4 ≤ far ∧ far ≤ 7 ∧ ∀ (r : R) p H',Gn far r → r.depth = 0 → Same H H' → Jk c6 H' r p → Q (.ref p) H'
noncomputable def J8B (K : PySem.W.Frag) (c6 : Cs) : Sp:=fun vs H Q _=>∃ (cs : Addr) (ms : List Nat) (ns : List Int),vs = [.ref cs,T ms,.int 4] ∧ SqL K H cs (ns.map V.int) ∧ ns.length ≤ 5 ∧ 1 ≤ ms.length ∧ ms.length ≤ 3 ∧ ∀ (r : R) p H',Gd r → r.depth ≤ 6 → Same H H' → Jk c6 H' r p → Q (.ref p) H'
noncomputable def J8x (c6 : Cs) : Sp:=fun vs H Q _=>∃ (c : Int) (ms : List Nat),vs = [.int c,T ms] ∧ 1 ≤ ms.length ∧ ms.length ≤ 3 ∧ ∀ (r : R) p H',Gn 7 r → r.depth = 0 → Same H H' → Jk c6 H' r p → Q (.ref p) H'
noncomputable def J7w (K : PySem.W.Frag) (c6 : Cs) : Sp:=fun vs H Q _=>∃ (sc pr : Addr) (ns : List Int) (r0 : R) (ms : List Nat) (far : Int),vs = [.ref sc,.ref pr,T ms,.int far] ∧ SqL K H sc (ns.map V.int) ∧ ns.length ≤ 63 ∧ Jk c6 H r0 pr ∧ Gn far r0 ∧ r0.depth ≤ 6 ∧ 1 ≤ ms.length ∧ ms.length ≤ 3 ∧ (far = 4 ∨ far = 7) ∧ ∀ (r : R) p H',Gn far r → r.depth ≤ 8 → Same H H' → Jk c6 H' r p → Q (.ref p) H'
noncomputable def J98 (c6 : Cs) : Sp:=fun vs H Q _=>∃ m wd,vs = [T m,T wd] ∧ 1 ≤ m.length ∧ m.length ≤ 4 ∧ wd.length ≤ 3 ∧ ∀ (r : R) p H',Gd r → r.depth ≤ 2 → Same H H' → Jk c6 H' r p → Q (.ref p) H'
noncomputable def J9a (c6 : Cs) : Sp:=fun vs H Q _=>∃ c ms,vs = [.int c,T ms] ∧ 2 ≤ ms.length ∧ ms.length ≤ 3 ∧ ∀ (r : R) p H',Gd r → r.depth ≤ 3 → Same H H' → Jk c6 H' r p → Q (.ref p) H'
noncomputable def J7j : Sp:=fun vs H Q _=>∃ c far : Int,vs = [.int c,.int far] ∧ ∀ (ms : List Nat) H',1 ≤ ms.length → ms.length ≤ 3 → (far = 7 → ms.length ≤ 2) → (¬ far = 7 → 2 ≤ ms.length) → Same H H' → Q (T ms) H'
theorem Gn.both {n : Int} {x y : R} (hx : Gn n x) (hy : Gn n y) : Gn n (.both x y):=⟨⟨hx.1,hy.1⟩,by have:=hx.2; have:=hy.2; simp only [R.reach]; split <;> omega⟩
theorem Gn.either {n : Int} {x y : R} (hx : Gn n x) (hy : Gn n y) : Gn n (.either x y):=⟨⟨hx.1,hy.1⟩,by have:=hx.2; have:=hy.2; simp only [R.reach]; split <;> omega⟩
theorem Gn.neg {n : Int} {x : R} (hx : Gn n x) : Gn n (.neg x):=⟨hx.1,hx.2⟩
theorem Gn.nev {n : Int} {w : List Nat} (h1 : 1 ≤ w.length) (h2 : (w.length : Int) ≤ n) (h3 : w.length ≤ 7) : Gn n (.nev w):=⟨⟨h1,by omega⟩,h2⟩
theorem sixM (a b : Nat) (i : Int) (h0 : 0 ≤ i) (h : i < 6) : ∃ l : List Nat,atI [T ([45] ++ [a]),T ([a] ++ [45]),T ([a] ++ [b]),T ([45] ++ [a] ++ [b]),T ([b] ++ [45] ++ [a]),T ([b] ++ [a] ++ [45])] i = some (T l) ∧ 2 ≤ l.length ∧ l.length ≤ 3:=by
 obtain ⟨c,h1,h2⟩:=JM [T ([45] ++ [a]),T ([a] ++ [45]),T ([a] ++ [b]),T ([45] ++ [a] ++ [b]),T ([b] ++ [45] ++ [a]),T ([b] ++ [a] ++ [45])] i h0 h
 have hm:=List.mem_of_getElem? h2
 simp only [List.mem_cons,List.not_mem_nil,or_false] at hm
 rcases hm with rfl | rfl | rfl | rfl | rfl | rfl
 all_goals exact ⟨_,h1,by simp,by simp⟩
theorem sixS (a b : Nat) (i : Int) (h0 : 0 ≤ i) (h : i < 6) : ∃ l : List Nat,atI [T ([45] ++ [a]),T [a],T ([b] ++ [a]),T [45],T ([a] ++ [45]),T [a]] i = some (T l) ∧ 1 ≤ l.length ∧ l.length ≤ 2:=by
 obtain ⟨c,h1,h2⟩:=JM [T ([45] ++ [a]),T [a],T ([b] ++ [a]),T [45],T ([a] ++ [45]),T [a]] i h0 h
 have hm:=List.mem_of_getElem? h2
 simp only [List.mem_cons,List.not_mem_nil,or_false] at hm
 rcases hm with rfl | rfl | rfl | rfl | rfl | rfl
 all_goals exact ⟨_,h1,by simp,by simp⟩
theorem Jbw (o : Nat) (i : Int) (h0 : 0 ≤ i) (h : i < 5) : ∃ l : List Nat,atI [T [o],T [o],T [35],T ([o] ++ [81]),T [35,45]] i = some (T l) ∧ l.length ≤ 2:=by
 obtain ⟨c,h1,h2⟩:=JM [T [o],T [o],T [35],T ([o] ++ [81]),T [35,45]] i h0 h
 have hm:=List.mem_of_getElem? h2
 simp only [List.mem_cons,List.not_mem_nil,or_false] at hm
 rcases hm with rfl | rfl | rfl | rfl | rfl
 all_goals exact ⟨_,h1,by simp⟩
theorem JbF (o : Nat) (i : Int) (h0 : 0 ≤ i) (h : i < 4) : ∃ l : List Nat,atI [T [o],T [35],T [45],T [35,45]] i = some (T l) ∧ l.length ≤ 2:=by
 obtain ⟨c,h1,h2⟩:=JM [T [o],T [35],T [45],T [35,45]] i h0 h
 have hm:=List.mem_of_getElem? h2
 simp only [List.mem_cons,List.not_mem_nil,or_false] at hm
 rcases hm with rfl | rfl | rfl | rfl
 all_goals exact ⟨_,h1,by simp⟩
theorem Jbs (a b : Nat) (i : Int) (h0 : 0 ≤ i) (h : i < 5) : ∃ l : List Nat,atI [T [b],T ([b] ++ [a]),T ([a] ++ [b]),T ([b] ++ [a] ++ [a]),T ([b] ++ [b])] i = some (T l) ∧ l.length ≤ 3:=by
 obtain ⟨c,h1,h2⟩:=JM [T [b],T ([b] ++ [a]),T ([a] ++ [b]),T ([b] ++ [a] ++ [a]),T ([b] ++ [b])] i h0 h
 have hm:=List.mem_of_getElem? h2
 simp only [List.mem_cons,List.not_mem_nil,or_false] at hm
 rcases hm with rfl | rfl | rfl | rfl | rfl
 all_goals exact ⟨_,h1,by simp⟩
theorem JaM (p q : Addr) (i : Int) (h0 : 0 ≤ i) (h : i < 2) : ∃ r,atI [V.ref p,V.ref q] i = some (.ref r) ∧ (r = p ∨ r = q):=by
 obtain ⟨c,h1,h2⟩:=JM [V.ref p,V.ref q] i h0 h
 have hm:=List.mem_of_getElem? h2
 simp only [List.mem_cons,List.not_mem_nil,or_false] at hm
 rcases hm with rfl | rfl
 ·exact ⟨p,h1,.inl rfl⟩
 ·exact ⟨q,h1,.inr rfl⟩
noncomputable def J1k (c6 : Cs) (H : Hp) (h : Addr) (zs : List (R × Addr)) (n : Nat) : Prop:=H h = some (.lst (zs.map fun z=>V.ref z.2)) ∧ ∀ z ∈ zs,Jk c6 H z.1 z.2 ∧ Gd z.1 ∧ z.1.depth + zs.length ≤ n
theorem J1k.len {c6 : Cs} {H : Hp} {h : Addr} {zs : List (R × Addr)} {n : Nat} (k : J1k c6 H h zs n) : zs.length ≤ n:=by
 cases zs with
 | nil=>exact Nat.zero_le _
 | cons z r=>have:=(k.2 z List.mem_cons_self).2.2; omega
theorem J1k.mono {c6 : Cs} {H : Hp} {h : Addr} {zs : List (R × Addr)} {n m : Nat} (k : J1k c6 H h zs n) (hm : n ≤ m) : J1k c6 H h zs m :=
 ⟨k.1,fun z hz=>⟨(k.2 z hz).1,(k.2 z hz).2.1,Nat.le_trans (k.2 z hz).2.2 hm⟩⟩
theorem J1k.same {c6 : Cs} {H H' : Hp} {h : Addr} {zs : List (R × Addr)} {n : Nat} (k : J1k c6 H h zs n) (s : Same H H') : J1k c6 H' h zs n :=
 ⟨s _ _ k.1,fun z hz=>⟨(k.2 z hz).1.same s,(k.2 z hz).2⟩⟩
theorem J1k.push {c6 : Cs} {H : Hp} {h : Addr} {zs : List (R × Addr)} {n m : Nat} {r : R} {p : Addr} (k : J1k c6 H h zs n) (hr : Jk c6 H r p) (hf : Gd r) (hn : n + 1 ≤ m) (hd : r.depth + zs.length + 1 ≤ m) :
  J1k c6 (upd H h (.lst (zs.map (fun z=>V.ref z.2) ++ [.ref p]))) h (zs ++ [(r,p)]) m:=by
 refine ⟨by rw [Jb,List.map_append]; rfl,fun z hz=>?_⟩
 rw [List.length_append,List.length_singleton]
 rcases List.mem_append.mp hz with hz | hz
 ·obtain ⟨a,b,c⟩:=k.2 z hz
  exact ⟨a.lst k.1,b,by omega⟩
 ·obtain rfl : z = (r,p):=by simpa using hz
  exact ⟨hr.lst k.1,hf,by show r.depth + _ ≤ _; omega⟩
theorem J1k.pop {c6 : Cs} {H : Hp} {h : Addr} {zs : List (R × Addr)} {n : Nat} {z : R × Addr} (k : J1k c6 H h (zs ++ [z]) n) :
  J1k c6 (upd H h (.lst (((zs ++ [z]).map fun z=>V.ref z.2).dropLast))) h zs (n - 1) ∧ Jk c6 (upd H h (.lst (((zs ++ [z]).map fun z=>V.ref z.2).dropLast))) z.1 z.2 ∧ Gd z.1 ∧ z.1.depth + zs.length + 1 ≤ n ∧
  ((zs ++ [z]).map fun z=>V.ref z.2)[((zs ++ [z]).map fun z=>V.ref z.2).length - 1]? = some (V.ref z.2):=by
 have e : ((zs ++ [z]).map fun z=>V.ref z.2).dropLast = zs.map fun z=>V.ref z.2:=by rw [List.map_append]; exact List.dropLast_concat
 obtain ⟨a,b,c⟩:=k.2 z (by simp)
 rw [List.length_append,List.length_singleton] at c
 refine ⟨⟨by rw [Jb,e],fun y hy=>?_⟩,a.lst k.1,b,by omega,?_⟩
 ·obtain ⟨a,b,c⟩:=k.2 y (by simp [hy])
  rw [List.length_append,List.length_singleton] at c
  exact ⟨a.lst k.1,b,by omega⟩
 ·rw [List.map_append,List.length_append]
  simp
theorem J2P {α : Type} {zs : List α} (h : zs ≠ []) : ∃ ys z,zs = ys ++ [z]:=⟨zs.dropLast,zs.getLast h,(List.dropLast_concat_getLast h).symm⟩
noncomputable def J6G (H : Hp) (h : Addr) : Nat:=match H h with
 | some (.lst xs)=>xs.length
 | _=>0
theorem J75 {H : Hp} {h : Addr} {xs : List V} (e : H h = some (.lst xs)) : J6G H h = xs.length:=by unfold J6G; rw [e]
theorem Gd.both {x y : R} (hx : Gd x) (hy : Gd y) : Gd (.both x y):=⟨⟨hx.1,hy.1⟩,by have:=hx.2; have:=hy.2; simp only [R.reach]; split <;> omega⟩
theorem Gd.either {x y : R} (hx : Gd x) (hy : Gd y) : Gd (.either x y):=⟨⟨hx.1,hy.1⟩,by have:=hx.2; have:=hy.2; simp only [R.reach]; split <;> omega⟩
theorem Gd.neg {x : R} (hx : Gd x) : Gd (.neg x):=⟨hx.1,hx.2⟩
theorem Gd.nev {w : List Nat} (h1 : 1 ≤ w.length) (h2 : w.length ≤ 4) : Gd (.nev w):=⟨⟨h1,by omega⟩,by show (w.length : Int) ≤ 4; omega⟩
theorem J8b {c6 : Cs} {H : Hp} {x y : R} {p1 p2 r : Addr} (h : r = p1 ∨ r = p2) (h1 : Jk c6 H (.both x y) p1) (h2 : Jk c6 H (.either x y) p2) (hx : Gd x) (hy : Gd y) : ∃ z : R,Jk c6 H z r ∧ Gd z ∧ z.depth = max x.depth y.depth + 1:=by
 rcases h with rfl | rfl
 ·exact ⟨_,h1,hx.both hy,rfl⟩
 ·exact ⟨_,h2,hx.either hy,rfl⟩
section
variable {P : Program} {w : World} {K : PySem.W.Frag} {mg : Str → Option Value} {base : Heap} {J5 J8 J2 J9 J1 Jc : Addr}
theorem J6t (tx : Tx K mg J5 J8 J2 J9 J1 Jc) : FnG P w K mg base "_law_marks" 1 ["_law_cell","_law_far"] J7j:=by
 refine tx.J6r.g J0q (fun _ _ _ _ _ _ us hl=>match us,hl with | [_,_],_=>rfl) (fun vs H Q E h=>?_) (fun f cdv A outer s H vs Q E hr h=>?_)
 ·obtain ⟨c,far,rfl,_⟩:=h
  rfl
 ·obtain ⟨c,far,rfl,q⟩:=h
  refine ⟨_,(J4 (Je (i:=2) J0q.nd rfl (Or.inl rfl) (Js (l:=[65,66,67,68,69,70,71,72,73,74,75,76,77,78,79,80,81,82,83,84,85,86,87,88,89,90]) (by decide +kernel)))
   (J4 (Je (i:=3) J0q.nd rfl (Or.inl rfl) (JI J1d (pv 2) (Jd Jy (pv 0) J7) (fun _ _=>rfl)))
   (J4 (Je (i:=4) J0q.nd rfl (Or.inl rfl) (JI J1d (pv 2) (Jd Jy (Jd J1b (Jd J1b (Jd Jy (pv 0) J7) J7) (Jd Jy (Jd JG (pv 0) J7) J7)) J7) (fun _ _=>rfl)))
   (J4 (Je (i:=5) J0q.nd rfl (Or.inl rfl) (J0d (J0 (Jd Jv (Js (l:=[45]) (by decide +kernel)) (pv 3)) (J0 (Jd Jv (pv 3) (Js (l:=[45]) (by decide +kernel))) (J0 (Jd Jv (pv 3) (pv 4)) (J0 (Jd Jv (Jd Jv (Js (l:=[45]) (by decide +kernel)) (pv 3)) (pv 4)) (J0 (Jd Jv (Jd Jv (pv 4) (Js (l:=[45]) (by decide +kernel))) (pv 3)) (J0 (Jd Jv (Jd Jv (pv 4) (pv 3)) (Js (l:=[45]) (by decide +kernel))) J3))))))))
   (J4 (J3c (JF (Jl J0o (pv 1) J7 (Jn _)) (Ja (Je (i:=5) J0q.nd rfl (Or.inl rfl) (J0d (J0 (Jd Jv (Js (l:=[45]) (by decide +kernel)) (pv 3)) (J0 (pv 3) (J0 (Jd Jv (pv 4) (pv 3)) (J0 (Js (l:=[45]) (by decide +kernel)) (J0 (Jd Jv (pv 3) (Js (l:=[45]) (by decide +kernel))) (J0 (pv 3) J3))))))))) Jq))
   (Ja (Jj (JI (J0I (K:=K) rfl) (pv 5) (Jd Jy (Jd JG (pv 0) J7) J7) (fun _ _=>rfl))))))))),?_⟩
  walk_at "st"
  obtain ⟨a,ha,_⟩:=JM [65,66,67,68,69,70,71,72,73,74,75,76,77,78,79,80,81,82,83,84,85,86,87,88,89,90] (c % 26) (Int.emod_nonneg _ (by decide)) (Int.emod_lt_of_pos _ (by decide))
  obtain ⟨b,hb,_⟩:=JM [65,66,67,68,69,70,71,72,73,74,75,76,77,78,79,80,81,82,83,84,85,86,87,88,89,90] ((c % 26 + 1 + c / 26 % 25) % 26) (Int.emod_nonneg _ (by decide)) (Int.emod_lt_of_pos _ (by decide))
  walk_at "rd"
  intro pl npl
  obtain ⟨l,h1,h2,h3⟩:=sixM a b (c / 650 % 6) (Int.emod_nonneg _ (by decide)) (Int.emod_lt_of_pos _ (by decide))
  obtain ⟨l2,g1,g2,g3⟩:=sixS a b (c / 650 % 6) (Int.emod_nonneg _ (by decide)) (Int.emod_lt_of_pos _ (by decide))
  obtain ⟨H1,e1,hp1,s1⟩:=newl (xs:=[T ([45] ++ [a]),T ([a] ++ [45]),T ([a] ++ [b]),T ([45] ++ [a] ++ [b]),T ([b] ++ [45] ++ [a]),T ([b] ++ [a] ++ [45])]) npl
  rw [← e1]
  walk_at "rd"
  refine tCut.mk (fun σ' H'=>Here (∃ (q0 : Addr) (xs : List V) (l : List Nat),σ' = [some (.int c),some (.int far),some (T [65,66,67,68,69,70,71,72,73,74,75,76,77,78,79,80,81,82,83,84,85,86,87,88,89,90]),some (T [a]),some (T [b]),some (.ref q0)] ∧ H' q0 = some (.lst xs) ∧ atI xs (c / 650 % 6) = some (T l) ∧ 1 ≤ l.length ∧ l.length ≤ 3 ∧ (far = 7 → l.length ≤ 2) ∧ (¬ far = 7 → 2 ≤ l.length) ∧ Same H H')) ?_ ?_
  ·walk_at "rd"
   refine ite2 (fun z=>?_) (fun z=>?_)
   ·have z' : far = 7:=by have:=of_decide_eq_true z; injection this
    walk_at "rd"
    intro pl2 npl2
    obtain ⟨H2,e2,hp2,s2⟩:=newl (xs:=[T ([45] ++ [a]),T [a],T ([b] ++ [a]),T [45],T ([a] ++ [45]),T [a]]) npl2
    rw [← e2]
    exact Here.mk ⟨pl2,_,l2,rfl,hp2,g1,g2,by omega,fun _=>g3,fun y=>absurd z' y,s1.trans s2⟩
   ·have z' : ¬ far = 7:=fun y=>z (decide_eq_true (by rw [y]))
    exact Here.mk ⟨pl,_,l,rfl,hp1,h1,by omega,h3,fun y=>absurd y z',fun _=>h2,s1⟩
  rintro σ' H' hv
  obtain ⟨q0,xs,l,rfl,hq0,hl,b1,b2,b3,b4,s3⟩:=hv.out
  walk_at "rd"
  exact q l H' b1 b2 b3 b4 s3
theorem J3i (tx : Tx K mg J5 J8 J2 J9 J1 Jc) : FnG P w K mg base "_law_plain" 3 ["_law_cell","_law_marks_here","_law_far"] (J7A (cs6 J5 J8 J2 J9 J1 Jc)):=by
 have J0K:=tx.J0J.g (J1r (P:=P) (w:=w) (base:=base) tx)
 have J3F:=tx.J1l.g (J3m (P:=P) (w:=w) (base:=base) tx)
 have J2G:=tx.J0y.g (J2x (P:=P) (w:=w) (base:=base) tx)
 refine tx.J6a.g J04 (fun _ _ _ _ _ _ us hl=>match us,hl with | [_,_,_],_=>rfl) (fun vs H Q E h=>?_) (fun f cdv A outer s H vs Q E hr h=>?_)
 ·obtain ⟨c,ms,far,rfl,_⟩:=h
  rfl
 ·obtain ⟨c,ms,far,rfl,hm2,hm3,hf1,hf2,q⟩:=h
  refine ⟨_,(J4 (Je (i:=3) J04.nd rfl (Or.inl rfl) (JI J1d (pv 1) (Jd Jy (Jd JG (pv 0) J7) (Jf JE rfl tx.JO PySem.boot_len (J0 (pv 1) J3))) (fun _ _=>rfl)))
   (J4 (JF (Jl J0o (Jd Jy (pv 0) J7) J7 (Jn _)) (J4 (Je (i:=4) J04.nd rfl (Or.inl rfl) (pv 3))
   (J4 (J1W PassesOwn.never rfl (J3g rfl tx.J1C (J0 (Jd Jy (Jd JG (pv 0) J7) (pv 2)) J3)) (JU (i:=5) J04.nd rfl (Or.inl rfl)) (Ja (Je (i:=4) J04.nd rfl (Or.inl rfl) (Jd Jv (pv 4) (JI J1d (Jd Jv (Js (l:=[35,63]) (by decide +kernel)) (pv 1)) (Jd Jy (Jd JG (pv 0) (Jd J1b J7 (Jd J9G J7 (pv 5)))) (Jd J1b J7 (Jf JE rfl tx.JO PySem.boot_len (J0 (pv 1) J3)))) (fun _ _=>rfl))))))
   (Ja (Jj (JL (r:=rNev (cs6 J5 J8 J2 J9 J1 Jc)) J0K (hr.mono (by decide)) J4d (J0 (pv 4) J3)))))) Jq)
   (J4 (Je (i:=6) J04.nd rfl (Or.inl rfl) (JI (J0I (K:=K) rfl) (J0d (J0 (pv 3) (J0 (pv 3) (J0 (Js (l:=[35]) (by decide +kernel)) (J0 (Jd Jv (pv 3) (Js (l:=[81]) (by decide +kernel))) (J0 (Js (l:=[35,45]) (by decide +kernel)) J3)))))) (Jd Jy (Jd JG (pv 0) J7) J7) (fun _ _=>rfl)))
   (J4 (J3c (JF (Jl J0o (pv 6) (Js (l:=[81,81]) (by decide +kernel)) (Jn _)) (Ja (Je (i:=6) J04.nd rfl (Or.inl rfl) (Js (l:=[81]) (by decide +kernel)))) Jq))
   (J4 (JF (Jl J0o (Jd Jy (pv 0) J7) J7 (Jn _)) (Ja (Jj (JL (r:=J9y (cs6 J5 J8 J2 J9 J1 Jc)) J3F (hr.mono (by decide)) J8m (J0 (Jd Jy (Jd JG (pv 0) J7) J7) (J0 (pv 6) (J0 (Jd J1b J7 (Jd Jy (Jd JG (pv 0) J7) (pv 2))) J3)))))) Jq)
   (Ja (Jj (JL (r:=J7Q (cs6 J5 J8 J2 J9 J1 Jc)) J2G (hr.mono (by decide)) J72 (J0 (Jd Jy (Jd JG (pv 0) J7) J7) (J0 (pv 6) (J0 (Jd J1b J7 (Jd Jy (Jd JG (pv 0) J7) (pv 2))) J3))))))))))),?_⟩
  walk_at "st"
  clear J0K J3F J2G
  have l0 : (0 : Int) < (ms.length : Int):=by omega
  have hms : ms.length ≤ 1000:=by omega
  obtain ⟨o,ho,_⟩:=JM ms (c / 3 % (ms.length : Int)) (Int.emod_nonneg _ (by omega)) (Int.emod_lt_of_pos _ l0)
  have f0 : 0 < far:=by omega
  have n0 : 0 ≤ c / 9 % far:=Int.emod_nonneg _ (by omega)
  have n1 : c / 9 % far < far:=Int.emod_lt_of_pos _ f0
  walk_at "rd"
  refine ite2 (fun _=>?_) (fun _=>?_)
  ·walk_at "rd"
   refine J3b (n:=(c / 9 % far).toNat) (fun i σ H2=>Here (∃ (v : Option V) (wd : List Nat),σ = [some (.int c),some (T ms),some (.int far),some (T [o]),some (T wd),v,none] ∧ wd.length = i + 1 ∧ H2 = H)) (Here.mk ⟨none,[o],rfl,rfl,rfl⟩) ?_ ?_
   ·rintro i σ H2 hi hv
    obtain ⟨v,wd,rfl,hw,eH⟩:=hv.out
    rw [eH]
    have l2 : (0 : Int) < 2 + (ms.length : Int):=by omega
    have l3 : (0 : Int) < 36 + 31 * (0 + (i : Int)):=by omega
    obtain ⟨d,hd,_⟩:=JM ([35,63] ++ ms) (c / (36 + 31 * (0 + (i : Int))) % (2 + (ms.length : Int))) (Int.emod_nonneg _ (by omega)) (by have:=Int.emod_lt_of_pos (c / (36 + 31 * (0 + (i : Int)))) l2; rw [List.length_append]; show _ < ((2 + ms.length : Nat) : Int); omega)
    walk_at "rd"
    exact Here.mk ⟨_,wd ++ [d],rfl,by rw [List.length_append,hw]; rfl,rfl⟩
   ·rintro σ H2 hv
    obtain ⟨v,wd,rfl,hw,eH⟩:=hv.out
    rw [eH]
    walk_at "rd"
    intro p H' s' h'
    exact q (.nev wd) p H' (.nev (by omega) (by omega) (by omega)) rfl s' h'
  ·obtain ⟨m,hm,hml⟩:=Jbw o (c / 9 % 5) (Int.emod_nonneg _ (by decide)) (Int.emod_lt_of_pos _ (by decide))
   have hd0 : 0 ≤ c / 180 % far:=Int.emod_nonneg _ (by omega)
   have hd1 : c / 180 % far < far:=Int.emod_lt_of_pos _ f0
   walk_at "rd"
   intro pl npl
   obtain ⟨H1,e1,hp1,s1⟩:=newl (xs:=[T [o],T [o],T [35],T ([o] ++ [81]),T [35,45]]) npl
   rw [← e1]
   walk_at "rd"
   refine tCut.mk (fun σ' H'=>Here (∃ m : List Nat,σ' = [some (.int c),some (T ms),some (.int far),some (T [o]),none,none,some (T m)] ∧ m.length ≤ 2 ∧ H' = H1)) ?_ ?_
   ·walk_at "rd"
    refine ite2 (fun z=>?_) (fun z=>?_)
    ·walk_at "rd"
     exact Here.mk ⟨[81],rfl,by decide,rfl⟩
    ·exact Here.mk ⟨m,rfl,hml,rfl⟩
   rintro σ' H' hv
   obtain ⟨m',rfl,hml',eH⟩:=hv.out
   rw [eH]
   walk_at "rd"
   refine ite2 (fun _=>?_) (fun _=>?_)
   ·walk_at "rd"
    intro p H' s' h'
    exact q (.most (c / 45 % 4) m' (1 + c / 180 % far)) p H' ⟨⟨by omega,by omega⟩,by show 1 + c / 180 % far ≤ far; omega⟩ rfl (s1.trans s') h'
   ·walk_at "rd"
    intro p H' s' h'
    exact q (.least (c / 45 % 4) m' (1 + c / 180 % far)) p H' ⟨⟨by omega,by omega⟩,by show 1 + c / 180 % far ≤ far; omega⟩ rfl (s1.trans s') h'
theorem J3M (tx : Tx K mg J5 J8 J2 J9 J1 Jc) : FnG P w K mg base "_law_deep" 3 ["_law_cell","_law_marks_here"] (J8x (cs6 J5 J8 J2 J9 J1 Jc)):=by
 have J0K:=tx.J0J.g (J1r (P:=P) (w:=w) (base:=base) tx)
 have J3F:=tx.J1l.g (J3m (P:=P) (w:=w) (base:=base) tx)
 have J2G:=tx.J0y.g (J2x (P:=P) (w:=w) (base:=base) tx)
 refine tx.J7s.g J0n (fun _ _ _ _ _ _ us hl=>match us,hl with | [_,_],_=>rfl) (fun vs H Q E h=>?_) (fun f cdv A outer s H vs Q E hr h=>?_)
 ·obtain ⟨c,ms,rfl,_⟩:=h
  rfl
 ·obtain ⟨c,ms,rfl,hm2,hm3,q⟩:=h
  refine ⟨_,(J4 (Je (i:=2) J0n.nd rfl (Or.inl rfl) (JI J1d (pv 1) (Jd Jy (Jd JG (pv 0) J7) (Jf JE rfl tx.JO PySem.boot_len (J0 (pv 1) J3))) (fun _ _=>rfl)))
   (J4 (Je (i:=3) J0n.nd rfl (Or.inl rfl) (Jd J1b J7 (Jd Jy (Jd JG (pv 0) J7) J7)))
   (J4 (Je (i:=4) J0n.nd rfl (Or.inl rfl) (JI (J0I (K:=K) rfl) (J0d (J0 (pv 2) (J0 (Js (l:=[35]) (by decide +kernel)) (J0 (Js (l:=[45]) (by decide +kernel)) (J0 (Js (l:=[35,45]) (by decide +kernel)) J3))))) (Jd Jy (Jd JG (pv 0) J7) J7) (fun _ _=>rfl)))
   (J4 (JF (Jl J0o (Jd Jy (pv 0) J7) J7 (Jn _)) (Ja (Jj (JL (r:=J9y (cs6 J5 J8 J2 J9 J1 Jc)) J3F (hr.mono (by decide)) J8m (J0 (Jd J1b J7 (Jd Jy (Jd JG (pv 0) J7) J7)) (J0 (pv 4) (J0 (pv 3) J3)))))) Jq)
   (J4 (JF (Jl J0o (Jd Jy (pv 0) J7) J7 (Jn _)) (Ja (Jj (JL (r:=J7Q (cs6 J5 J8 J2 J9 J1 Jc)) J2G (hr.mono (by decide)) J72 (J0 (Jd J1b J7 (Jd Jy (Jd JG (pv 0) J7) J7)) (J0 (pv 4) (J0 (pv 3) J3)))))) Jq)
   (J4 (Je (i:=5) J0n.nd rfl (Or.inl rfl) (pv 2))
   (J4 (J1W PassesOwn.never rfl (J3g rfl tx.J1C (J0 (Jd J28 (pv 3) J7) J3)) (JU (i:=6) J0n.nd rfl (Or.inl rfl)) (Ja (Je (i:=5) J0n.nd rfl (Or.inl rfl) (Jd Jv (pv 5) (JI J1d (Jd Jv (Js (l:=[63,35]) (by decide +kernel)) (pv 1)) (Jd Jy (Jd Jbb (Jd Jbp (Jd JG (pv 0) J7) (Jd J9G J7 (pv 6))) J7) (Jd J1b J7 (Jf JE rfl tx.JO PySem.boot_len (J0 (pv 1) J3)))) (fun _ _=>rfl))))))
   (Ja (Jj (JL (r:=rNev (cs6 J5 J8 J2 J9 J1 Jc)) J0K (hr.mono (by decide)) J4d (J0 (pv 5) J3))))))))))),?_⟩
  walk_at "st"
  clear J0K J3F J2G
  have l0 : (0 : Int) < (ms.length : Int):=by omega
  have hms : ms.length ≤ 1000:=by omega
  obtain ⟨o,ho,_⟩:=JM ms (c / 6 % (ms.length : Int)) (Int.emod_nonneg _ (by omega)) (Int.emod_lt_of_pos _ l0)
  have n0 : 0 ≤ c / 3 % 2:=Int.emod_nonneg _ (by decide)
  have n1 : c / 3 % 2 < 2:=Int.emod_lt_of_pos _ (by decide)
  obtain ⟨m,hm,hml⟩:=JbF o (c / 48 % 4) (Int.emod_nonneg _ (by decide)) (Int.emod_lt_of_pos _ (by decide))
  walk_at "rd"
  intro pl npl
  obtain ⟨H1,e1,hp1,s1⟩:=newl (xs:=[T [o],T [35],T [45],T [35,45]]) npl
  rw [← e1]
  walk_at "rd"
  refine ite2 (fun _=>?_) (fun _=>?_)
  ·walk_at "rd"
   intro p H' s' h'
   exact q (.most (1 + c / 12 % 4) m (6 + c / 3 % 2)) p H' ⟨⟨by omega,by omega⟩,by show 6 + c / 3 % 2 ≤ 7; omega⟩ rfl (s1.trans s') h'
  walk_at "rd"
  refine ite2 (fun _=>?_) (fun _=>?_)
  ·walk_at "rd"
   intro p H' s' h'
   exact q (.least (1 + c / 12 % 3) m (6 + c / 3 % 2)) p H' ⟨⟨by omega,by omega⟩,by show 6 + c / 3 % 2 ≤ 7; omega⟩ rfl (s1.trans s') h'
  walk_at "rd"
  refine J3b (n:=(6 + c / 3 % 2 - 1).toNat) (fun i σ H2=>Here (∃ (v : Option V) (wd : List Nat),σ = [some (.int c),some (T ms),some (T [o]),some (.int (6 + c / 3 % 2)),some (T m),some (T wd),v] ∧ wd.length = i + 1 ∧ H2 = H1)) (Here.mk ⟨none,[o],rfl,rfl,rfl⟩) ?_ ?_
  ·rintro i σ H2 hi hv
   obtain ⟨v,wd,rfl,hw,eH⟩:=hv.out
   rw [eH]
   have l2 : (0 : Int) < 2 + (ms.length : Int):=by omega
   have l3 : (0 : Int) ≤ 2 * (0 + (i : Int)):=by omega
   generalize hbb : Builtin.bitAnd (c / 12 / 2 ^ (2 * (0 + (i : Int))).toNat) 3 = bb
   obtain ⟨d,hd,_⟩:=JM ([63,35] ++ ms) (bb % (2 + (ms.length : Int))) (Int.emod_nonneg _ (by omega)) (by have:=Int.emod_lt_of_pos bb l2; rw [List.length_append]; show _ < ((2 + ms.length : Nat) : Int); omega)
   rw [← hbb] at hd
   walk_at "rd"
   exact Here.mk ⟨_,wd ++ [d],rfl,by rw [List.length_append,hw]; rfl,rfl⟩
  ·rintro σ H2 hv
   obtain ⟨v,wd,rfl,hw,eH⟩:=hv.out
   rw [eH]
   walk_at "rd"
   intro p H' s' h'
   exact q (.nev wd) p H' (.nev (by omega) (by omega) (by omega)) rfl (s1.trans s') h'
theorem J6u (tx : Tx K mg J5 J8 J2 J9 J1 Jc) : FnG P w K mg base "_law_after" 3 ["_law_mark","_law_word"] (J98 (cs6 J5 J8 J2 J9 J1 Jc)):=by
 have J0K:=tx.J0J.g (J1r (P:=P) (w:=w) (base:=base) tx)
 have J0F:=tx.J06.g (J1J (P:=P) (w:=w) (base:=base) tx)
 have J2z:=tx.J2F.g (J2r (P:=P) (w:=w) (base:=base) tx)
 refine tx.J68.g J5t (fun _ _ _ _ _ _ us hl=>match us,hl with | [_,_],_=>rfl) (fun vs H Q E h=>?_) (fun f cdv A outer s H vs Q E hr h=>?_)
 ·obtain ⟨m,wd,rfl,_⟩:=h
  rfl
 ·obtain ⟨m,wd,rfl,hm1,hm4,hw,q⟩:=h
  refine ⟨_,(Ja (Jj (JL (r:=J2g (cs6 J5 J8 J2 J9 J1 Jc)) J0F (hr.mono (by decide)) J1N (J0 (JL (r:=rNot (cs6 J5 J8 J2 J9 J1 Jc)) J2z (hr.mono (by decide)) J63 (J0 (JL (r:=rNev (cs6 J5 J8 J2 J9 J1 Jc)) J0K (hr.mono (by decide)) J4d (J0 (Jd Jv (pv 1) (Js (l:=[63]) (by decide +kernel))) J3)) J3)) (J0 (JL (r:=rNev (cs6 J5 J8 J2 J9 J1 Jc)) J0K (hr.mono (by decide)) J4d (J0 (pv 0) J3)) J3))))),?_⟩
  walk_at "st"
  clear J0K J0F J2z
  walk_at "rd"
  intro p1 H1 s1 h1
  walk_at "rd"
  intro p2 d2 H2 s2 h2 _
  walk_at "rd"
  intro p3 H3 s3 h3
  have h23:=h2.same s3
  walk_at "rd"
  intro p4 d4 H4 s4 h4 _
  exact q _ p4 H4 (Gd.either (Gd.neg (.nev (by rw [List.length_append]; show 1 ≤ wd.length + 1; omega) (by rw [List.length_append]; show wd.length + 1 ≤ 4; omega))) (.nev hm1 hm4)) (Nat.le_refl 2) (((s1.trans s2).trans s3).trans s4) h4
theorem J6f (tx : Tx K mg J5 J8 J2 J9 J1 Jc) : FnG P w K mg base "_law_chain" 4 ["_law_cell","_law_marks_here"] (J9a (cs6 J5 J8 J2 J9 J1 Jc)):=by
 have J23:=J6u (P:=P) (w:=w) (base:=base) tx
 have J18:=tx.J12.g (J1D (P:=P) (w:=w) (base:=base) tx)
 refine tx.J6b.g J0v (fun _ _ _ _ _ _ us hl=>match us,hl with | [_,_],_=>rfl) (fun vs H Q E h=>?_) (fun f cdv A outer s H vs Q E hr h=>?_)
 ·obtain ⟨c,ms,rfl,_⟩:=h
  rfl
 ·obtain ⟨c,ms,rfl,hm2,hm3,q⟩:=h
  refine ⟨_,(J4 (Je (i:=2) J0v.nd rfl (Or.inl rfl) (JI J1d (pv 1) J7 (fun _ _=>rfl)))
   (J4 (Je (i:=3) J0v.nd rfl (Or.inl rfl) (JI J1d (pv 1) J7 (fun _ _=>rfl)))
   (J4 (Je (i:=4) J0v.nd rfl (Or.inl rfl) (Jz J23 (hr.mono (by decide)) (J0 (pv 3) (J0 (Jd J9v (pv 2) (Jd J1b J7 (Jd Jy (pv 0) J7))) J3))))
   (J4 (JF (Jl J0o (Jf JE rfl tx.JO PySem.boot_len (J0 (pv 1) J3)) J7 (Jn _)) (J4 (Je (i:=5) J0v.nd rfl (Or.inl rfl) (JI (J0I (K:=K) rfl) (J0d (J0 (pv 3) (J0 (Jd Jv (pv 3) (pv 2)) (J0 (Jd Jv (pv 2) (pv 3)) (J0 (Jd Jv (Jd Jv (pv 3) (pv 2)) (pv 2)) (J0 (Jd Jv (pv 3) (pv 3)) J3)))))) (Jd Jy (Jd JG (pv 0) J7) J7) (fun _ _=>rfl)))
   (Ja (Je (i:=4) J0v.nd rfl (Or.inl rfl) (JL (r:=J4i (cs6 J5 J8 J2 J9 J1 Jc)) J18 (hr.mono (by decide)) J2i (J0 (Jz J23 (hr.mono (by decide)) (J0 (JI J1d (pv 1) J7 (fun _ _=>rfl)) (J0 (pv 5) J3))) (J0 (pv 4) J3)))))) Jq)
   (Ja (Jj (pv 4))))))),?_⟩
  walk_at "st"
  clear J23 J18
  have hms : ms.length ≤ 1000:=by omega
  obtain ⟨a,ha,_⟩:=JM ms 0 (by omega) (by omega)
  obtain ⟨b,hb,_⟩:=JM ms 1 (by omega) (by omega)
  have c0 : 0 ≤ c % 3:=Int.emod_nonneg _ (by decide)
  have c1 : c % 3 < 3:=Int.emod_lt_of_pos _ (by decide)
  have c2 : (List.replicate (1 + c % 3).toNat a).length ≤ 3:=by rw [List.length_replicate]; omega
  walk_at "rd"
  intro r p H1 g d s1 h1
  walk_at "rd"
  refine ite2 (fun e3=>?_) (fun _=>?_)
  ·have e3' : (3 : Nat) = ms.length:=by
    have : V.int (ms.length : Int) = V.int 3:=of_decide_eq_true e3
    have:=V.int.inj this
    omega
   obtain ⟨m2,hm,_⟩:=JM ms 2 (by omega) (by omega)
   obtain ⟨l,hl,hl3⟩:=Jbs a b (c / 3 % 5) (Int.emod_nonneg _ (by decide)) (Int.emod_lt_of_pos _ (by decide))
   walk_at "rd"
   intro pl npl
   obtain ⟨H2,e2,hp2,s2⟩:=newl (xs:=[T [b],T ([b] ++ [a]),T ([a] ++ [b]),T ([b] ++ [a] ++ [a]),T ([b] ++ [b])]) npl
   rw [← e2]
   have h12:=h1.same s2
   walk_at "rd"
   intro r2 p2 H3 g2 d2 s3 h3
   have h13:=h12.same s3
   walk_at "rd"
   intro p4 d4 H4 s4 h4 _
   walk_at "rd"
   exact q _ p4 H4 (g2.both g) (by simp only [R.depth]; omega) (((s1.trans s2).trans s3).trans s4) h4
  ·walk_at "rd"
   exact q r p H1 g (by omega) s1 h1
end
theorem J8i (ns : List Int) (lo hi : Option Int) : cutV (ns.map V.int) lo hi = (cutN ns lo hi).map V.int:=by
 unfold cutV cutN
 rw [List.length_map,List.map_take,List.map_drop]
theorem J9m (ns : List Int) (lo hi : Int) (h0 : 0 ≤ lo) (h : lo ≤ hi) : ((cutN ns (some lo) (some hi)).length : Int) ≤ hi - lo:=by
 have h2 : (cutN ns (some lo) (some hi)).length = (cutV (ns.map V.int) (some lo) (some hi)).length:=by rw [J8i,List.length_map]
 rw [h2]
 unfold cutV
 rw [List.length_take]
 have : ∀ a b : Nat,((min a b : Nat) : Int) ≤ (a : Int):=fun a b=>by omega
 refine Int.le_trans (this _ _) ?_
 unfold HT.sIx
 simp only
 (repeat' split) <;> omega
section
variable {P : Program} {w : World} {K : PySem.W.Frag} {mg : Str → Option Value} {base : Heap} {J5 J8 J2 J9 J1 Jc : Addr}
theorem J3I (tx : Tx K mg J5 J8 J2 J9 J1 Jc) : FnG P w K mg base "_law_rule" 4 ["_law_cells","_law_marks_here","_law_far"] (J8B K (cs6 J5 J8 J2 J9 J1 Jc)):=by
 have J0k:=J3i (P:=P) (w:=w) (base:=base) tx
 have J18:=tx.J12.g (J1D (P:=P) (w:=w) (base:=base) tx)
 have J0F:=tx.J06.g (J1J (P:=P) (w:=w) (base:=base) tx)
 have J2z:=tx.J2F.g (J2r (P:=P) (w:=w) (base:=base) tx)
 refine tx.J7h.g J01 (fun _ _ _ _ _ _ us hl=>match us,hl with | [_,_,_],_=>rfl) (fun vs H Q E h=>?_) (fun f cdv A outer s H vs Q E hr h=>?_)
 ·obtain ⟨cs,ms,ns,rfl,_⟩:=h
  rfl
 ·obtain ⟨cs,ms,ns,rfl,hS,hns,hm2,hm3,q⟩:=h
  refine ⟨_,(J4 (Je (i:=3) J01.nd rfl (Or.inl rfl) (J0d (J0 (Jz J0k (hr.mono (by decide)) (J0 (Jf (JH (K:=K) rfl) rfl tx.JO PySem.boot_len (J0 (pv 0) J3)) (J0 (pv 1) (J0 (pv 2) J3)))) J3)))
   (J4 (J1W PassesOwn.never rfl (J1P (K:=K) rfl (pv 0)) (JU (i:=4) J01.nd rfl (Or.inl rfl)) (J4 (Je (i:=5) J01.nd rfl (Or.inl rfl) (Jd Jy (pv 4) J7))
   (Ja (JF (Jl J3p (pv 5) J7 (Jn _)) (Ja (J1v (J2S PySem.F.plainAttrs_list PySem.F.slot_list_append PySem.F.type_list_append J0D (pv 3) (J0 (Jz J0k (hr.mono (by decide)) (J0 (Jd JG (pv 4) J7) (J0 (pv 1) (J0 (pv 2) J3)))) J3)))) (Ja (JF (Jl J3p (pv 5) J7 (Jn _)) (Ja (J1v (J2S PySem.F.plainAttrs_list PySem.F.slot_list_append PySem.F.type_list_append J0D (pv 3) (J0 (JL (r:=rNot (cs6 J5 J8 J2 J9 J1 Jc)) J2z (hr.mono (by decide)) J63 (J0 (J2v PySem.F.plainAttrs_list PySem.F.slot_list_pop PySem.F.type_list_pop J39 (pv 3)) J3)) J3)))) (Ja (JF (Jl J8f (Jf (JH (K:=K) rfl) rfl tx.JO PySem.boot_len (J0 (pv 3) J3)) J7 (Jn _)) (J4 (Je (i:=6) J01.nd rfl (Or.inl rfl) (J2v PySem.F.plainAttrs_list PySem.F.slot_list_pop PySem.F.type_list_pop J39 (pv 3)))
   (J4 (Je (i:=7) J01.nd rfl (Or.inl rfl) (J2v PySem.F.plainAttrs_list PySem.F.slot_list_pop PySem.F.type_list_pop J39 (pv 3)))
   (Ja (J1v (J2S PySem.F.plainAttrs_list PySem.F.slot_list_append PySem.F.type_list_append J0D (pv 3) (J0 (JI (J0I (K:=K) rfl) (J0d (J0 (JL (r:=J4i (cs6 J5 J8 J2 J9 J1 Jc)) J18 (hr.mono (by decide)) J2i (J0 (pv 7) (J0 (pv 6) J3))) (J0 (JL (r:=J2g (cs6 J5 J8 J2 J9 J1 Jc)) J0F (hr.mono (by decide)) J1N (J0 (pv 7) (J0 (pv 6) J3))) J3))) (Jd J28 (pv 5) J7) (fun _ _=>rfl)) J3)))))) Jq))))))))
   (J4 (J4j PassesOwn.never (Jl J8f (Jf (JH (K:=K) rfl) rfl tx.JO PySem.boot_len (J0 (pv 3) J3)) J7 (Jn _)) (J4 (Je (i:=6) J01.nd rfl (Or.inl rfl) (J2v PySem.F.plainAttrs_list PySem.F.slot_list_pop PySem.F.type_list_pop J39 (pv 3)))
   (J4 (Je (i:=7) J01.nd rfl (Or.inl rfl) (J2v PySem.F.plainAttrs_list PySem.F.slot_list_pop PySem.F.type_list_pop J39 (pv 3)))
   (Ja (J1v (J2S PySem.F.plainAttrs_list PySem.F.slot_list_append PySem.F.type_list_append J0D (pv 3) (J0 (JI (J0I (K:=K) rfl) (J0d (J0 (JL (r:=J4i (cs6 J5 J8 J2 J9 J1 Jc)) J18 (hr.mono (by decide)) J2i (J0 (pv 7) (J0 (pv 6) J3))) (J0 (JL (r:=J2g (cs6 J5 J8 J2 J9 J1 Jc)) J0F (hr.mono (by decide)) J1N (J0 (pv 7) (J0 (pv 6) J3))) J3))) (Jd Jy (Jf (JH (K:=K) rfl) rfl tx.JO PySem.boot_len (J0 (pv 3) J3)) J7) (fun _ _=>rfl)) J3)))))))
   (Ja (Jj (JI (J0I (K:=K) rfl) (pv 3) J7 (fun _ _=>rfl))))))),?_⟩
  walk_at "st"
  clear J0k J18 J0F J2z
  have hms : ms.length ≤ 1000:=by omega
  have hns' : (ns.map V.int).length ≤ 5:=by rw [List.length_map]; exact hns
  walk_at "rd"
  intro r0 p0 H0 g0 d0 s0 h0
  walk_at "rd"
  intro hp nhp0
  obtain ⟨H1,e1,hh1,s1'⟩:=newl (xs:=[.ref p0]) nhp0
  rw [← e1]
  have s1:=s0.trans s1'
  have nhp : H hp = none:=s0.free nhp0
  have hS1:=s1.seq hS
  have g0' : Gd r0:=⟨g0.1,g0.2⟩
  have hk0 : J1k (cs6 J5 J8 J2 J9 J1 Jc) H1 hp [(r0,p0)] 1:=⟨hh1,fun z hz=>by rw [List.mem_singleton.mp hz]; exact ⟨h0.same s1',g0',by show r0.depth + 1 ≤ 1; omega⟩⟩
  walk_at "rd"
  refine J26 (xs:=ns.map V.int) (fun i σ H2=>Here (∃ v1 v2 v3 v4 zs,σ = [some (.ref cs),some (T ms),some (.int 4),some (.ref hp),v1,v2,v3,v4] ∧ zs ≠ [] ∧ J1k (cs6 J5 J8 J2 J9 J1 Jc) H2 hp zs (i + 1) ∧ Same H H2))
   (Here.mk ⟨none,none,none,none,[(r0,p0)],rfl,by simp,hk0,s1⟩) (fun i σ H2 _ hv=>by obtain ⟨_,_,_,_,_,_,_,_,s⟩:=hv.out; exact s.seq hS) ?_ ?_
  ·rintro i x σ H2 hx hv
   obtain ⟨v1,v2,v3,v4,zs,rfl,hne,hk,ss⟩:=hv.out
   have hi : i < ns.length:=by have:=(List.getElem?_eq_some_iff.mp hx).1; rwa [List.length_map] at this
   obtain ⟨n,rfl⟩ : ∃ n,x = .int n:=by
    obtain ⟨n,_,e⟩:=List.mem_map.mp (List.mem_of_getElem? hx)
    exact ⟨n,e.symm⟩
   have w0 : 0 ≤ n % 8:=Int.emod_nonneg _ (by decide)
   have w1 : n % 8 < 8:=Int.emod_lt_of_pos _ (by decide)
   have hzl:=hk.len
   have hh:=hk.1
   walk_at "rd"
   refine ite2 (fun _=>?_) (fun c5=>?_)
   ·walk_at "rd"
    intro r p H3 g d s3 h3
    have g' : Gd r:=⟨g.1,g.2⟩
    have a1:=(hk.same s3).1
    have a2:=(hk.same s3).push (m:=i + 1 + 1) h3 g' (Nat.le_refl _) (by omega)
    walk_at "rd"
    exact Here.mk ⟨_,_,_,_,_,rfl,by simp,a2,(ss.trans s3).upd nhp⟩
   have c5' : ¬ n % 8 < 4:=fun z=>c5 (decide_eq_true z)
   obtain ⟨ys,z,rfl⟩:=J2P hne
   obtain ⟨k1,rz,fz,dz,lz⟩:=hk.pop
   rw [List.length_append,List.length_singleton] at hzl
   have hh1:=k1.1
   walk_at "rd"
   refine ite2 (fun _=>?_) (fun c6=>?_)
   ·walk_at "rd"
    intro p dx H4 s4 h4 _
    have k2:=k1.same s4
    have hh2:=k2.1
    walk_at "rd"
    exact Here.mk ⟨_,_,_,_,ys ++ [(.neg z.1,p)],rfl,by simp,k2.push h4 fz.neg (by omega) (by show z.1.depth + 1 + _ + 1 ≤ _; omega),((ss.upd nhp).trans s4).upd nhp⟩
   have c6' : ¬ n % 8 < 6:=fun y=>c6 (decide_eq_true y)
   walk_at "rd"
   refine ite2 (fun c=>?_) (fun _=>?_)
   ·have c' : (1 : Int) < ((((ys ++ [z]).map fun z=>V.ref z.2).length : Nat) : Int):=of_decide_eq_true c
    rw [List.length_map,List.length_append,List.length_singleton] at c'
    have hys : ys ≠ []:=fun e=>by rw [e,List.length_nil] at c'; omega
    obtain ⟨xs,y,rfl⟩:=J2P hys
    obtain ⟨k2,ry,fy,dy,ly⟩:=k1.pop
    have rz2:=rz.lst (ys:=(((xs ++ [y]).map fun z=>V.ref z.2).dropLast)) k1.1
    rw [List.length_append,List.length_singleton] at dz hzl
    have hh2:=k2.1
    walk_at "rd"
    intro p1 d1 H4 s4 h4 _
    have ry4:=ry.same s4
    have rz4:=rz2.same s4
    walk_at "rd"
    intro p2 d2 H5 s5 h5 _
    have h45:=h4.same s5
    obtain ⟨r,hr1,hr2⟩:=JaM p1 p2 (n % 8 - 6) (by omega) (by omega)
    walk_at "rd"
    intro l2 nl2
    obtain ⟨H6,e6,hl6,s6⟩:=newl (xs:=[.ref p1,.ref p2]) nl2
    rw [← e6]
    have k4:=((k2.same s4).same s5).same s6
    have hh4:=k4.1
    obtain ⟨u,hu,gu,du⟩:=J8b hr2 (h45.same s6) (h5.same s6) fy fz
    walk_at "rd"
    exact Here.mk ⟨_,_,_,_,xs ++ [(u,r)],rfl,by simp,k4.push hu gu (by omega) (by omega),((((((ss.upd nhp).upd nhp).trans s4).trans s5).trans s6).upd nhp)⟩
   ·walk_at "rd"
    exact Here.mk ⟨_,_,_,_,ys ++ [z],rfl,by simp,hk.mono (Nat.le_succ _),ss⟩
  rintro σ H2 hv
  obtain ⟨v1,v2,v3,v4,zs,rfl,hne,hk,ss⟩:=hv.out
  rw [List.length_map] at hk
  refine J9F (fun σ H3=>Here (∃ v1 v2 v3 v4 zs,σ = [some (.ref cs),some (T ms),some (.int 4),some (.ref hp),v1,v2,v3,v4] ∧ zs ≠ [] ∧ J1k (cs6 J5 J8 J2 J9 J1 Jc) H3 hp zs 6 ∧ Same H H3)) (fun _ H3=>J6G H3 hp)
   (Here.mk ⟨v1,v2,v3,v4,zs,rfl,hne,hk.mono (by omega),ss⟩) ?_ ?_
  ·rintro σ H3 hv
   obtain ⟨v1,v2,v3,v4,zs,rfl,hne,hk,ss⟩:=hv.out
   have hh:=hk.1
   have hzl:=hk.len
   walk_at "rd"
   refine ite2 (fun c=>?_) (fun c=>?_)
   ·have c' : (1 : Int) < ((((zs).map fun z=>V.ref z.2).length : Nat) : Int):=of_decide_eq_true c
    rw [List.length_map] at c'
    obtain ⟨ys,z,rfl⟩:=J2P (zs:=zs) (fun e=>by rw [e,List.length_nil] at c'; omega)
    obtain ⟨k1,rz,fz,dz,lz⟩:=hk.pop
    have hh1:=k1.1
    rw [List.length_append,List.length_singleton] at c' hzl
    have hys : ys ≠ []:=fun e=>by rw [e,List.length_nil] at c'; omega
    obtain ⟨xs,y,rfl⟩:=J2P hys
    obtain ⟨k2,ry,fy,dy,ly⟩:=k1.pop
    have rz2:=rz.lst (ys:=(((xs ++ [y]).map fun z=>V.ref z.2).dropLast)) k1.1
    rw [List.length_append,List.length_singleton] at dz hzl
    have hh2:=k2.1
    walk_at "rd"
    intro p1 d1 H4 s4 h4 _
    have ry4:=ry.same s4
    have rz4:=rz2.same s4
    walk_at "rd"
    intro p2 d2 H5 s5 h5 _
    have h45:=h4.same s5
    walk_at "rd"
    intro l2 nl2
    obtain ⟨H6,e6,hl6,s6⟩:=newl (xs:=[.ref p1,.ref p2]) nl2
    rw [← e6]
    have k4:=((k2.same s4).same s5).same s6
    have hh4:=k4.1
    obtain ⟨r,hr1,hr2⟩:=JaM p1 p2 ((((xs.map fun z=>V.ref z.2).length : Nat) : Int) % 2) (Int.emod_nonneg _ (by decide)) (Int.emod_lt_of_pos _ (by decide))
    obtain ⟨u,hu,gu,du⟩:=J8b hr2 (h45.same s6) (h5.same s6) fy fz
    walk_at "rd"
    have kf:=k4.push (m:=6) hu gu (by omega) (by omega)
    refine ⟨Here.mk ⟨_,_,_,_,xs ++ [(u,r)],rfl,by simp,kf,(((((ss.upd nhp).upd nhp).trans s4).trans s5).trans s6).upd nhp⟩,?_⟩
    show J6G _ hp < J6G H3 hp
    rw [J75 kf.1,J75 hh]
    simp
   ·cases zs with
    | nil=>exact absurd rfl hne
    | cons z r =>
     have e0 : atI ((z :: r).map fun z=>V.ref z.2) ((0 : Nat) : Int) = some (V.ref z.2):=J3x rfl
     obtain ⟨a1,a2,a3⟩:=hk.2 z List.mem_cons_self
     walk_at "rd"
     exact q z.1 z.2 H3 a2 (by omega) ss a1
  ·rintro σ H' Q1 Q2 hQ ⟨v,e1,p,ys,e2,h,i,j,e3,e4,k,e5,h2⟩
   exact ⟨v,e1,p,ys,e2,h,i,j,e3,e4,k,e5,hQ _ _ h2⟩
theorem J6g (tx : Tx K mg J5 J8 J2 J9 J1 Jc) : FnG P w K mg base "_law_other" 5 ["_law_script","_law_rule_here","_law_marks_here","_law_far"] (J7w K (cs6 J5 J8 J2 J9 J1 Jc)):=by
 have Jx:=J2l (P:=P) (w:=w) (base:=base) tx
 have J0k:=J3i (P:=P) (w:=w) (base:=base) tx
 have J1y:=J3M (P:=P) (w:=w) (base:=base) tx
 have J1z:=J3I (P:=P) (w:=w) (base:=base) tx
 have J18:=tx.J12.g (J1D (P:=P) (w:=w) (base:=base) tx)
 have J0F:=tx.J06.g (J1J (P:=P) (w:=w) (base:=base) tx)
 have J2z:=tx.J2F.g (J2r (P:=P) (w:=w) (base:=base) tx)
 refine tx.J6i.g J1T (fun _ _ _ _ _ _ us hl=>match us,hl with | [_,_,_,_],_=>rfl) (fun vs H Q E h=>?_) (fun f cdv A outer s H vs Q E hr h=>?_)
 ·obtain ⟨sc,pr,ns,r0,ms,far,rfl,_⟩:=h
  rfl
 ·obtain ⟨sc,pr,ns,r0,ms,far,rfl,hS,hns,h0,g0,d0,hm1,hm3,hfar,q⟩:=h
  refine ⟨_,(J4 (Je (i:=4) J1T.nd rfl (Or.inl rfl) (Jd Jy (Jz Jx (hr.mono (by decide)) (J0 (pv 0) (J0 J7 J3))) J7))
   (J4 (Je (i:=5) J1T.nd rfl (Or.inl rfl) (Jd JG (Jz Jx (hr.mono (by decide)) (J0 (pv 0) (J0 J7 J3))) J7))
   (J4 (JF (PW.pt (J7D (Jl J3p (pv 4) J7 (Jn _)) (J5T (Jl J0o (pv 3) J7 (Jn _))))) (Ja (Jj (Jz J1y (hr.mono (by decide)) (J0 (Jz Jx (hr.mono (by decide)) (J0 (pv 0) (J0 J7 J3))) (J0 (pv 2) J3))))) Jq)
   (J4 (JF (Jl J3p (pv 4) J7 (Jn _)) (Ja (Jj (Jz J1z (hr.mono (by decide)) (J0 (J1O (J3Z (K:=K) rfl) (pv 0) (J1s J7) (J1s J7)) (J0 (pv 2) (J0 (pv 3) J3)))))) Jq)
   (J4 (JF (Jl J0o (pv 4) J7 (Jn _)) (Ja (Jj (pv 1))) Jq)
   (J4 (JF (Jl J0o (pv 4) J7 (Jn _)) (Ja (Jj (JL (r:=rNot (cs6 J5 J8 J2 J9 J1 Jc)) J2z (hr.mono (by decide)) J63 (J0 (JL (r:=rNot (cs6 J5 J8 J2 J9 J1 Jc)) J2z (hr.mono (by decide)) J63 (J0 (pv 1) J3)) J3)))) Jq)
   (J4 (JF (Jl J0o (pv 4) J7 (Jn _)) (Ja (Jj (JL (r:=J2g (cs6 J5 J8 J2 J9 J1 Jc)) J0F (hr.mono (by decide)) J1N (J0 (pv 1) (J0 (JL (r:=J4i (cs6 J5 J8 J2 J9 J1 Jc)) J18 (hr.mono (by decide)) J2i (J0 (pv 1) (J0 (pv 1) J3))) J3))))) Jq)
   (J4 (JF (Jl J0o (pv 4) J7 (Jn _)) (Ja (Jj (JL (r:=J4i (cs6 J5 J8 J2 J9 J1 Jc)) J18 (hr.mono (by decide)) J2i (J0 (pv 1) (J0 (Jz J0k (hr.mono (by decide)) (J0 (pv 5) (J0 (pv 2) (J0 (pv 3) J3)))) J3))))) Jq)
   (Ja (Jj (JL (r:=J2g (cs6 J5 J8 J2 J9 J1 Jc)) J0F (hr.mono (by decide)) J1N (J0 (Jz J0k (hr.mono (by decide)) (J0 (pv 5) (J0 (pv 2) (J0 (pv 3) J3)))) (J0 (pv 1) J3))))))))))))),?_⟩
  walk_at "st"
  clear Jx J0k J1y J1z J18 J0F J2z
  have hns' : (ns.map V.int).length ≤ 63:=by rw [List.length_map]; exact hns
  walk_at "rd"
  intro c1
  walk_at "rd"
  intro c2
  walk_at "rd"
  refine ite2 (fun w3=>?_) (fun w3=>?_)
  ·walk_at "rd"
   refine ite2 (fun z=>?_) (fun z=>?_)
   ·have z' : far = 7:=by have:=of_decide_eq_true z; injection this
    walk_at "rd"
    intro c3
    walk_at "rd"
    intro r p H1 g d s1 h1
    exact q r p H1 (by rw [z']; exact g) (by omega) s1 h1
   ·have z' : far = 4:=by
     rcases hfar with y | y
     ·exact y
     ·exact absurd (decide_eq_true (by rw [y])) z
    subst z'
    walk_at "rd"
    refine ite2 (fun _=>?_) (fun y=>absurd w3 y)
    walk_at "rd"
    intro l nl
    rw [J8i]
    have hc4:=J9m ns 7 11 (by decide) (by decide)
    generalize cutN ns (some 7) (some 11) = cs at hc4
    obtain ⟨H1,e1,y1,s1⟩:=newl (xs:=cs.map V.int) nl
    rw [← e1]
    walk_at "rd"
    intro r p H2 g d s2 h2
    exact q r p H2 ⟨g.1,g.2⟩ (by omega) (s1.trans s2) h2
  walk_at "rd"
  refine ite2 (fun y=>absurd y w3) (fun _=>?_)
  walk_at "rd"
  refine ite2 (fun _=>?_) (fun _=>?_)
  ·walk_at "rd"
   exact q r0 pr H g0 (by omega) (Same.refl _) h0
  walk_at "rd"
  refine ite2 (fun _=>?_) (fun _=>?_)
  ·walk_at "rd"
   intro p1 d1 H1 s1 h1 _
   walk_at "rd"
   intro p2 d2 H2 s2 h2 _
   exact q _ p2 H2 g0.neg.neg (by show r0.depth + 1 + 1 ≤ 8; omega) (s1.trans s2) h2
  walk_at "rd"
  refine ite2 (fun _=>?_) (fun _=>?_)
  ·walk_at "rd"
   intro p1 d1 H1 s1 h1 _
   have h01:=h0.same s1
   walk_at "rd"
   intro p2 d2 H2 s2 h2 _
   exact q _ p2 H2 (g0.either (g0.both g0)) (by simp only [R.depth]; omega) (s1.trans s2) h2
  have f4 : 4 ≤ far:=by omega
  have f7 : far ≤ 7:=by omega
  walk_at "rd"
  refine ite2 (fun _=>?_) (fun _=>?_)
  ·walk_at "rd"
   intro r p H1 g d s1 h1
   have h01:=h0.same s1
   walk_at "rd"
   intro p2 d2 H2 s2 h2 _
   exact q _ p2 H2 (g0.both g) (by simp only [R.depth]; omega) (s1.trans s2) h2
  ·walk_at "rd"
   intro r p H1 g d s1 h1
   have h01:=h0.same s1
   walk_at "rd"
   intro p2 d2 H2 s2 h2 _
   exact q _ p2 H2 (g.either g0) (by simp only [R.depth]; omega) (s1.trans s2) h2
end
noncomputable def dayB (r : R) (past row : List Nat) (d : Nat) : Bool:=r.bad (past ++ row.take (d + 1))
noncomputable def badL (r : R) (past row : List Nat) : List Nat:=(List.range row.length).filter (dayB r past row)
noncomputable def dL (ds : List Nat) : List V:=(ds.map fun (d : Nat)=>(d : Int)).map V.int
theorem J3y (ds : List Nat) : (dL ds).all J1h = true:=J9T _
noncomputable def Jac (c6 : Cs) : Sp:=fun vs H Q _=>∃ p past row r,vs = [.ref p,T past,T row] ∧ Jk c6 H r p ∧ r.depth ≤ 23 ∧ past.length ≤ 300 ∧ row.length ≤ 300 ∧ ∀ D H',Same H H' → H D = none → H' D = some (.lst (dL (badL r past row))) → Q (.ref D) H'
section
variable {P : Program} {w : World} {K : PySem.W.Frag} {mg : Str → Option Value} {base : Heap} {J5 J8 J2 J9 J1 Jc : Addr}
theorem J3Y (tx : Tx K mg J5 J8 J2 J9 J1 Jc) : FnG P w K mg base "bad_days" 30 ["rule","past","row"] (Jac (cs6 J5 J8 J2 J9 J1 Jc)):=by
 refine tx.J7z.g J6q (fun _ _ _ _ _ _ us hl=>match us,hl with | [_,_,_],_=>rfl) (fun vs H Q E h=>?_) (fun f cdv A outer s H vs Q E hr h=>?_)
 ·obtain ⟨p,past,row,r,rfl,_⟩:=h
  rfl
 ·obtain ⟨p,past,row,r,rfl,hR,hd,hp,hw,q⟩:=h
  refine ⟨_,(Ja (Jj (J1Y (osc:=J6 J0M) (ON:=["rule","past","row"]) (N:=["day","rule","past","row"]) (js:=[none,some 0,some 1,some 2]) ⟨rfl,by decide +kernel,by decide +kernel,by decide +kernel,rfl,by decide +kernel⟩ rfl rfl rfl (J3g rfl tx.J1C (J0 (Jf JE rfl tx.JO PySem.boot_len (J0 (pv 2) J3)) J3)) (fun _ _ _ _ _=>JU (i:=0) (show List.Nodup (["day","rule","past","row"] : List Str) from by decide +kernel) rfl (Or.inl rfl)) (fun _ _ _ _ _=>J49 (J27 (J1B (P:=P) (w:=w) (K:=K) (mg:=mg) (base:=base) hr (pv 1) (J0 (Jd Jv (pv 2) (J1O J7S (pv 3) J5Y (J1s (Jd J1b (pv 0) J7)))) J3) rfl rfl rfl rfl rfl))) (fun _ _ _ _ _=>(pv 0))))),?_⟩
  walk_at "st"
  have Gb:=J2m (P:=P) (w:=w) (base:=base) tx r
  walk_at "rd"
  refine J64 (fun x=>match x with | .int d=>dayB r past row d.toNat | _=>false) (fun x=>x) (J6B 0 (row.length : Int).toNat) ?_ (fun x hx H' s' R hR'=>?_) (fun x hx hp H' s' R hR'=>?_) (fun D H' hD s' hDD=>?_)
  ·rw [List.length_map,List.length_range]; omega
  ·obtain ⟨k,hk,rfl⟩:=List.mem_map.mp hx
   have hk:=List.mem_range.mp hk
   have rp:=hR.same s'
   obtain ⟨dx,fs,ob,nb,_⟩:=rp.obj
   have hcl:=Jap row none (some (0 + (k : Int) + 1))
   have e : cutN row none (some (0 + (k : Int) + 1)) = row.take (((0 : Int) + (k : Int)).toNat + 1):=by
    rw [JaV _ _ (by omega),show (0 + (k : Int) + 1).toNat = (0 + (k : Int)).toNat + 1 by omega]
   walk_at "rd"
   intro H2 s2
   walk_at "rd"
   have q2:=hR' H2 s2
   show R (r.bad (past ++ cutN row none (some (0 + (k : Int) + 1)))) H2
   rw [e]
   exact q2
  ·walk_at "rd"
   exact hR' H' (Same.refl _)
  refine q D H' s' hD ?_
  rw [hDD]
  congr 2
  rw [List.map_id',List.filter_map]
  unfold dL badL
  rw [List.map_map]
  have e : (fun (d : Nat)=>(V.int ((d : Int)))) = fun (i : Nat)=>V.int (0 + (i : Int)):=by funext i; rw [Int.zero_add]
  show List.map _ _ = List.map (fun d : Nat=>V.int (d : Int)) _
  rw [e,Int.toNat_natCast]
  congr 1
  refine List.filter_congr fun d _=>?_
  show dayB r past row (0 + (d : Int)).toNat = dayB r past row d
  congr 1
  omega
end
noncomputable def J7u (c6 : Cs) : Sp:=fun vs H Q _=>∃ (pa pb : Addr) (a b : R) (ms l : List Nat) (c : Nat),vs = [T (l ++ [c]),.ref pa,.ref pb,T ms] ∧ Jk c6 H a pa ∧ Jk c6 H b pb ∧ a.depth ≤ 20 ∧ b.depth ≤ 20 ∧ ms.length ≤ 3 ∧ l.length ≤ 127 ∧ Cl a.bad b.bad ms l ∧ c ∈ ms ∧ a.bad (l ++ [c]) ≠ b.bad (l ++ [c]) ∧ ∀ H',Same H H' → Q (.bl true) H'
theorem Cl.over {f g : List Nat → Bool} {ms l : List Nat} (h : Cl f g ms l) : ∀ x ∈ l,x ∈ ms:=by
 induction h with
 | nil=>intro x hx; cases hx
 | @snoc l c h hc hf hg ih =>
  intro x hx
  rcases List.mem_append.mp hx with hx | hx
  ·exact ih x hx
  ·rw [List.mem_singleton.mp hx]; exact hc
theorem Cl.pre {f g : List Nat → Bool} {ms l : List Nat} (h : Cl f g ms l) : ∀ d < l.length,f (l.take (d + 1)) = false ∧ g (l.take (d + 1)) = false:=by
 induction h with
 | nil=>intro d hd; cases hd
 | @snoc l c h hc hf hg ih =>
  intro d hd
  rw [List.length_append,List.length_singleton] at hd
  by_cases hl : d < l.length
  ·rw [List.take_append_of_le_length (by omega)]
   exact ih d hl
  ·rw [List.take_of_length_le (by rw [List.length_append,List.length_singleton]; omega)]
   exact ⟨hf,hg⟩
theorem J58 {r : R} {l : List Nat} {c : Nat} (h : ∀ d < l.length,r.bad (l.take (d + 1)) = false) : badL r [] (l ++ [c]) = if r.bad (l ++ [c]) = true then [l.length] else []:=by
 unfold badL
 rw [List.length_append,List.length_singleton,List.range_succ,List.filter_append]
 have e1 : (List.range l.length).filter (dayB r [] (l ++ [c])) = []:=by
  rw [List.filter_eq_nil_iff]
  intro d hd
  have hd:=List.mem_range.mp hd
  unfold dayB
  rw [List.nil_append,List.take_append_of_le_length (by omega),h d hd]
  decide
 have e2 : dayB r [] (l ++ [c]) l.length = r.bad (l ++ [c]):=by
  unfold dayB
  rw [List.nil_append,List.take_of_length_le (by rw [List.length_append,List.length_singleton]; omega)]
 rw [e1,List.nil_append,List.filter_cons,e2]
 rfl
section
variable {P : Program} {w : World} {K : PySem.W.Frag} {mg : Str → Option Value} {base : Heap} {J5 J8 J2 J9 J1 Jc : Addr}
theorem J6p (tx : Tx K mg J5 J8 J2 J9 J1 Jc) : FnG P w K mg base "_law_parts" 32 ["_law_row","_law_rule_here","_law_other_here","_law_marks_here"] (J7u (cs6 J5 J8 J2 J9 J1 Jc)):=by
 have J0N:=J3Y (P:=P) (w:=w) (base:=base) tx
 refine tx.J6h.g J1S (fun _ _ _ _ _ _ us hl=>match us,hl with | [_,_,_,_],_=>rfl) (fun vs H Q E h=>?_) (fun f cdv A outer s H vs Q E hr h=>?_)
 ·obtain ⟨pa,pb,a,b,ms,l,c,rfl,_⟩:=h
  rfl
 ·obtain ⟨pa,pb,a,b,ms,l,c,rfl,ha,hb,da,db,hm,hl,hC,hc,hd,q⟩:=h
  refine ⟨_,(J4 (JF (PW.pt (J40 (J3d (J27 (Jf J53 rfl tx.JQ J1e (J0 (pv 0) (J0 (J8g tx.J4L J4Q) J3))))) (J40 (Jl J0o (pv 0) (Js (l:=[]) (by decide +kernel)) (Jn _)) (J62 (Jl (J9H (K:=K) rfl hr.units0) (J1Y (osc:=J6 J0h) (ON:=["_law_row","_law_rule_here","_law_other_here","_law_marks_here","_law_ones","_law_others"]) (N:=["_law_mark","_law_marks_here"]) (js:=[none,some 3]) ⟨rfl,by decide +kernel,by decide +kernel,by decide +kernel,rfl,by decide +kernel⟩ rfl rfl rfl (J4p (pv 0)) (fun _ _ _ _ _=>JU (i:=0) (show List.Nodup (["_law_mark","_law_marks_here"] : List Str) from by decide +kernel) rfl (Or.inl rfl)) (fun _ _ _ _ _=>J49 (Jl J90 (pv 0) (pv 1) rfl)) (fun _ _ _ _ _=>(pv 0))) (J0d J3) (Jn _)))))) (Ja (Jj J1G)) Jq)
   (J4 (Je (i:=4) J1S.nd rfl (Or.inl rfl) (Jz J0N (hr.mono (by decide)) (J0 (pv 1) (J0 (Js (l:=[]) (by decide +kernel)) (J0 (pv 0) J3)))))
   (J4 (Je (i:=5) J1S.nd rfl (Or.inl rfl) (Jz J0N (hr.mono (by decide)) (J0 (pv 2) (J0 (Js (l:=[]) (by decide +kernel)) (J0 (pv 0) J3)))))
   (Ja (Jj (J1u (Ja0 (K:=K) rfl hr.units0) (Jd Jba (pv 4) (pv 5)) (J0d (J0 (Jd J28 (Jf JE rfl tx.JO PySem.boot_len (J0 (pv 0) J3)) J7) J3)) (Jn _))))))),?_⟩
  walk_at "st"
  clear J0N
  have hll : (l ++ [c]).length ≤ 300:=by rw [List.length_append,List.length_singleton]; omega
  walk_at "rd"
  refine ite2 (fun z=>?_) (fun _=>?_)
  ·have:=JaJ (of_decide_eq_true z)
   simp at this
  have hov : ∀ x ∈ l ++ [c],x ∈ ms:=fun x hx=>by
   rcases List.mem_append.mp hx with hx | hx
   ·exact hC.over x hx
   ·rw [List.mem_singleton.mp hx]; exact hc
  walk_at "rd"
  refine J46 (l ++ [c]) (fun _=>false) (fun _ _ _=>True) (fun σ=>∃ v,σ = [v,some (T ms)]) (J2c (l ++ [c])) (by rw [List.length_map]) (by omega) ⟨_,rfl⟩ (fun _ _ _ _ _ z=>z) (fun i x v σ H' hx hv hσ s' Rf Rt hF hR=>?_) (fun D H1 ys nD s1 hys hD=>?_)
  ·obtain ⟨w1,rfl⟩:=hσ
   rw [List.getElem?_map,hx] at hv
   cases hv
   have hxm:=hov x (List.mem_of_getElem? hx)
   walk_at "rd"
   refine ite2 (fun z=>?_) (fun _=>?_)
   ·rw [decide_eq_true hxm] at z
    cases z
   ·exact hF _ _ rfl ⟨_,rfl⟩ (Same.refl _)
  have ey : ys = []:=by
   have:=hys.len
   rw [show (l ++ [c]).filter (fun _=>false) = [] from List.filter_eq_nil_iff.mpr fun _ _=>Bool.false_ne_true] at this
   cases ys with
   | nil=>rfl
   | cons _ _=>simp at this
  rw [ey] at hD
  clear hys ey
  walk_at "rd"
  intro l2 nl2
  obtain ⟨H2,e2,y2,s2⟩:=newl (xs:=[]) nl2
  rw [← e2]
  have hD2:=s2 _ _ hD
  have S2:=s1.trans s2
  have ha2:=ha.same S2
  have p1 : ∀ d < l.length,a.bad (l.take (d + 1)) = false:=fun d hd=>(hC.pre d hd).1
  have p2 : ∀ d < l.length,b.bad (l.take (d + 1)) = false:=fun d hd=>(hC.pre d hd).2
  have ea:=J58 (c:=c) p1
  have eb:=J58 (c:=c) p2
  have da23 : a.depth ≤ 23:=by omega
  have db23 : b.depth ≤ 23:=by omega
  have hnil : ([] : List Nat).length ≤ 300:=Nat.zero_le _
  walk_at "rd"
  intro D3 H3 s3 nD3 hD3
  have hb3:=hb.same (S2.trans s3)
  walk_at "rd"
  intro D4 H4 s4 nD4 hD4
  have hD34:=s4 _ _ hD3
  have S4:=(S2.trans s3).trans s4
  rw [ea] at hD34
  rw [eb] at hD4
  clear ea eb hD3
  have key : eqVs (dL (if a.bad (l ++ [c]) = true then [l.length] else []) ++ dL (if b.bad (l ++ [c]) = true then [l.length] else [])) [V.int (((l ++ [c]).length : Int) - 1)] = true ∧ (dL (if a.bad (l ++ [c]) = true then [l.length] else []) ++ dL (if b.bad (l ++ [c]) = true then [l.length] else [])).all J1h = true ∧ (dL (if a.bad (l ++ [c]) = true then [l.length] else [])).length ≤ 1 ∧ (dL (if b.bad (l ++ [c]) = true then [l.length] else [])).length ≤ 1:=by
   have e0 : [V.int (((l ++ [c]).length : Int) - 1)] = dL [l.length]:=by
    unfold dL
    rw [List.length_append,List.length_singleton]
    show [V.int (((l.length + 1 : Nat) : Int) - 1)] = [V.int ((l.length : Nat) : Int)]
    congr 2
    omega
   cases h1 : a.bad (l ++ [c]) <;> cases h2 : b.bad (l ++ [c])
   ·rw [h1,h2] at hd; exact absurd rfl hd
   ·rw [e0]
    exact ⟨J1R (J3y _),J3y [l.length],Nat.zero_le _,Nat.le_refl _⟩
   ·rw [e0]
    refine ⟨?_,?_,Nat.le_refl _,Nat.zero_le _⟩
    ·show eqVs (dL [l.length] ++ []) _ = true
     rw [List.append_nil]
     exact J1R (J3y _)
    ·show (dL [l.length] ++ []).all J1h = true
     rw [List.append_nil]
     exact J3y _
   ·rw [h1,h2] at hd; exact absurd rfl hd
  obtain ⟨k1,k2,k3,k4⟩:=key
  generalize dL (if a.bad (l ++ [c]) = true then [l.length] else []) = xs at hD34 k1 k2 k3
  generalize dL (if b.bad (l ++ [c]) = true then [l.length] else []) = ys at hD4 k1 k2 k4
  walk_at "rd"
  intro D5 nD5
  obtain ⟨H5,e5,y5,s5⟩:=newl (xs:=xs ++ ys) nD5
  rw [← e5]
  walk_at "rd"
  intro D6 nD6
  obtain ⟨H6,e6,y6,s6⟩:=newl (xs:=[V.int (((l ++ [c]).length : Int) - 1)]) nD6
  rw [← e6]
  have y56:=s6 _ _ y5
  have k5 : ([V.int (((l ++ [c]).length : Int) - 1)] : List V).all J1h = true:=rfl
  walk_at "rd"
  have:=q H6 ((S4.trans s5).trans s6)
  rw [← k1] at this
  exact this
end
noncomputable def Shut (f : List Nat → Bool) (ms : List Nat) (k : Nat) (met : List (List Nat)) (t : List Nat) : Prop:=∀ c ∈ ms,f (t ++ [c]) = false → Jo k (t ++ [c]) ∈ met
structure DF (f g : List Nat → Bool) (ms : List Nat) (k : Nat) (met left : List (List Nat)) (ex : List Nat → Prop) : Prop where
 nd : met.Nodup
 z : [] ∈ met
 cl : ∀ t ∈ met,∃ l,Cl f g ms l ∧ Jo k l = t
 lf : ∀ t ∈ left,t ∈ met
 sh : ∀ t ∈ met,t ∈ left ∨ ex t ∨ Shut f ms k met t
section
variable {f g : List Nat → Bool} {ms : List Nat} {k : Nat} {met left : List (List Nat)}
theorem DF.zero : DF f g ms k [[]] [[]] fun _=>False:=by
 refine ⟨by simp,List.mem_singleton_self _,fun t ht=>⟨[],.nil,?_⟩,fun t ht=>ht,fun t ht=>.inl ht⟩
 rw [List.mem_singleton.mp ht,J0p (Nat.zero_le _)]
theorem DF.same {ex : List Nat → Prop} (h : DF f g ms k met left ex) (df : depK k f) (dg : depK k g) (np : ∀ n,¬ J1c f g ms n) {t : List Nat} (ht : t ∈ met) {c : Nat} (hc : c ∈ ms) : f (t ++ [c]) = g (t ++ [c]):=by
 obtain ⟨l,hl,rfl⟩:=h.cl t ht
 refine Decidable.byContradiction fun z=>np l.length ⟨l,c,hl,rfl,hc,?_⟩
 rw [df l c,dg l c]
 exact z
theorem DF.put {ex : List Nat → Prop} (h : DF f g ms k met left ex) (df : depK k f) (dg : depK k g) {t : List Nat} (ht : t ∈ met) {c : Nat} (hc : c ∈ ms) (hf : f (t ++ [c]) = false) (hg : g (t ++ [c]) = false) (hx : ¬ Jo k (t ++ [c]) ∈ met) : DF f g ms k (met ++ [Jo k (t ++ [c])]) (left ++ [Jo k (t ++ [c])]) ex:=by
 refine ⟨?_,List.mem_append_left _ h.z,fun x hx=>?_,fun x hx=>?_,fun x hx=>?_⟩
 ·rw [List.nodup_append]
  refine ⟨h.nd,by simp,fun a ha b hb=>?_⟩
  rw [List.mem_singleton.mp hb]
  exact fun z=>hx (z ▸ ha)
 ·rcases List.mem_append.mp hx with hx | hx
  ·exact h.cl x hx
  ·obtain ⟨l,hl,rfl⟩:=h.cl t ht
   refine ⟨l ++ [c],.snoc hl hc (by rw [df l c]; exact hf) (by rw [dg l c]; exact hg),?_⟩
   rw [List.mem_singleton.mp hx,JY]
 ·rcases List.mem_append.mp hx with hx | hx
  ·exact List.mem_append_left _ (h.lf x hx)
  ·exact List.mem_append_right _ hx
 ·rcases List.mem_append.mp hx with hx | hx
  ·rcases h.sh x hx with z | z | z
   ·exact .inl (List.mem_append_left _ z)
   ·exact .inr (.inl z)
   ·exact .inr (.inr fun c hc hf=>List.mem_append_left _ (z c hc hf))
  ·exact .inl (List.mem_append_right _ hx)
theorem DF.pop {t : List Nat} (h : DF f g ms k met (left ++ [t]) fun _=>False) : DF f g ms k met left (· = t) ∧ t ∈ met:=by
 refine ⟨⟨h.nd,h.z,h.cl,fun x hx=>h.lf x (List.mem_append_left _ hx),fun x hx=>?_⟩,h.lf t (List.mem_append_right _ (List.mem_singleton_self _))⟩
 rcases h.sh x hx with z | z | z
 ·rcases List.mem_append.mp z with z | z
  ·exact .inl z
  ·exact .inr (.inl (List.mem_singleton.mp z))
 ·exact z.elim
 ·exact .inr (.inr z)
theorem DF.close {t : List Nat} (h : DF f g ms k met left (· = t)) (hs : Shut f ms k met t) : DF f g ms k met left fun _=>False :=
 ⟨h.nd,h.z,h.cl,h.lf,fun x hx=>by
  rcases h.sh x hx with z | z | z
  ·exact .inl z
  ·rw [z]; exact .inr (.inr hs)
  ·exact .inr (.inr z)⟩
theorem DF.ends (h : DF f g ms k met [] fun _=>False) (df : depK k f) : Ends f g ms k met:=by
 refine ⟨h.nd,fun x=>⟨h.cl x,?_⟩⟩
 rintro ⟨l,hl,rfl⟩
 induction hl with
 | nil=>rw [J0p (Nat.zero_le _)]; exact h.z
 | @snoc l c hl hc hf hg ih =>
  rw [JY]
  rcases h.sh _ ih with z | z | z
  ·cases z
  ·exact z.elim
  ·exact z c hc (by rw [← df l c]; exact hf)
theorem Ends.len {ts : List (List Nat)} (h : Ends f g ms k met) (h' : Ends f g ms k ts) : met.length = ts.length :=
 Nat.le_antisymm (J1Q h.nd fun x hx=>(h'.it x).mpr ((h.it x).mp hx)) (J1Q h'.nd fun x hx=>(h.it x).mpr ((h'.it x).mp hx))
theorem DF.le {ex : List Nat → Prop} {ts : List (List Nat)} (h : DF f g ms k met left ex) (e : Ends f g ms k ts) : met.length ≤ ts.length:=J1Q h.nd fun x hx=>(e.it x).mpr (h.cl x hx)
end
theorem J9C (l : List Nat) (k : Nat) : cutN l (some (if ((l.length : Nat) : Int) - ((k : Nat) : Int) > 0 then ((l.length : Nat) : Int) - ((k : Nat) : Int) else 0)) none = Jo k l:=by
 rw [J7c _ _ (by split <;> omega)]
 unfold Jo
 congr 1
 split <;> omega
noncomputable def J8A (c6 : Cs) : Sp:=fun vs H Q _=>∃ (tl pa pb : Addr) (a b : R) (ms : List Nat) (tls : List (List Nat)),vs = [.ref tl,.ref pa,.ref pb,T ms] ∧ H tl = some (.lst (tls.map T)) ∧ tls.length ≤ 127 ∧ (tls.Pairwise fun a b=>a < b) ∧ Jk c6 H a pa ∧ Jk c6 H b pb ∧ a.fine ∧ b.fine ∧ a.depth ≤ 20 ∧ b.depth ≤ 20 ∧ a.reach ≤ 7 ∧ b.reach ≤ 7 ∧ ms.length ≤ 3 ∧ (∀ n,¬ J1c a.bad b.bad ms n) ∧ Ends a.bad b.bad ms (kept a b) tls ∧ ∀ H',Same H H' → Q (.bl true) H'
section
variable {P : Program} {w : World} {K : PySem.W.Frag} {mg : Str → Option Value} {base : Heap} {J5 J8 J2 J9 J1 Jc : Addr}
theorem J5r (tx : Tx K mg J5 J8 J2 J9 J1 Jc) : FnG P w K mg base "_law_walked" 30 ["_law_tails","_law_rule_here","_law_other_here","_law_marks_here"] (J8A (cs6 J5 J8 J2 J9 J1 Jc)):=by
 refine tx.J5g.g JB (fun _ _ _ _ _ _ us hl=>match us,hl with | [_,_,_,_],_=>rfl) (fun vs H Q E h=>?_) (fun f cdv A outer s H vs Q E hr h=>?_)
 ·obtain ⟨tl,pa,pb,a,b,ms,tls,rfl,_⟩:=h
  rfl
 ·obtain ⟨tl,pa,pb,a,b,ms,tls,rfl,htl,h127,hpw,ha,hb,fa,fb,da,db,ra,rb,hm,np,hE,q⟩:=h
  refine ⟨_,(J4 (Je (i:=4) JB.nd rfl (Or.inl rfl) (Jd J28 (Jf (J1x rfl) rfl tx.J2p J38 (J0 (J1t (P:=P) (w:=w) (K:=K) (mg:=mg) (base:=base) hr (pv 1) rfl rfl rfl rfl rfl) (J0 (J1t (P:=P) (w:=w) (K:=K) (mg:=mg) (base:=base) hr (pv 2) rfl rfl rfl rfl rfl) J3))) J7))
   (J4 (Je (i:=5) JB.nd rfl (Or.inl rfl) (J8r (J79 (Js (l:=[]) (by decide +kernel)) J1G J8d) rfl rfl (by simp) (by decide)))
   (J4 (Je (i:=6) JB.nd rfl (Or.inl rfl) (J0d (J0 (Js (l:=[]) (by decide +kernel)) J3)))
   (J4 (J4j PassesOwn.never (Jl (J9H (K:=K) rfl hr.units0) (pv 6) (J0d J3) (Jn _)) (J4 (Je (i:=7) JB.nd rfl (Or.inl rfl) (J2v PySem.F.plainAttrs_list PySem.F.slot_list_pop PySem.F.type_list_pop J39 (pv 6)))
   (Ja (J1W PassesOwn.never rfl (J4p (pv 3)) (JU (i:=8) JB.nd rfl (Or.inl rfl)) (J4 (Je (i:=9) JB.nd rfl (Or.inl rfl) (Jd Jv (pv 7) (pv 8)))
   (J4 (JF (Jl J4m (J1B (P:=P) (w:=w) (K:=K) (mg:=mg) (base:=base) hr (pv 1) (J0 (pv 9) J3) rfl rfl rfl rfl rfl) (J1B (P:=P) (w:=w) (K:=K) (mg:=mg) (base:=base) hr (pv 2) (J0 (pv 9) J3) rfl rfl rfl rfl rfl) (Jn _)) (Ja (Jj J1G)) Jq)
   (J4 (Je (i:=10) JB.nd rfl (Or.inl rfl) (J1O J7S (pv 9) (J1s (Jf (J1x rfl) rfl tx.J2p J38 (J0 J7 (J0 (Jd J28 (Jf JE rfl tx.JO PySem.boot_len (J0 (pv 9) J3)) (pv 4)) J3)))) J5Y))
   (Ja (JF (PW.pt (J7D (J3d (J27 (J1B (P:=P) (w:=w) (K:=K) (mg:=mg) (base:=base) hr (pv 1) (J0 (pv 9) J3) rfl rfl rfl rfl rfl))) (J5T (J81 (J3a (J5f hr) (pv 10) (pv 5)) rfl)))) (J4 (J8a (J5f hr) (pv 5) (pv 10) J1G rfl)
   (Ja (J1v (J2S PySem.F.plainAttrs_list PySem.F.slot_list_append PySem.F.type_list_append J0D (pv 6) (J0 (pv 10) J3))))) Jq)))))))))
   (J4 (J1W PassesOwn.never rfl (J1P (K:=K) rfl (pv 0)) (JU (i:=11) JB.nd rfl (Or.inl rfl)) (Ja (JF (PW.pt (J40 (J3d (J27 (Jf J53 rfl tx.JQ J1e (J0 (pv 11) (J0 (J8g tx.J4L J4Q) J3))))) (J62 (J81 (J3a (J5f hr) (pv 11) (pv 5)) rfl)))) (Ja (Jj J1G)) Jq)))
   (J4 (J1W PassesOwn.never rfl (J8Q rfl tx.J1C (J0 J7 (J0 (Jf (JH (K:=K) rfl) rfl tx.JO PySem.boot_len (J0 (pv 0) J3)) J3))) (JU (i:=12) JB.nd rfl (Or.inl rfl)) (Ja (JF (Jl Jbq (JI (J0I (K:=K) rfl) (pv 0) (Jd J28 (pv 12) J7) (fun _ _=>rfl)) (JI (J0I (K:=K) rfl) (pv 0) (pv 12) (fun _ _=>rfl)) (Jn _)) (Ja (Jj J1G)) Jq)))
   (Ja (Jj (J1u J0o (Jf (JH (K:=K) rfl) rfl tx.JO PySem.boot_len (J0 (pv 0) J3)) (Jf J5a rfl tx.JO PySem.boot_len (J0 (pv 5) J3)) (Jn _)))))))))),?_⟩
  walk_at "st"
  obtain ⟨dxa,fsa,oa,na1,na2,_⟩:=ha.obj
  obtain ⟨dxb,fsb,ob,nb1,nb2,_⟩:=hb.obj
  have Fa:=J2A (P:=P) (w:=w) (base:=base) tx a
  have Fb:=J2A (P:=P) (w:=w) (base:=base) tx b
  have Ba:=J2m (P:=P) (w:=w) (base:=base) tx a
  have Bb:=J2m (P:=P) (w:=w) (base:=base) tx b
  have wa:=R.far17 fa
  have wb:=R.far17 fb
  have ek : ((if b.reach > a.reach then b.reach else a.reach) - 1 : Int) = ((kept a b : Nat) : Int):=by
   unfold kept
   rw [Int.toNat_of_nonneg (by split <;> omega)]
  have hk6 : kept a b ≤ 6:=by
   have : ((kept a b : Nat) : Int) ≤ 6:=by rw [← ek]; split <;> omega
   omega
  have dfa : depK (kept a b) a.bad:=R.dep fa (by rw [← ek]; split <;> omega)
  have dfb : depK (kept a b) b.bad:=R.dep fb (by rw [← ek]; split <;> omega)
  have dK1 : 1 + a.depth ≤ 29:=by omega
  have dK2 : 1 + b.depth ≤ 29:=by omega
  have dK3 : 5 + a.depth ≤ 29:=by omega
  have dK4 : 5 + b.depth ≤ 29:=by omega
  walk_at "rd"
  intro D nD
  refine ⟨Jb,[(Sum.inr ⟨#[]⟩,.bl true)],rfl,(by decide),?_⟩
  obtain ⟨H1,e1⟩ : ∃ H1,H1 = upd (upd H D (.dK [])) D (.dK (J2t [] [(Sum.inr ⟨#[]⟩,.bl true)])):=⟨_,rfl⟩
  rw [← e1]
  have hD1 : H1 D = some (.dK (kvT [[]])):=by rw [e1,Jb]; rfl
  have s1 : Same H H1:=by rw [e1]; exact (JJ nD _).upd nD
  clear e1
  walk_at "rd"
  intro rl nrl
  obtain ⟨H2,e2,hrl,s2⟩:=newl (xs:=[T []]) nrl
  rw [← e2]
  have nrl0 : H rl = none:=s1.free nrl
  have nDr : D ≠ rl:=Jp hD1 nrl
  refine ⟨fun m σ H'=>Here (∃ met lf v7 v8 v9 v10,σ = [some (.ref tl),some (.ref pa),some (.ref pb),some (T ms),some (.int (kept a b : Nat)),some (.ref D),some (.ref rl),v7,v8,v9,v10,none,none] ∧ H' D = some (.dK (kvT met)) ∧ H' rl = some (.lst (lf.map T)) ∧ Same H H' ∧ DF a.bad b.bad ms (kept a b) met lf (fun _=>False) ∧ lf.length ≤ met.length ∧ m = lf.length + 2 * (127 - met.length)),⟨_,Here.mk ⟨[[]],[[]],none,none,none,none,?_,s2 _ _ hD1,hrl,s1.trans s2,DF.zero,Nat.le_refl _,rfl⟩⟩,?_⟩
  ·exact congrArg (fun z=>[some (.ref tl),some (.ref pa),some (.ref pb),some (T ms),some (.int z),some (.ref D),some (.ref rl),none,none,none,none,none,none]) ek
  clear hD1 hrl s1 s2 nrl e2
  rintro m σ H3 hv
  obtain ⟨met,lf,v7,v8,v9,v10,rfl,hD3,hr3,s3,hDF,hlm,rfl⟩:=hv.out
  clear hv
  have hle:=hDF.le hE
  walk_at "rd"
  intro l nl
  obtain ⟨H4,e4,hl4,s4⟩:=newl (xs:=[]) nl
  rw [← e4]
  have hr4:=s4 _ _ hr3
  have hD4:=s4 _ _ hD3
  clear e4
  walk_at "rd"
  refine ite2 (fun z=>?_) (fun z=>?_)
  ·have he : lf ≠ []:=fun y=>by rw [y] at z; simp at z
   obtain ⟨lf',t,rfl⟩ : ∃ ys t,lf = ys ++ [t]:=⟨lf.dropLast,lf.getLast he,(List.dropLast_concat_getLast he).symm⟩
   obtain ⟨hDF',htm⟩:=hDF.pop
   rw [List.length_append,List.length_singleton] at hlm
   refine ⟨fun σ' H'=>Here (∃ met' lf'' v7 v8 v9 v10,σ' = [some (.ref tl),some (.ref pa),some (.ref pb),some (T ms),some (.int (kept a b : Nat)),some (.ref D),some (.ref rl),v7,v8,v9,v10,none,none] ∧ H' D = some (.dK (kvT met')) ∧ H' rl = some (.lst (lf''.map T)) ∧ Same H H' ∧ DF a.bad b.bad ms (kept a b) met' lf'' (fun _=>False) ∧ lf''.length ≤ met'.length ∧ lf''.length + 2 * (127 - met'.length) ≤ lf'.length + 2 * (127 - met.length)),fun σ' H' h'=>?_,?_⟩
   ·obtain ⟨met',lf'',u1,u2,u3,u4,rfl,k1,k2,k3,k4,k5,k6⟩:=h'.out
    refine ⟨_,?_,Here.mk ⟨met',lf'',u1,u2,u3,u4,rfl,k1,k2,k3,k4,k5,rfl⟩⟩
    rw [List.length_append,List.length_singleton]
    omega
   have hlast : ((lf' ++ [t]).map T)[((lf' ++ [t]).map T).length - 1]? = some (T t):=by
    rw [List.map_append,List.length_append]
    simp
   have hll4 : ((lf' ++ [t]).map T).length ≤ 1000:=by rw [List.length_map,List.length_append,List.length_singleton]; omega
   have hms : ms.length ≤ 1000:=by omega
   walk_at "rd"
   obtain ⟨H5,e5⟩ : ∃ H5,H5 = upd H4 rl (.lst (((lf' ++ [t]).map T).dropLast)):=⟨_,rfl⟩
   rw [← e5]
   have hr5 : H5 rl = some (.lst (lf'.map T)):=by rw [e5,Jb,List.map_append]; exact congrArg (fun z=>some (HO.lst z)) List.dropLast_concat
   have hD5 : H5 D = some (.dK (kvT met)):=by rw [e5,Jr nDr]; exact hD4
   have s5 : Same H H5:=by rw [e5]; exact (s3.trans s4).upd nrl0
   clear e5 hr4 hD4 hl4 s4 s3 hD3 hr3 hDF z he hlast hll4
   refine Jay (l:=ms) (fun j σ H6=>Here (∃ met' lf'' v8 v9 v10,σ = [some (.ref tl),some (.ref pa),some (.ref pb),some (T ms),some (.int (kept a b : Nat)),some (.ref D),some (.ref rl),some (T t),v8,v9,v10,none,none] ∧ H6 D = some (.dK (kvT met')) ∧ H6 rl = some (.lst (lf''.map T)) ∧ Same H H6 ∧ DF a.bad b.bad ms (kept a b) met' lf'' (· = t) ∧ t ∈ met' ∧ (∀ c ∈ ms.take j,a.bad (t ++ [c]) = false → Jo (kept a b) (t ++ [c]) ∈ met') ∧ lf''.length ≤ met'.length ∧ lf''.length + 2 * (127 - met'.length) ≤ lf'.length + 2 * (127 - met.length))) (Here.mk ⟨met,lf',_,_,_,rfl,hD5,hr5,s5,hDF',htm,fun c hc=>(by cases hc),by omega,Nat.le_refl _⟩) ?_ ?_
   ·clear hD5 hr5 s5 hDF' htm hlm hle
    rintro j c σ H6 hc hv
    obtain ⟨met',lf'',u8,u9,u10,rfl,hD6,hr6,s6,hDF,htm,hsh,hlm',hme⟩:=hv.out
    clear hv
    have hle:=hDF.le hE
    have hcm : c ∈ ms:=List.mem_of_getElem? hc
    have htl6 : t.length ≤ 6:=by
     obtain ⟨l,_,e⟩:=hDF.cl t htm
     rw [← e]
     exact Nat.le_trans (J54 _ _) hk6
    have eqb:=hDF.same dfa dfb np htm hcm
    have hrl : (t ++ [c]).length ≤ 1000:=by rw [List.length_append,List.length_singleton]; omega
    have ha6:=ha.same s6
    have oa6:=s6 _ _ oa
    have ec:=J9C (t ++ [c]) (kept a b)
    have nxt : ∀ (met2 : List (List Nat)),(∀ x ∈ met',x ∈ met2) → (a.bad (t ++ [c]) = false → Jo (kept a b) (t ++ [c]) ∈ met2) → ∀ c ∈ ms.take (j + 1),a.bad (t ++ [c]) = false → Jo (kept a b) (t ++ [c]) ∈ met2:=fun met2 h1 h2 x hx hf=>by
     rw [List.take_add_one,hc] at hx
     rcases List.mem_append.mp hx with hx | hx
     ·exact h1 _ (hsh x hx hf)
     ·rw [List.mem_singleton.mp hx] at hf ⊢
      exact h2 hf
    walk_at "rd"
    intro H7 s7
    have S7:=s6.trans s7
    have hb7:=hb.same S7
    have ob7:=S7 _ _ ob
    walk_at "rd"
    intro H8 s8
    have S8:=S7.trans s8
    have ha8:=ha.same S8
    have oa8:=S8 _ _ oa
    walk_at "rd"
    refine ite2 (fun u=>?_) (fun _=>?_)
    ·rw [eqb] at u
     simp at u
    walk_at "rd"
    rw [ec]
    intro H9 s9
    have S9:=S8.trans s9
    have s69:=(s7.trans s8).trans s9
    have hD9:=s69 _ _ hD6
    have hr9:=s69 _ _ hr6
    walk_at "rd"
    refine ite2 (fun u2=>?_) (fun u2=>?_)
    ·have hf : a.bad (t ++ [c]) = false:=by simpa using u2
     have hg : DGet H9 D (T (Jo (kept a b) (t ++ [c]))) (valV (kvT met') (Sum.inr ⟨(Jo (kept a b) (t ++ [c])).toArray⟩)):=DGet.k (k:=Sum.inr ⟨(Jo (kept a b) (t ++ [c])).toArray⟩) hD9
     have hkl : (kvT met').length < sizeLine:=by
      unfold kvT
      rw [List.length_map]
      exact Nat.lt_of_lt_of_le (show met'.length < 400 by omega) (by decide)
     have hp : DPut H9 D (T (Jo (kept a b) (t ++ [c]))) (.bl true) (upd H9 D (.dK (putK (kvT met') (Sum.inr ⟨(Jo (kept a b) (t ++ [c])).toArray⟩) (.bl true)))):=DPut.k (k:=Sum.inr ⟨(Jo (kept a b) (t ++ [c])).toArray⟩) hD9 hkl
     have hr10 : upd H9 D (.dK (putK (kvT met') (Sum.inr ⟨(Jo (kept a b) (t ++ [c])).toArray⟩) (.bl true))) rl = some (.lst (lf''.map T)):=by rw [Jr nDr.symm]; exact hr9
     have hl3 : (lf''.map T).length ≤ 1000:=by rw [List.length_map]; omega
     walk_at "rd"
     rw [J3B]
     refine ite2 (fun z=>?_) (fun z=>?_)
     ·have z' : ¬ Jo (kept a b) (t ++ [c]) ∈ met':=fun y=>by rw [decide_eq_true y] at z; cases z
      walk_at "rd"
      rw [J8q z'] at hr10 ⊢
      have hDF2:=hDF.put dfa dfb htm hcm hf (by rw [← eqb]; exact hf) z'
      have hle2:=hDF2.le hE
      rw [List.length_append,List.length_singleton] at hle2
      refine Here.mk ⟨_,_,_,_,_,rfl,?_,?_,(S9.upd nD).upd nrl0,hDF2,List.mem_append_left _ htm,nxt _ (fun x hx=>List.mem_append_left _ hx) (fun _=>List.mem_append_right _ (List.mem_singleton_self _)),?_,?_⟩
      ·rw [Jr nDr,Jb]
      ·rw [Jb,List.map_append]; rfl
      ·rw [List.length_append,List.length_append,List.length_singleton]; omega
      ·rw [List.length_append,List.length_append,List.length_singleton]; omega
     ·have z' : Jo (kept a b) (t ++ [c]) ∈ met':=Decidable.byContradiction fun y=>z (by rw [decide_eq_false y]; rfl)
      walk_at "rd"
      exact Here.mk ⟨met',lf'',_,_,_,rfl,hD9,hr9,S9,hDF,htm,nxt _ (fun x hx=>hx) (fun _=>z'),hlm',hme⟩
    ·have hf : a.bad (t ++ [c]) = true:=by simpa using u2
     walk_at "rd"
     exact Here.mk ⟨met',lf'',_,_,_,rfl,hD9,hr9,S9,hDF,htm,nxt _ (fun x hx=>hx) (fun y=>by rw [hf] at y; cases y),hlm',hme⟩
   ·rintro σ H6 hv
    obtain ⟨met',lf'',u8,u9,u10,rfl,hD6,hr6,s6,hDF,htm,hsh,hlm',hme⟩:=hv.out
    rw [List.take_length] at hsh
    exact Here.mk ⟨met',lf'',_,_,_,_,rfl,hD6,hr6,s6,hDF.close hsh,hlm',hme⟩
  ·have he : lf = []:=by
    cases lf with
    | nil=>rfl
    | cons x r=>exact absurd rfl z
   rw [he] at hDF
   have eE:=hDF.ends dfa
   have el:=eE.len hE
   have S4:=s3.trans s4
   have htl4:=S4 _ _ htl
   have ht127 : (tls.map T).length ≤ 127:=by rw [List.length_map]; exact h127
   walk_at "rd"
   refine J26 (K:=K) (xs:=tls.map T) (fun i σ H5=>Here (∃ v11,σ = [some (.ref tl),some (.ref pa),some (.ref pb),some (T ms),some (.int (kept a b : Nat)),some (.ref D),some (.ref rl),v7,v8,v9,v10,v11,none] ∧ H5 = H4)) (Here.mk ⟨none,rfl,rfl⟩) (fun i σ H5 _ hv=>by obtain ⟨_,_,e⟩:=hv.out; rw [e]; exact SqL.of htl4) ?_ ?_
   ·rintro i x σ H5 hx hv
    obtain ⟨v11,rfl,eH⟩:=hv.out
    rw [eH]
    obtain ⟨y,hy,rfl⟩:=J8s hx
    have hym : y ∈ met:=(eE.it y).mpr ((hE.it y).mp (List.mem_of_getElem? hy))
    have hg : DGet H4 D (T y) (valV (kvT met) (Sum.inr ⟨y.toArray⟩)):=DGet.k (k:=Sum.inr ⟨y.toArray⟩) hD4
    walk_at "rd"
    rw [J3B,decide_eq_true hym]
    walk_at "rd"
    exact Here.mk ⟨_,rfl,rfl⟩
   ·rintro σ H5 hv
    obtain ⟨v11,rfl,eH⟩:=hv.out
    rw [eH]
    walk_at "rd"
    refine J3b (lo:=1) (n:=(((tls.map T).length : Int) - 1).toNat) (fun i σ H5=>Here (∃ v12,σ = [some (.ref tl),some (.ref pa),some (.ref pb),some (T ms),some (.int (kept a b : Nat)),some (.ref D),some (.ref rl),v7,v8,v9,v10,v11,v12] ∧ H5 = H4)) (Here.mk ⟨none,rfl,rfl⟩) ?_ ?_
    ·rintro i σ H5 hi hv
     obtain ⟨v12,rfl,eH⟩:=hv.out
     rw [eH]
     rw [List.length_map] at hi
     have h1 : i + 1 < tls.length:=by omega
     have h0 : i < tls.length:=by omega
     have g1 : atI (tls.map T) (1 + (i : Int)) = some (T (tls[i + 1]'h1)):=by rw [show 1 + (i : Int) = ((i + 1 : Nat) : Int) by omega]; exact J3x (by rw [List.getElem?_map,List.getElem?_eq_getElem h1]; rfl)
     have g0 : atI (tls.map T) (1 + (i : Int) - 1) = some (T (tls[i]'h0)):=by rw [show 1 + (i : Int) - 1 = ((i : Nat) : Int) by omega]; exact J3x (by rw [List.getElem?_map,List.getElem?_eq_getElem h0]; rfl)
     have hlt:=List.pairwise_iff_getElem.mp hpw i (i + 1) h0 h1 (by omega)
     generalize tls[i + 1]'h1 = y at g1 hlt
     generalize tls[i]'h0 = x at g0 hlt
     walk_at "rd"
     rw [decide_eq_true hlt]
     walk_at "rd"
     exact Here.mk ⟨_,rfl,rfl⟩
    ·rintro σ H5 hv
     obtain ⟨v12,rfl,eH⟩:=hv.out
     rw [eH]
     have hkl : (kvT met).length = tls.length:=by unfold kvT; rw [List.length_map,el]
     walk_at "rd"
     rw [hkl,List.length_map,decide_eq_true rfl]
     exact q H4 S4
end
theorem J1c.flip {f g : List Nat → Bool} {ms : List Nat} {n : Nat} (h : J1c f g ms n) : J1c g f ms n:=let ⟨l,c,h1,h2,h3,h4⟩:=h; ⟨l,c,h1.flip,h2,h3,h4.symm⟩
theorem J8H (a b : R) : kept a b = kept b a:=by
 unfold kept
 congr 1
 split <;> split <;> omega
theorem J6A {a b : R} {ms row : List Nat} (np : ∀ n,¬ J1c a.bad b.bad ms n) (ho : ∀ x ∈ row,x ∈ ms) (h : badL a [] row = []) : Cl a.bad b.bad ms row:=by
 have hd : ∀ d < row.length,a.bad (row.take (d + 1)) = false:=fun d hd=>by
  have:=List.filter_eq_nil_iff.mp h d (List.mem_range.mpr hd)
  unfold dayB at this
  rw [List.nil_append] at this
  simpa using this
 have key : ∀ j,j ≤ row.length → Cl a.bad b.bad ms (row.take j):=by
  intro j
  induction j with
  | zero=>intro _; exact .nil
  | succ j ih =>
   intro hj
   have hc:=ih (by omega)
   have hjl : j < row.length:=by omega
   have e : row.take (j + 1) = row.take j ++ [row[j]'hjl]:=by rw [List.take_add_one,List.getElem?_eq_getElem hjl]; rfl
   have hf:=hd j hjl
   rw [e] at hf ⊢
   refine .snoc hc (ho _ (List.getElem_mem _)) hf ?_
   refine Decidable.byContradiction fun z=>np (row.take j).length ⟨_,_,hc,rfl,ho _ (List.getElem_mem hjl),?_⟩
   rw [hf]
   exact fun y=>z y.symm
 have:=key row.length (Nat.le_refl _)
 rwa [List.take_length] at this
theorem J5b {a b : R} {ms row : List Nat} (h : Cl a.bad b.bad ms row) : badL b [] row = []:=by
 unfold badL
 rw [List.filter_eq_nil_iff]
 intro d hd
 unfold dayB
 rw [List.nil_append,(h.pre d (List.mem_range.mp hd)).2]
 decide
theorem JaC {a b : R} {ms row : List Nat} (np : ∀ n,¬ J1c a.bad b.bad ms n) (ho : ∀ x ∈ row,x ∈ ms) : badL a [] row = [] ↔ badL b [] row = [] :=
 ⟨fun h=>J5b (J6A np ho h),fun h=>J5b (J6A (fun n z=>np n z.flip) ho h)⟩
theorem J4W : ∀ {l m : List (List Nat)},(l.Pairwise fun a b=>a < b) → (m.Pairwise fun a b=>a < b) → (∀ c,c ∈ l ↔ c ∈ m) → l = m
 | [],[],_,_,_=>rfl
 | [],b :: m,_,_,h=>by have:=(h b).mpr List.mem_cons_self; cases this
 | a :: l,[],_,_,h=>by have:=(h a).mp List.mem_cons_self; cases this
 | a :: l,b :: m,h1,h2,h=>by
  obtain ⟨p1,p2⟩:=List.pairwise_cons.mp h1
  obtain ⟨q1,q2⟩:=List.pairwise_cons.mp h2
  have e : a = b:=by
   rcases List.mem_cons.mp ((h a).mp List.mem_cons_self) with z | z
   ·exact z
   ·rcases List.mem_cons.mp ((h b).mpr List.mem_cons_self) with y | y
    ·exact y.symm
    ·exact absurd (List.lt_trans (q1 a z) (p1 b y)) (List.lt_irrefl _)
  subst e
  have : l = m:=J4W p2 q2 fun c=>⟨fun z=>?_,fun z=>?_⟩
  ·rw [this]
  ·rcases List.mem_cons.mp ((h c).mp (List.mem_cons_of_mem _ z)) with y | y
   ·exact absurd (y ▸ p1 c z) (List.lt_irrefl _)
   ·exact y
  ·rcases List.mem_cons.mp ((h c).mpr (List.mem_cons_of_mem _ z)) with y | y
   ·exact absurd (y ▸ q1 c z) (List.lt_irrefl _)
   ·exact y
theorem J4g {f g : List Nat → Bool} {ms : List Nat} {k : Nat} {ss : List Str} {l : List (List Nat)} (hp : ss.Perm (l.map fun t=>(⟨t.toArray⟩ : Str))) (hs : PyProof.Rows.sortedS ss = true) (hE : Ends f g ms k l) : ∃ cols : List (List Nat),ss.map V.str = cols.map T ∧ cols.length = l.length ∧ (cols.Pairwise fun a b=>a < b) ∧ Ends f g ms k cols:=by
 have hp2 : (ss.map fun s=>s.cps.toList).Perm l:=by
  have:=hp.map fun s : Str=>s.cps.toList
  rw [List.map_map] at this
  have e : l.map ((fun s : Str=>s.cps.toList) ∘ fun t=>(⟨t.toArray⟩ : Str)) = l:=by
   refine (List.map_congr_left fun a _=>?_).trans (List.map_id l)
   rfl
  rw [e] at this
  exact this
 have h3 : (ss.map fun s=>s.cps.toList).Nodup:=hp2.nodup_iff.mpr hE.nd
 refine ⟨ss.map fun s=>s.cps.toList,?_,hp2.length_eq,?_,⟨h3,fun x=>hp2.mem_iff.trans (hE.it x)⟩⟩
 ·rw [List.map_map]
  refine List.map_congr_left fun s _=>?_
  rfl
 ·have h1:=J8J hs
  have h2 : (ss.map fun s=>s.cps.toList).Pairwise fun a b=>¬ b < a:=by
   rw [List.pairwise_map]
   refine h1.imp fun {a b} z=>?_
   rw [PyProof.Rows.ltCps_eq] at z
   exact of_decide_eq_false z
  refine (h2.and h3).imp fun {a b} z=>?_
  rcases Decidable.em (a < b) with y | y
  ·exact y
  ·exact absurd (List.le_antisymm (List.not_lt.mp z.1) (List.not_lt.mp y)) z.2
theorem J8l {f g : List Nat → Bool} {ms : List Nat} {k : Nat} {l m : List (List Nat)} (h1 : l.Pairwise fun a b=>a < b) (h2 : m.Pairwise fun a b=>a < b) (e1 : Ends f g ms k l) (e2 : Ends f g ms k m) : l = m:=J4W h1 h2 fun c=>(e1.it c).trans (e2.it c).symm
theorem at20 (a b : V) : atI [a,b] 0 = some a:=by simp [atI,ixN]
theorem at21 (a b : V) : atI [a,b] 1 = some b:=by simp [atI,ixN]
theorem Jb2 {α : Type} (l : List α) (h : 1 ≤ l.length) : ∃ c,atI l (-1) = some c:=by
 obtain ⟨ys,z,rfl⟩:=J2P (zs:=l) (fun e=>by rw [e] at h; simp at h)
 exact ⟨z,J9Y ys z⟩
theorem Gn.fit {far : Int} {a b : R} {ms : List Nat} (ga : Gn far a) (gb : Gn far b) (hf : far = 4 ∨ far = 7) (h3 : ms.length ≤ 3) (h7 : far = 7 → ms.length ≤ 2) : J8p a b ms:=by
 rcases hf with z | z
 ·subst z; exact .inl ⟨ga.2,gb.2,h3⟩
 ·have:=h7 z; subst z; exact .inr ⟨ga.2,gb.2,this⟩
section
variable {P : Program} {w : World} {K : PySem.W.Frag} {mg : Str → Option Value} {base : Heap} {J5 J8 J2 J9 J1 Jc : Addr}
theorem Jb3 {f : Addr} {fd : FuncData} (tx : Tx K mg J5 J8 J2 J9 J1 Jc) (F : Fun K "law" "law" J20 f fd) : FnOk P w K mg base CX0 40 f fd ["_law_script"] (sp_law K):=by
 have Jx:=J2l (P:=P) (w:=w) (base:=base) tx
 have J3k:=J6t (P:=P) (w:=w) (base:=base) tx
 have J1y:=J3M (P:=P) (w:=w) (base:=base) tx
 have J1z:=J3I (P:=P) (w:=w) (base:=base) tx
 have J3j:=J6g (P:=P) (w:=w) (base:=base) tx
 have J3l:=J6f (P:=P) (w:=w) (base:=base) tx
 have J24:=J6p (P:=P) (w:=w) (base:=base) tx
 have J2C:=J5r (P:=P) (w:=w) (base:=base) tx
 have J0N:=J3Y (P:=P) (w:=w) (base:=base) tx
 have J3u:=Ja5 (P:=P) (w:=w) (base:=base) tx
 have J0K:=tx.J0J.g (J1r (P:=P) (w:=w) (base:=base) tx)
 have J18:=tx.J12.g (J1D (P:=P) (w:=w) (base:=base) tx)
 refine F.ok J0E (fun vs H Q E h=>?_) (fun cdv A outer s H vs Q E hr h=>?_)
 ·obtain ⟨a,ns,rfl,_⟩:=h
  rfl
 ·obtain ⟨sc,ns,rfl,hS,hns,q⟩:=h
  refine ⟨_,(J4 (Je (i:=1) J0E.nd rfl (Or.inl rfl) J7)
   (J4 (J3c (JF (Jl J0o (Jd Jy (Jd J1b (Jz Jx (hr.mono (by decide)) (J0 (pv 0) (J0 J7 J3))) (Jz Jx (hr.mono (by decide)) (J0 (pv 0) (J0 J7 J3)))) J7) J7 (Jn _)) (Ja (Je (i:=1) J0E.nd rfl (Or.inl rfl) J7)) Jq))
   (J4 (Je (i:=2) J0E.nd rfl (Or.inr rfl) (Jz J3k (hr.mono (by decide)) (J0 (Jz Jx (hr.mono (by decide)) (J0 (pv 0) (J0 J7 J3))) (J0 (pv 1) J3))))
   (J4 (J3c (JF (Jl J0o (pv 1) J7 (Jn _)) (Ja (Je (i:=3) J0E.nd rfl (Or.inl rfl) (Jz J1y (hr.mono (by decide)) (J0 (Jz Jx (hr.mono (by decide)) (J0 (pv 0) (J0 J7 J3))) (J0 (pv 2) J3))))) (Ja (Je (i:=3) J0E.nd rfl (Or.inl rfl) (Jz J1z (hr.mono (by decide)) (J0 (J1O (J3Z (K:=K) rfl) (pv 0) (J1s J7) (J1s J7)) (J0 (pv 2) (J0 (pv 1) J3))))))))
   (J4 (Je (i:=4) J0E.nd rfl (Or.inl rfl) (Jz J3j (hr.mono (by decide)) (J0 (pv 0) (J0 (pv 3) (J0 (pv 2) (J0 (pv 1) J3))))))
   (J4 (J3c (JF (PW.pt (J7D (Jl J0o (pv 1) J7 (Jn _)) (J5T (Jl J0o (Jd Jy (Jz Jx (hr.mono (by decide)) (J0 (pv 0) (J0 J7 J3))) J7) J7 (Jn _))))) (J4 (Je (i:=5) J0E.nd rfl (Or.inl rfl) (Jd JG (Jz Jx (hr.mono (by decide)) (J0 (pv 0) (J0 J7 J3))) J7))
   (J4 (Je (i:=6) J0E.nd rfl (Or.inl rfl) (Jd Jv (Jd Jv (JI J1d (pv 2) (JaI J9l J7) (fun _ _=>rfl)) (Js (l:=[63,63]) (by decide +kernel))) (JI J1d (pv 2) (Jd Jy (Jd JG (pv 5) J7) (Jf JE rfl tx.JO PySem.boot_len (J0 (pv 2) J3))) (fun _ _=>rfl))))
   (J4 (J3c (JF (Jl J0o (Jd Jy (Jd JG (pv 5) J7) J7) J7 (Jn _)) (Ja (Je (i:=6) J0E.nd rfl (Or.inl rfl) (JI J1d (pv 2) (JaI J9l J7) (fun _ _=>rfl)))) Jq))
   (J4 (Je (i:=3) J0E.nd rfl (Or.inl rfl) (Jz J3l (hr.mono (by decide)) (J0 (pv 5) (J0 (pv 2) J3))))
   (Ja (Je (i:=4) J0E.nd rfl (Or.inl rfl) (JL (r:=J4i (cs6 J5 J8 J2 J9 J1 Jc)) J18 (hr.mono (by decide)) J2i (J0 (pv 3) (J0 (JL (r:=rNev (cs6 J5 J8 J2 J9 J1 Jc)) J0K (hr.mono (by decide)) J4d (J0 (pv 6) J3)) J3))))))))) Jq))
   (J4 (Je (i:=7) J0E.nd rfl (Or.inl rfl) (Jz J3u (hr.mono (by decide)) (J0 (pv 3) (J0 (pv 4) (J0 (pv 2) J3)))))
   (J4 (Je (i:=8) J0E.nd rfl (Or.inl rfl) (Jz J3u (hr.mono (by decide)) (J0 (pv 4) (J0 (pv 3) (J0 (pv 2) J3)))))
   (J4 (JF (PW.pt (J40 (J3d (J27 (Jf J7Z rfl tx.JQ J1e (J0 (pv 7) (J0 (J8g tx.J2D J6D) J3))))) (J40 (Jl J4m (Jf (JH (K:=K) rfl) rfl tx.JO PySem.boot_len (J0 (pv 7) J3)) J7 (Jn _)) (J62 (Jl J4m (JI (J0L (K:=K) rfl) (pv 7) J7 (fun _ _=>rfl)) (JI (J0L (K:=K) rfl) (pv 8) J7 (fun _ _=>rfl)) (Jn _)))))) (Ja (Jj J1G)) Jq)
   (J4 (JF (Jl J0o (JI (J0L (K:=K) rfl) (pv 7) J7 (fun _ _=>rfl)) (Js (l:=[112,97,114,116,101,100]) (by decide +kernel)) (Jn _)) (Ja (Jj (J7F (Jz J24 (hr.mono (by decide)) (J0 (JI (J0L (K:=K) rfl) (pv 7) J7 (fun _ _=>rfl)) (J0 (pv 3) (J0 (pv 4) (J0 (pv 2) J3))))) (J60 (Jz J24 (hr.mono (by decide)) (J0 (JI (J0L (K:=K) rfl) (pv 8) J7 (fun _ _=>rfl)) (J0 (pv 4) (J0 (pv 3) (J0 (pv 2) J3))))))))) Jq)
   (J4 (JF (PW.pt (J40 (Jl J4m (JI (J0L (K:=K) rfl) (pv 7) J7 (fun _ _=>rfl)) (Js (l:=[97,108,105,107,101]) (by decide +kernel)) (Jn _)) (J40 (J3d (J27 (Jf J7J rfl tx.JQ J1e (J0 (JI (J0L (K:=K) rfl) (pv 7) J7 (fun _ _=>rfl)) (J0 (J8g tx.J31 J42) J3))))) (J62 (Jl (J9M (K:=K) rfl hr.units0) (JI (J0L (K:=K) rfl) (pv 7) J7 (fun _ _=>rfl)) (JI (J0L (K:=K) rfl) (pv 8) J7 (fun _ _=>rfl)) (Jn _)))))) (Ja (Jj J1G)) Jq)
   (J4 (Je (i:=9) J0E.nd rfl (Or.inl rfl) (J9J (K:=K) rfl (Js (l:=[]) (by decide +kernel)) (J0 (J1Y (osc:=J6 J20) (ON:=["_law_script","_law_far","_law_marks_here","_law_rule_here","_law_other_here","_law_cell","_law_word","_law_found","_law_again","_law_row","_law_kept"]) (N:=["_law_cell","_law_marks_here"]) (js:=[none,some 2]) ⟨rfl,by decide +kernel,by decide +kernel,by decide +kernel,rfl,by decide +kernel⟩ rfl rfl rfl (J1P (K:=K) rfl (J1O (J3Z (K:=K) rfl) (pv 0) (J1s J7) (J1s J7))) (fun _ _ _ _ _=>JU (i:=0) (show List.Nodup (["_law_cell","_law_marks_here"] : List Str) from by decide +kernel) rfl (Or.inl rfl)) (fun _ _ _ _ _=>J2L) (fun _ _ _ _ _=>(JI J1d (pv 1) (Jd Jy (pv 0) (Jf JE rfl tx.JO PySem.boot_len (J0 (pv 1) J3))) (fun _ _=>rfl)))) J3)))
   (J4 (JF (Jl J4m (J1u (J9O (K:=K) rfl hr.units0) (Jz J0N (hr.mono (by decide)) (J0 (pv 3) (J0 (Js (l:=[]) (by decide +kernel)) (J0 (pv 9) J3)))) (J0d J3) (Jn _)) (J1u (J9O (K:=K) rfl hr.units0) (Jz J0N (hr.mono (by decide)) (J0 (pv 4) (J0 (Js (l:=[]) (by decide +kernel)) (J0 (pv 9) J3)))) (J0d J3) (Jn _)) (Jn _)) (Ja (Jj J1G)) Jq)
   (J4 (Je (i:=10) J0E.nd rfl (Or.inl rfl) (J91 J5N rfl tx.J31 J42 (J0 (JI (J0L (K:=K) rfl) (pv 7) J7 (fun _ _=>rfl)) J3)))
   (J4 (J1v (J2v PySem.F.plainAttrs_list PySem.F.slot_list_clear PySem.F.type_list_clear J9r (JI (J0L (K:=K) rfl) (pv 7) J7 (fun _ _=>rfl))))
   (J4 (J1v (J2S PySem.F.plainAttrs_list PySem.F.slot_list_append PySem.F.type_list_append J0D (JI (J0L (K:=K) rfl) (pv 8) J7 (fun _ _=>rfl)) (J0 (Js (l:=[]) (by decide +kernel)) J3)))
   (Ja (Jj (J7F (Jz J2C (hr.mono (by decide)) (J0 (pv 10) (J0 (pv 3) (J0 (pv 4) (J0 (pv 2) J3))))) (J60 (J1u (Jan (J5f hr)) (Jz J3u (hr.mono (by decide)) (J0 (pv 3) (J0 (pv 4) (J0 (pv 2) J3)))) (J84 (J0 (Js (l:=[97,108,105,107,101]) (by decide +kernel)) (J0 (pv 10) J3))) (Jn _)))))))))))))))))))))),?_⟩
  walk_at "st"
  clear Jx J3k J1y J1z J3j J3l J24 J2C J0N J3u J0K J18
  have hns' : (ns.map V.int).length ≤ 63:=by rw [List.length_map]; exact hns
  walk_at "rd"
  refine tCut.mk (fun σ' H'=>Here (∃ far : Int,(far = 4 ∨ far = 7) ∧ σ' = [some (.ref sc),some (.int far),none,none,none,none,none,none,none,none,none] ∧ H' = H)) ?_ ?_
  ·walk_at "rd"
   intro c0
   walk_at "rd"
   intro c1
   walk_at "rd"
   refine ite2 (fun _=>?_) (fun _=>?_)
   ·walk_at "rd"
    exact Here.mk ⟨7,.inr rfl,rfl,rfl⟩
   ·exact Here.mk ⟨4,.inl rfl,rfl,rfl⟩
  rintro σ' H' hv
  obtain ⟨far,hfar,rfl,eH⟩:=hv.out
  rw [eH]
  clear hv eH
  walk_at "rd"
  intro c0
  walk_at "rd"
  intro ms H1 m1 m3 m7 m4 s1
  have hS1:=s1.seq hS
  have hms : ms.length ≤ 1000:=by omega
  refine tCut.mk (fun σ' H'=>Here (∃ (p : Addr) (r : R),σ' = [some (.ref sc),some (.int far),some (T ms),some (.ref p),none,none,none,none,none,none,none] ∧ Jk (cs6 J5 J8 J2 J9 J1 Jc) H' r p ∧ Gn far r ∧ r.depth ≤ 6 ∧ Same H1 H')) ?_ ?_
  ·walk_at "rd"
   refine ite2 (fun z=>?_) (fun z=>?_)
   ·have z' : far = 7:=by have:=of_decide_eq_true z; injection this
    walk_at "rd"
    intro c2
    walk_at "rd"
    intro r p H2 g d s2 h2
    walk_at "rd"
    exact Here.mk ⟨p,r,rfl,h2,by rw [z']; exact g,by omega,s2⟩
   ·have z' : far = 4:=by
     rcases hfar with y | y
     ·exact y
     ·exact absurd (decide_eq_true (by rw [y])) z
    subst z'
    walk_at "rd"
    intro l nl
    rw [J8i]
    have hc4:=J9m ns 2 7 (by decide) (by decide)
    generalize cutN ns (some 2) (some 7) = cs at hc4
    obtain ⟨H2,e2,y2,s2⟩:=newl (xs:=cs.map V.int) nl
    rw [← e2]
    walk_at "rd"
    intro r p H3 g d s3 h3
    walk_at "rd"
    exact Here.mk ⟨p,r,rfl,h3,⟨g.1,g.2⟩,by omega,s2.trans s3⟩
  rintro σ' H2 hv
  obtain ⟨p0,r0,rfl,h0,g0,d0,s2⟩:=hv.out
  clear hv
  have hS2:=s2.seq hS1
  walk_at "rd"
  intro r1 p1 H3 g1 d1 s3 h1
  have hS3:=s3.seq hS2
  have h03:=h0.same s3
  refine tCut.mk (fun σ' H'=>Here (∃ (pa pb : Addr) (a b : R) (v5 v6 : Option V),σ' = [some (.ref sc),some (.int far),some (T ms),some (.ref pa),some (.ref pb),v5,v6,none,none,none,none] ∧ Jk (cs6 J5 J8 J2 J9 J1 Jc) H' a pa ∧ Jk (cs6 J5 J8 J2 J9 J1 Jc) H' b pb ∧ Gn far a ∧ Gn far b ∧ a.depth ≤ 10 ∧ b.depth ≤ 10 ∧ Same H3 H')) ?_ ?_
  ·walk_at "rd"
   refine ite2 (fun z=>?_) (fun z=>?_)
   ·have z' : far = 4:=by have:=of_decide_eq_true z; injection this
    subst z'
    have m2 : 2 ≤ ms.length:=m4 (by decide)
    walk_at "rd"
    intro c2
    walk_at "rd"
    refine ite2 (fun _=>?_) (fun _=>?_)
    ·walk_at "rd"
     intro z2
     obtain ⟨x1,hx1⟩:=Jb2 ms (by omega)
     obtain ⟨x2,hx22,_⟩:=JM ms (z2 / 4 / 30 % (ms.length : Int)) (Int.emod_nonneg _ (by omega)) (Int.emod_lt_of_pos _ (by omega))
     walk_at "rd"
     refine tCut.mk (fun σ' H'=>Here (∃ wd : List Nat,σ' = [some (.ref sc),some (.int 4),some (T ms),some (.ref p0),some (.ref p1),some (.int (z2 / 4)),some (T wd),none,none,none,none] ∧ 1 ≤ wd.length ∧ wd.length ≤ 4 ∧ H' = H3)) ?_ ?_
     ·walk_at "rd"
      refine ite2 (fun _=>?_) (fun _=>?_)
      ·walk_at "rd"
       exact Here.mk ⟨[x1],rfl,by simp,by simp,rfl⟩
      ·walk_at "rd"
       exact Here.mk ⟨_,rfl,by simp,by simp,rfl⟩
     rintro σ' H' hv
     obtain ⟨wd,rfl,w1,w4,eH⟩:=hv.out
     rw [eH]
     clear hv eH
     walk_at "rd"
     intro r p H4 g d s4 h4
     walk_at "rd"
     intro p5 H5 s5 h5
     have h45:=h4.same s5
     walk_at "rd"
     intro p6 d6 H6 s6 h6 _
     walk_at "rd"
     exact Here.mk ⟨p,p6,r,_,_,_,rfl,h45.same s6,h6,⟨g.1,g.2⟩,Gn.both (n:=4) ⟨g.1,g.2⟩ (.nev w1 (by omega) (by omega)),by omega,by simp only [R.depth]; omega,(s4.trans s5).trans s6⟩
    ·walk_at "rd"
     exact Here.mk ⟨p0,p1,r0,r1,_,_,rfl,h03,h1,g0,g1,by omega,by omega,Same.refl _⟩
   ·walk_at "rd"
    exact Here.mk ⟨p0,p1,r0,r1,_,_,rfl,h03,h1,g0,g1,by omega,by omega,Same.refl _⟩
  rintro σ' H4 hv
  obtain ⟨pa,pb,a,b,v5,v6,rfl,ha,hb,ga,gb,da,db,s4⟩:=hv.out
  clear hv h0 h03 h1 g0 g1 d0 d1
  have hS4:=s4.seq hS3
  have fa:=ga.1
  have fb:=gb.1
  have da20 : a.depth ≤ 20:=by omega
  have db20 : b.depth ≤ 20:=by omega
  have hF:=ga.fit gb hfar m3 m7
  have hF2:=gb.fit ga hfar m3 m7
  walk_at "rd"
  refine ⟨fun t l c H5 nt s5 ht hl hC hc hd hP=>?_,fun t l H5 ss ts nt nl htl s5 ht hl hp hs h127 hE np=>?_⟩
  ·have ha5:=ha.same s5
   have hb5:=hb.same s5
   walk_at "rd"
   refine ⟨fun t2 l2 c2 H6 nt2 s6 ht2 hl2 hC2 hc2 hd2 hP2=>?_,fun t2 l2 H6 ss ts nt2 nl2 ne2 s6 ht2 hl2 hp hs h127 hE np=>?_⟩
   ·have ht6:=s6 _ _ ht
    have hq : SqL K H6 t [T paT,T (l ++ [c])] ∨ SqT K H6 t [T paT,T (l ++ [c])]:=.inr (SqT.of ht6)
    have x0 : atI [T paT,T (l ++ [c])] 0 = some (T paT):=at20 _ _
    have x1 : atI [T paT,T (l ++ [c])] 1 = some (T (l ++ [c])):=at21 _ _
    have y0 : atI [T paT,T (l2 ++ [c2])] 0 = some (T paT):=at20 _ _
    have y1 : atI [T paT,T (l2 ++ [c2])] 1 = some (T (l2 ++ [c2])):=at21 _ _
    have ha6:=ha5.same s6
    have hb6:=hb5.same s6
    walk_at "rd"
    intro H7 s7
    have ht27:=s7 _ _ ht2
    have ha7:=ha6.same s7
    have hb7:=hb6.same s7
    walk_at "rd"
    intro H8 s8
    exact q H8
   ·obtain ⟨n,hn⟩:=hP
    exact absurd hn.flip (np n)
  ·have ha5:=ha.same s5
   have hb5:=hb.same s5
   walk_at "rd"
   refine ⟨fun t2 l2 c2 H6 nt2 s6 ht2 hl2 hC2 hc2 hd2 hP2=>?_,fun t2 l2 H6 ss2 ts2 nt2 nl2 ne2 s6 ht2 hl2 hp2 hs2 h1272 hE2 np2=>?_⟩
   ·obtain ⟨n,hn⟩:=hP2
    exact absurd hn.flip (np n)
   ·have ht6:=s6 _ _ ht
    have hl6:=s6 _ _ hl
    obtain ⟨cols,ec,ecl,epw,eE⟩:=J4g hp hs hE
    obtain ⟨cols2,ec2,ecl2,epw2,eE2⟩:=J4g hp2 hs2 hE2
    have e12 : cols2 = cols:=J8l epw2 epw eE2 (by rw [J8H b a]; exact eE.flip)
    rw [ec] at hl6
    rw [ec2,e12] at hl2
    have hq : SqL K H6 t [T alT,V.ref l] ∨ SqT K H6 t [T alT,V.ref l]:=.inr (SqT.of ht6)
    have x0 : atI [T alT,V.ref l] 0 = some (T alT):=at20 _ _
    have x1 : atI [T alT,V.ref l] 1 = some (.ref l):=at21 _ _
    have y0 : atI [T alT,V.ref l2] 0 = some (T alT):=at20 _ _
    have y1 : atI [T alT,V.ref l2] 1 = some (.ref l2):=at21 _ _
    have hfv : (cols.map T).all J1h = true:=by rw [List.all_eq_true]; intro x hx; obtain ⟨y,_,rfl⟩:=List.mem_map.mp hx; rfl
    walk_at "rd"
    refine ite2 (fun y=>?_) (fun _=>?_)
    ·have e0 : eqVs (cols.map T) (cols.map T) = true:=J1R hfv
     rw [e0] at y
     cases y
    have hS6:=s6.seq (s5.seq hS4)
    have ha6:=ha5.same s6
    have hb6:=hb5.same s6
    have nl2l : l ≠ l2:=Jp hl nl2
    walk_at "rd"
    intro sl nsl
    rw [J8i]
    have hc12:=J9m ns 11 23 (by decide) (by decide)
    generalize cutN ns (some 11) (some 23) = cs at hc12
    obtain ⟨H7,e7,y7,s7⟩:=newl (xs:=cs.map V.int) nsl
    rw [← e7]
    refine ⟨sl,rfl,⟨_,SqL.of y7⟩,?_⟩
    refine J46 cs (fun _=>true) (fun _ y _=>∃ x,y = T [x] ∧ x ∈ ms) (fun σ=>∃ v,σ = [v,some (T ms)]) (J7H (SqL.of y7)) (by rw [List.length_map]) (by omega) ⟨_,rfl⟩ (fun _ _ _ _ _ z=>z) (fun i x v σ H' hx hv hσ s' Rf Rt _ hR=>?_) (fun D H8 ys nD s8 hys hD=>?_)
    ·obtain ⟨w1,rfl⟩:=hσ
     rw [List.getElem?_map,hx] at hv
     cases hv
     have l0 : (0 : Int) < (ms.length : Int):=by omega
     obtain ⟨o,ho,ho2⟩:=JM ms (x % (ms.length : Int)) (Int.emod_nonneg _ (by omega)) (Int.emod_lt_of_pos _ l0)
     walk_at "rd"
     exact hR _ _ _ rfl ⟨_,rfl⟩ (Same.refl _) ⟨o,rfl,List.mem_of_getElem? ho2⟩
    rw [List.filter_eq_self.mpr fun _ _=>rfl] at hys
    have hyl:=hys.len
    obtain ⟨row,rfl,hrl⟩:=J9j (ys:=ys) fun y hy=>by
     obtain ⟨j,hj⟩:=List.getElem?_of_mem hy
     obtain ⟨_,_,x,e,_⟩:=hys.back hj
     exact ⟨x,e⟩
    have hov : ∀ x ∈ row,x ∈ ms:=fun x hx=>by
     obtain ⟨j,hj⟩:=List.getElem?_of_mem hx
     obtain ⟨_,_,x',e,h⟩:=hys.back (i:=j) (y:=T [x]) (by rw [List.getElem?_map,List.getElem?_map,hj]; rfl)
     have : x = x':=by simpa using JaJ e
     rw [this]
     exact h
    have hrow : row.length ≤ 12:=by omega
    have hD3 : SqL K H8 D ((row.map fun c=>[c]).map T):=SqL.of hD
    have hjl : (((row.map fun c=>[c]).map List.length).sum + (row.map fun c=>[c]).length * ([] : List Nat).length ≤ 16777216):=by
     rw [J77,List.length_map,List.length_nil,Nat.mul_zero]
     omega
    have S8:=s7.trans s8
    have ha8:=ha6.same S8
    have da23 : a.depth ≤ 23:=by omega
    have db23 : b.depth ≤ 23:=by omega
    have hnil : ([] : List Nat).length ≤ 300:=Nat.zero_le _
    have hr300 : row.length ≤ 300:=by omega
    walk_at "rd"
    rw [J4U,J4R]
    walk_at "rd"
    intro D9 H9 s9 nD9 hD9
    walk_at "rd"
    intro l10 nl10
    obtain ⟨H10,e10,y10,s10⟩:=newl (xs:=[]) nl10
    rw [← e10]
    have hD910:=s10 _ _ hD9
    have S10:=(S8.trans s9).trans s10
    have hb10:=hb6.same S10
    walk_at "rd"
    intro D11 H11 s11 nD11 hD11
    walk_at "rd"
    intro l12 nl12
    obtain ⟨H12,e12',y12,s12⟩:=newl (xs:=[]) nl12
    rw [← e12']
    have hD1112:=s12 _ _ hD11
    have S12:=(S10.trans s11).trans s12
    walk_at "rd"
    have eb : (dL (badL a [] row)).isEmpty = (dL (badL b [] row)).isEmpty:=by
     have h:=JaC np hov
     have e : ∀ ds,(dL ds).isEmpty = decide (ds = []):=fun ds=>by
      cases ds with
      | nil=>rfl
      | cons x r=>simp [dL]
     rw [e,e]
     exact decide_eq_decide.mpr h
    refine ite2 (fun y=>?_) (fun _=>?_)
    ·have y' : (!decide (V.bl (dL (badL a [] row)).isEmpty = V.bl (dL (badL b [] row)).isEmpty)) = true:=y
     rw [eb] at y'
     simp at y'
    have ht12:=S12 _ _ ht6
    have hl12:=S12 _ _ hl6
    have ht212:=S12 _ _ ht2
    have hl212:=S12 _ _ hl2
    have hcl' : (cols.map T).length ≤ 1000:=by rw [List.length_map]; omega
    walk_at "rd"
    intro ka fka
    obtain ⟨H13,e13,y13,s13⟩:=newl (xs:=cols.map T) fka
    rw [← e13]
    have ht13:=s13 _ _ ht12
    have hl13:=s13 _ _ hl12
    have ht213:=s13 _ _ ht212
    have hl213:=s13 _ _ hl212
    have ht214 : upd H13 l (.lst []) t2 = some (.tup [T alT,.ref l2]):=by rw [Jr (J9q ht213 hl13 (fun z=>by cases z))]; exact ht213
    have hl214 : upd H13 l (.lst []) l2 = some (.lst (cols.map T)):=by rw [Jr nl2l.symm]; exact hl213
    walk_at "rd"
    have nl24 : H4 l2 = none:=s5.free nl2
    have S15 : Same H4 (upd (upd H13 l (.lst [])) l2 (.lst (cols.map T ++ [T []]))):=((((s5.trans s6).trans S12).trans s13).upd nl).upd nl24
    have k1 : ka ≠ l:=(Jp hl12 fka).symm
    have k2 : ka ≠ l2:=(Jp hl212 fka).symm
    have hka : upd (upd H13 l (.lst [])) l2 (.lst (cols.map T ++ [T []])) ka = some (.lst (cols.map T)):=by rw [Jr k2,Jr k1]; exact y13
    have ha15:=ha.same S15
    have hb15:=hb.same S15
    generalize upd (upd H13 l (.lst [])) l2 (.lst (cols.map T ++ [T []])) = H15 at S15 hka ha15 hb15
    have c127 : cols.length ≤ 127:=by omega
    have r7a : a.reach ≤ 7:=by have:=ga.2; omega
    have r7b : b.reach ≤ 7:=by have:=gb.2; omega
    walk_at "rd"
    intro H16 s16
    have ha16:=ha15.same s16
    have hb16:=hb15.same s16
    walk_at "rd"
    refine ⟨fun t3 l3 c3 H17 _ _ _ _ _ _ _ hP3=>?_,fun t3 l3 H17 ss3 ts3 nt3 nl3 ne3 s17 ht3 hl3 hp3 hs3 h1273 hE3 np3=>?_⟩
    ·obtain ⟨n,hn⟩:=hP3
     exact absurd hn (np n)
    obtain ⟨cols3,ec3,ecl3,epw3,eE3⟩:=J4g hp3 hs3 hE3
    have e13' : cols3 = cols:=J8l epw3 epw eE3 eE
    rw [ec3,e13'] at hl3
    have hka17:=(s16.trans s17) _ _ hka
    walk_at "rd"
    intro t4 nt4
    obtain ⟨H18,e18,y18,s18⟩:=newt (xs:=[T [97,108,105,107,101],.ref ka]) nt4
    rw [← e18]
    have ht318 : H18 t3 = some (.tup [T [97,108,105,107,101],.ref l3]):=s18 _ _ ht3
    have hl318:=s18 _ _ hl3
    have hka18:=s18 _ _ hka17
    walk_at "rd"
    exact q _
end
open PySem.W in
theorem all_mk {l : OpenLaw} {w : World} {K : Frag} {h : Heap} {mg : Str → Option Value} {fa J5 J8 J2 J9 J1 Jc q1 q2 q3 q4 q5 q6 q7 q8 q9 q10 q11 q12 q13 q14 q15 q16 q17 q18 q19 q20 q21 q22 q23 q24 q25 q26 q27 q28 q29 q30 q31 q32 q33 q34 q35 q36 q37 : Addr} (X : K.In h) (G : h.Ns mainGlobals mg) (hfa : mg "law" = some (.ref fa))
  {od1 an1 od2 an2 od3 an3 od4 an4 od5 an5 od6 an6 od7 an7 od8 an8 od9 an9 od10 an10 od11 an11 od12 an12 od13 an13 od14 an14 od15 an15 od16 an16 od17 an17 od18 an18 od19 an19 od20 an20 od21 an21 od22 an22 od23 an23 od24 an24 od25 an25 od26 an26 od27 an27 od28 an28 od29 an29 od30 an30 od31 an31 od32 an32 od33 an33 od34 an34 od35 an35 od36 an36 od37 an37 : Option Addr} {sl1 sl2 sl3 sl4 sl5 sl6 sl7 sl8 sl9 sl10 sl11 sl12 sl13 sl14 sl15 sl16 sl17 sl18 sl19 sl20 sl21 sl22 sl23 sl24 sl25 sl26 sl27 sl28 sl29 sl30 sl31 sl32 sl33 sl34 sl35 sl36 sl37 : Array (Option Value)} {oc1 kV1 dc1 pm1 cd1 ct1 oc2 kV2 dc2 pm2 cd2 ct2 oc3 kV3 dc3 pm3 cd3 ct3 oc4 kV4 dc4 pm4 cd4 ct4 oc5 kV5 dc5 pm5 cd5 ct5 oc6 kV6 dc6 pm6 cd6 ct6 oc7 kV7 dc7 pm7 cd7 ct7 oc8 kV8 dc8 pm8 cd8 ct8 oc9 kV9 dc9 pm9 cd9 ct9 oc10 kV10 dc10 pm10 cd10 ct10 oc11 kV11 dc11 pm11 cd11 ct11 oc12 kV12 dc12 pm12 cd12 ct12 oc13 kV13 dc13 pm13 cd13 ct13 oc14 kV14 dc14 pm14 cd14 ct14 oc15 kV15 dc15 pm15 cd15 ct15 oc16 kV16 dc16 pm16 cd16 ct16 oc17 kV17 dc17 pm17 cd17 ct17 oc18 kV18 dc18 pm18 cd18 ct18 oc19 kV19 dc19 pm19 cd19 ct19 oc20 kV20 dc20 pm20 cd20 ct20 oc21 kV21 dc21 pm21 cd21 ct21 oc22 kV22 dc22 pm22 cd22 ct22 oc23 kV23 dc23 pm23 cd23 ct23 oc24 kV24 dc24 pm24 cd24 ct24 oc25 kV25 dc25 pm25 cd25 ct25 oc26 kV26 dc26 pm26 cd26 ct26 oc27 kV27 dc27 pm27 cd27 ct27 oc28 kV28 dc28 pm28 cd28 ct28 oc29 kV29 dc29 pm29 cd29 ct29 oc30 kV30 dc30 pm30 cd30 ct30 oc31 kV31 dc31 pm31 cd31 ct31 oc32 kV32 dc32 pm32 cd32 ct32 oc33 kV33 dc33 pm33 cd33 ct33 oc34 kV34 dc34 pm34 cd34 ct34 oc35 kV35 dc35 pm35 cd35 ct35 oc36 kV36 dc36 pm36 cd36 ct36 oc37 kV37 dc37 pm37 cd37 ct37 : Value}
  {tk_MOST_TAILS : Tok}
  (J5H : nsIn K mainGlobals "Never" = some (some (.ref J5)))
  (J7y : nsIn K mainGlobals "Most" = some (some (.ref J8)))
  (J5y : nsIn K mainGlobals "Least" = some (some (.ref J2)))
  (J7o : nsIn K mainGlobals "Both" = some (some (.ref J9)))
  (J3J : nsIn K mainGlobals "Either" = some (some (.ref J1)))
  (J9f : nsIn K mainGlobals "Not" = some (some (.ref Jc)))
  (a1 : nsIn K mainGlobals "fits" = some (some (.ref q1)))
  (l1 : K.lookup q1 = some ⟨oc1,od1,.func (fnOf "fits" "fits" (Ji J35) (Jg J35) (J6 J35) .none kV1 dc1 pm1 an1 cd1 ct1),sl1⟩)
  (c1 : codeIn K cd1 "fits" = true)
  (k1 : keepIn K (.ref q1) = true)
  (a2 : nsIn K mainGlobals "last_marks" = some (some (.ref q2)))
  (l2 : K.lookup q2 = some ⟨oc2,od2,.func (fnOf "last_marks" "last_marks" (Ji J0r) (Jg J0r) (J6 J0r) .none kV2 dc2 pm2 an2 cd2 ct2),sl2⟩)
  (c2 : codeIn K cd2 "last_marks" = true)
  (k2 : keepIn K (.ref q2) = true)
  (a3 : nsIn K mainGlobals "let_by" = some (some (.ref q3)))
  (l3 : K.lookup q3 = some ⟨oc3,od3,.func (fnOf "let_by" "let_by" (Ji J1A) (Jg J1A) (J6 J1A) .none kV3 dc3 pm3 an3 cd3 ct3),sl3⟩)
  (c3 : codeIn K cd3 "let_by" = true)
  (k3 : keepIn K (.ref q3) = true)
  (a4 : nsIn K mainGlobals "count_among" = some (some (.ref q4)))
  (l4 : K.lookup q4 = some ⟨oc4,od4,.func (fnOf "count_among" "count_among" (Ji JW) (Jg JW) (J6 JW) .none kV4 dc4 pm4 an4 cd4 ct4),sl4⟩)
  (c4 : codeIn K cd4 "count_among" = true)
  (k4 : keepIn K (.ref q4) = true)
  (a5 : findIn K (.ref J5) "__init__" = some (some (.ref q5)))
  (i5 : isFn K (.ref q5) = true)
  (l5 : K.lookup q5 = some ⟨oc5,od5,.func (fnOf "__init__" "Never.__init__" (Ji J0x) (Jg J0x) (J6 J0x) .none kV5 dc5 pm5 an5 cd5 ct5),sl5⟩)
  (c5 : codeIn K cd5 "Never.__init__" = true)
  (k5 : keepIn K (.ref q5) = true)
  (a6 : findIn K (.ref J5) "reach" = some (some (.ref q6)))
  (i6 : isFn K (.ref q6) = true)
  (l6 : K.lookup q6 = some ⟨oc6,od6,.func (fnOf "reach" "Never.reach" (Ji J0b) (Jg J0b) (J6 J0b) .none kV6 dc6 pm6 an6 cd6 ct6),sl6⟩)
  (c6 : codeIn K cd6 "Never.reach" = true)
  (k6 : keepIn K (.ref q6) = true)
  (a7 : findIn K (.ref J5) "bad" = some (some (.ref q7)))
  (i7 : isFn K (.ref q7) = true)
  (l7 : K.lookup q7 = some ⟨oc7,od7,.func (fnOf "bad" "Never.bad" (Ji J0l) (Jg J0l) (J6 J0l) .none kV7 dc7 pm7 an7 cd7 ct7),sl7⟩)
  (c7 : codeIn K cd7 "Never.bad" = true)
  (k7 : keepIn K (.ref q7) = true)
  (a8 : findIn K (.ref J8) "__init__" = some (some (.ref q8)))
  (i8 : isFn K (.ref q8) = true)
  (l8 : K.lookup q8 = some ⟨oc8,od8,.func (fnOf "__init__" "Most.__init__" (Ji J0R) (Jg J0R) (J6 J0R) .none kV8 dc8 pm8 an8 cd8 ct8),sl8⟩)
  (c8 : codeIn K cd8 "Most.__init__" = true)
  (k8 : keepIn K (.ref q8) = true)
  (a9 : findIn K (.ref J8) "reach" = some (some (.ref q9)))
  (i9 : isFn K (.ref q9) = true)
  (l9 : K.lookup q9 = some ⟨oc9,od9,.func (fnOf "reach" "Most.reach" (Ji J0B) (Jg J0B) (J6 J0B) .none kV9 dc9 pm9 an9 cd9 ct9),sl9⟩)
  (c9 : codeIn K cd9 "Most.reach" = true)
  (k9 : keepIn K (.ref q9) = true)
  (a10 : findIn K (.ref J8) "bad" = some (some (.ref q10)))
  (i10 : isFn K (.ref q10) = true)
  (l10 : K.lookup q10 = some ⟨oc10,od10,.func (fnOf "bad" "Most.bad" (Ji J13) (Jg J13) (J6 J13) .none kV10 dc10 pm10 an10 cd10 ct10),sl10⟩)
  (c10 : codeIn K cd10 "Most.bad" = true)
  (k10 : keepIn K (.ref q10) = true)
  (a11 : findIn K (.ref J2) "__init__" = some (some (.ref q11)))
  (i11 : isFn K (.ref q11) = true)
  (l11 : K.lookup q11 = some ⟨oc11,od11,.func (fnOf "__init__" "Least.__init__" (Ji J0z) (Jg J0z) (J6 J0z) .none kV11 dc11 pm11 an11 cd11 ct11),sl11⟩)
  (c11 : codeIn K cd11 "Least.__init__" = true)
  (k11 : keepIn K (.ref q11) = true)
  (a12 : findIn K (.ref J2) "reach" = some (some (.ref q12)))
  (i12 : isFn K (.ref q12) = true)
  (l12 : K.lookup q12 = some ⟨oc12,od12,.func (fnOf "reach" "Least.reach" (Ji J08) (Jg J08) (J6 J08) .none kV12 dc12 pm12 an12 cd12 ct12),sl12⟩)
  (c12 : codeIn K cd12 "Least.reach" = true)
  (k12 : keepIn K (.ref q12) = true)
  (a13 : findIn K (.ref J2) "bad" = some (some (.ref q13)))
  (i13 : isFn K (.ref q13) = true)
  (l13 : K.lookup q13 = some ⟨oc13,od13,.func (fnOf "bad" "Least.bad" (Ji J0O) (Jg J0O) (J6 J0O) .none kV13 dc13 pm13 an13 cd13 ct13),sl13⟩)
  (c13 : codeIn K cd13 "Least.bad" = true)
  (k13 : keepIn K (.ref q13) = true)
  (a14 : findIn K (.ref J9) "__init__" = some (some (.ref q14)))
  (i14 : isFn K (.ref q14) = true)
  (l14 : K.lookup q14 = some ⟨oc14,od14,.func (fnOf "__init__" "Both.__init__" (Ji J0U) (Jg J0U) (J6 J0U) .none kV14 dc14 pm14 an14 cd14 ct14),sl14⟩)
  (c14 : codeIn K cd14 "Both.__init__" = true)
  (k14 : keepIn K (.ref q14) = true)
  (a15 : findIn K (.ref J9) "reach" = some (some (.ref q15)))
  (i15 : isFn K (.ref q15) = true)
  (l15 : K.lookup q15 = some ⟨oc15,od15,.func (fnOf "reach" "Both.reach" (Ji J0s) (Jg J0s) (J6 J0s) .none kV15 dc15 pm15 an15 cd15 ct15),sl15⟩)
  (c15 : codeIn K cd15 "Both.reach" = true)
  (k15 : keepIn K (.ref q15) = true)
  (a16 : findIn K (.ref J9) "bad" = some (some (.ref q16)))
  (i16 : isFn K (.ref q16) = true)
  (l16 : K.lookup q16 = some ⟨oc16,od16,.func (fnOf "bad" "Both.bad" (Ji J15) (Jg J15) (J6 J15) .none kV16 dc16 pm16 an16 cd16 ct16),sl16⟩)
  (c16 : codeIn K cd16 "Both.bad" = true)
  (k16 : keepIn K (.ref q16) = true)
  (a17 : findIn K (.ref J1) "__init__" = some (some (.ref q17)))
  (i17 : isFn K (.ref q17) = true)
  (l17 : K.lookup q17 = some ⟨oc17,od17,.func (fnOf "__init__" "Either.__init__" (Ji J07) (Jg J07) (J6 J07) .none kV17 dc17 pm17 an17 cd17 ct17),sl17⟩)
  (c17 : codeIn K cd17 "Either.__init__" = true)
  (k17 : keepIn K (.ref q17) = true)
  (a18 : findIn K (.ref J1) "reach" = some (some (.ref q18)))
  (i18 : isFn K (.ref q18) = true)
  (l18 : K.lookup q18 = some ⟨oc18,od18,.func (fnOf "reach" "Either.reach" (Ji J00) (Jg J00) (J6 J00) .none kV18 dc18 pm18 an18 cd18 ct18),sl18⟩)
  (c18 : codeIn K cd18 "Either.reach" = true)
  (k18 : keepIn K (.ref q18) = true)
  (a19 : findIn K (.ref J1) "bad" = some (some (.ref q19)))
  (i19 : isFn K (.ref q19) = true)
  (l19 : K.lookup q19 = some ⟨oc19,od19,.func (fnOf "bad" "Either.bad" (Ji J0u) (Jg J0u) (J6 J0u) .none kV19 dc19 pm19 an19 cd19 ct19),sl19⟩)
  (c19 : codeIn K cd19 "Either.bad" = true)
  (k19 : keepIn K (.ref q19) = true)
  (a20 : findIn K (.ref Jc) "__init__" = some (some (.ref q20)))
  (i20 : isFn K (.ref q20) = true)
  (l20 : K.lookup q20 = some ⟨oc20,od20,.func (fnOf "__init__" "Not.__init__" (Ji J14) (Jg J14) (J6 J14) .none kV20 dc20 pm20 an20 cd20 ct20),sl20⟩)
  (c20 : codeIn K cd20 "Not.__init__" = true)
  (k20 : keepIn K (.ref q20) = true)
  (a21 : findIn K (.ref Jc) "reach" = some (some (.ref q21)))
  (i21 : isFn K (.ref q21) = true)
  (l21 : K.lookup q21 = some ⟨oc21,od21,.func (fnOf "reach" "Not.reach" (Ji J0T) (Jg J0T) (J6 J0T) .none kV21 dc21 pm21 an21 cd21 ct21),sl21⟩)
  (c21 : codeIn K cd21 "Not.reach" = true)
  (k21 : keepIn K (.ref q21) = true)
  (a22 : findIn K (.ref Jc) "bad" = some (some (.ref q22)))
  (i22 : isFn K (.ref q22) = true)
  (l22 : K.lookup q22 = some ⟨oc22,od22,.func (fnOf "bad" "Not.bad" (Ji J1w) (Jg J1w) (J6 J1w) .none kV22 dc22 pm22 an22 cd22 ct22),sl22⟩)
  (c22 : codeIn K cd22 "Not.bad" = true)
  (k22 : keepIn K (.ref q22) = true)
  (a23 : nsIn K mainGlobals "_law_cell_at" = some (some (.ref q23)))
  (l23 : K.lookup q23 = some ⟨oc23,od23,.func (fnOf "_law_cell_at" "_law_cell_at" (Ji J09) (Jg J09) (J6 J09) .none kV23 dc23 pm23 an23 cd23 ct23),sl23⟩)
  (c23 : codeIn K cd23 "_law_cell_at" = true)
  (k23 : keepIn K (.ref q23) = true)
  (a24 : nsIn K mainGlobals "longer_rows" = some (some (.ref q24)))
  (l24 : K.lookup q24 = some ⟨oc24,od24,.func (fnOf "longer_rows" "longer_rows" (Ji JV) (Jg JV) (J6 JV) .none kV24 dc24 pm24 an24 cd24 ct24),sl24⟩)
  (c24 : codeIn K cd24 "longer_rows" = true)
  (k24 : keepIn K (.ref q24) = true)
  (a25 : nsIn K mainGlobals "rows_of_new_tails" = some (some (.ref q25)))
  (l25 : K.lookup q25 = some ⟨oc25,od25,.func (fnOf "rows_of_new_tails" "rows_of_new_tails" (Ji JD) (Jg JD) (J6 JD) .none kV25 dc25 pm25 an25 cd25 ct25),sl25⟩)
  (c25 : codeIn K cd25 "rows_of_new_tails" = true)
  (k25 : keepIn K (.ref q25) = true)
  (a26 : nsIn K mainGlobals "alike" = some (some (.ref q26)))
  (l26 : K.lookup q26 = some ⟨oc26,od26,.func (fnOf "alike" "alike" (Ji J2a) (Jg J2a) (J6 J2a) .none kV26 dc26 pm26 an26 cd26 ct26),sl26⟩)
  (c26 : codeIn K cd26 "alike" = true)
  (k26 : keepIn K (.ref q26) = true)
  (a27 : nsIn K mainGlobals "bad_days" = some (some (.ref q27)))
  (l27 : K.lookup q27 = some ⟨oc27,od27,.func (fnOf "bad_days" "bad_days" (Ji J0M) (Jg J0M) (J6 J0M) .none kV27 dc27 pm27 an27 cd27 ct27),sl27⟩)
  (c27 : codeIn K cd27 "bad_days" = true)
  (k27 : keepIn K (.ref q27) = true)
  (a28 : nsIn K mainGlobals "_law_marks" = some (some (.ref q28)))
  (l28 : K.lookup q28 = some ⟨oc28,od28,.func (fnOf "_law_marks" "_law_marks" (Ji J0V) (Jg J0V) (J6 J0V) .none kV28 dc28 pm28 an28 cd28 ct28),sl28⟩)
  (c28 : codeIn K cd28 "_law_marks" = true)
  (k28 : keepIn K (.ref q28) = true)
  (a29 : nsIn K mainGlobals "_law_plain" = some (some (.ref q29)))
  (l29 : K.lookup q29 = some ⟨oc29,od29,.func (fnOf "_law_plain" "_law_plain" (Ji J0S) (Jg J0S) (J6 J0S) .none kV29 dc29 pm29 an29 cd29 ct29),sl29⟩)
  (c29 : codeIn K cd29 "_law_plain" = true)
  (k29 : keepIn K (.ref q29) = true)
  (a30 : nsIn K mainGlobals "_law_rule" = some (some (.ref q30)))
  (l30 : K.lookup q30 = some ⟨oc30,od30,.func (fnOf "_law_rule" "_law_rule" (Ji J16) (Jg J16) (J6 J16) .none kV30 dc30 pm30 an30 cd30 ct30),sl30⟩)
  (c30 : codeIn K cd30 "_law_rule" = true)
  (k30 : keepIn K (.ref q30) = true)
  (a31 : nsIn K mainGlobals "_law_after" = some (some (.ref q31)))
  (l31 : K.lookup q31 = some ⟨oc31,od31,.func (fnOf "_law_after" "_law_after" (Ji J0W) (Jg J0W) (J6 J0W) .none kV31 dc31 pm31 an31 cd31 ct31),sl31⟩)
  (c31 : codeIn K cd31 "_law_after" = true)
  (k31 : keepIn K (.ref q31) = true)
  (a32 : nsIn K mainGlobals "_law_chain" = some (some (.ref q32)))
  (l32 : K.lookup q32 = some ⟨oc32,od32,.func (fnOf "_law_chain" "_law_chain" (Ji J0Q) (Jg J0Q) (J6 J0Q) .none kV32 dc32 pm32 an32 cd32 ct32),sl32⟩)
  (c32 : codeIn K cd32 "_law_chain" = true)
  (k32 : keepIn K (.ref q32) = true)
  (a33 : nsIn K mainGlobals "_law_deep" = some (some (.ref q33)))
  (l33 : K.lookup q33 = some ⟨oc33,od33,.func (fnOf "_law_deep" "_law_deep" (Ji J17) (Jg J17) (J6 J17) .none kV33 dc33 pm33 an33 cd33 ct33),sl33⟩)
  (c33 : codeIn K cd33 "_law_deep" = true)
  (k33 : keepIn K (.ref q33) = true)
  (a34 : nsIn K mainGlobals "_law_other" = some (some (.ref q34)))
  (l34 : K.lookup q34 = some ⟨oc34,od34,.func (fnOf "_law_other" "_law_other" (Ji J0X) (Jg J0X) (J6 J0X) .none kV34 dc34 pm34 an34 cd34 ct34),sl34⟩)
  (c34 : codeIn K cd34 "_law_other" = true)
  (k34 : keepIn K (.ref q34) = true)
  (a35 : nsIn K mainGlobals "_law_walked" = some (some (.ref q35)))
  (l35 : K.lookup q35 = some ⟨oc35,od35,.func (fnOf "_law_walked" "_law_walked" (Ji J0w) (Jg J0w) (J6 J0w) .none kV35 dc35 pm35 an35 cd35 ct35),sl35⟩)
  (c35 : codeIn K cd35 "_law_walked" = true)
  (k35 : keepIn K (.ref q35) = true)
  (a36 : nsIn K mainGlobals "_law_parts" = some (some (.ref q36)))
  (l36 : K.lookup q36 = some ⟨oc36,od36,.func (fnOf "_law_parts" "_law_parts" (Ji J0h) (Jg J0h) (J6 J0h) .none kV36 dc36 pm36 an36 cd36 ct36),sl36⟩)
  (c36 : codeIn K cd36 "_law_parts" = true)
  (k36 : keepIn K (.ref q36) = true)
  (a37 : nsIn K mainGlobals "law" = some (some (.ref q37)))
  (l37 : K.lookup q37 = some ⟨oc37,od37,.func (fnOf "law" "law" (Ji J20) (Jg J20) (J6 J20) .none kV37 dc37 pm37 an37 cd37 ct37),sl37⟩)
  (c37 : codeIn K cd37 "law" = true)
  (k37 : keepIn K (.ref q37) = true)
  (J3U : plainGet K J5 Str.empty = true)
  (J3C : hasDictIn K J5 = true)
  (J3S : plainOver K J5 = true)
  (J3T : findIn K (.ref J5) "__setattr__" = some (some (.builtin "object.__setattr__")))
  (J3G : makesIn K J5 = true)
  (J3E : keepIn K (.ref J5) = true)
  (J5q : plainGet K J8 Str.empty = true)
  (J5E : hasDictIn K J8 = true)
  (J5D : plainOver K J8 = true)
  (J5l : findIn K (.ref J8) "__setattr__" = some (some (.builtin "object.__setattr__")))
  (J5m : makesIn K J8 = true)
  (J5k : keepIn K (.ref J8) = true)
  (J3H : plainGet K J2 Str.empty = true)
  (J3V : hasDictIn K J2 = true)
  (J3N : plainOver K J2 = true)
  (J3W : findIn K (.ref J2) "__setattr__" = some (some (.builtin "object.__setattr__")))
  (J3D : makesIn K J2 = true)
  (J3X : keepIn K (.ref J2) = true)
  (J5h : plainGet K J9 Str.empty = true)
  (J5n : hasDictIn K J9 = true)
  (J5p : plainOver K J9 = true)
  (J5i : findIn K (.ref J9) "__setattr__" = some (some (.builtin "object.__setattr__")))
  (J5u : makesIn K J9 = true)
  (J5C : keepIn K (.ref J9) = true)
  (J32 : plainGet K J1 Str.empty = true)
  (J34 : hasDictIn K J1 = true)
  (J33 : plainOver K J1 = true)
  (J2Z : findIn K (.ref J1) "__setattr__" = some (some (.builtin "object.__setattr__")))
  (J30 : makesIn K J1 = true)
  (J2Y : keepIn K (.ref J1) = true)
  (J7r : plainGet K Jc Str.empty = true)
  (J7m : hasDictIn K Jc = true)
  (J7i : plainOver K Jc = true)
  (J7q : findIn K (.ref Jc) "__setattr__" = some (some (.builtin "object.__setattr__")))
  (J7p : makesIn K Jc = true)
  (J7t : keepIn K (.ref Jc) = true)
  (JK : findIn K (.ref J5) "word" = some none)
  (J0P : findIn K (.ref J8) "many" = some none)
  (J0A : findIn K (.ref J8) "marks" = some none)
  (J0i : findIn K (.ref J8) "days" = some none)
  (J0t : findIn K (.ref J2) "many" = some none)
  (J0a : findIn K (.ref J2) "marks" = some none)
  (JS : findIn K (.ref J2) "days" = some none)
  (J0m : findIn K (.ref J9) "left" = some none)
  (J03 : findIn K (.ref J9) "right" = some none)
  (JX : findIn K (.ref J1) "left" = some none)
  (JN : findIn K (.ref J1) "right" = some none)
  (J0j : findIn K (.ref Jc) "inner" = some none)
  (J6l : nsIn K mainGlobals "all" = some none)
  (J6k : nsIn K mainGlobals "any" = some none)
  (JQ : nsIn K mainGlobals "isinstance" = some none)
  (JO : nsIn K mainGlobals "len" = some none)
  (J31 : nsIn K mainGlobals "list" = some none)
  (J2p : nsIn K mainGlobals "max" = some none)
  (J1C : nsIn K mainGlobals "range" = some none)
  (J22 : nsIn K mainGlobals "sorted" = some none)
  (J4L : nsIn K mainGlobals "str" = some none)
  (J2D : nsIn K mainGlobals "tuple" = some none)
  (J6d : nsIn K mainGlobals "zip" = some none)
  (J10 : nsIn K mainGlobals "MOST_TAILS" = some (some (.int 400 tk_MOST_TAILS)))
  : ∃ fd : FuncData,(∀ (s : Shared) (v : Value),BindsTo s fd ⟨[v],[]⟩ [("_law_script",v)]) ∧ ∀ base : Heap,K.In base → base.Ns mainGlobals mg → FnOk l.prog w K mg base CX0 40 fa fd ["_law_script"] (sp_law K):=by
 have e:=hfa.symm.trans (mg_of X G a37)
 cases e
 have T : Tx K mg J5 J8 J2 J9 J1 Jc:=⟨⟨_,_,Jt (st:=J35) l1 c1 k1,mg_of X G a1⟩,
  ⟨_,_,Jt (st:=J0r) l2 c2 k2,mg_of X G a2⟩,
  ⟨_,_,Jt (st:=J1A) l3 c3 k3,mg_of X G a3⟩,
  ⟨_,_,Jt (st:=JW) l4 c4 k4,mg_of X G a4⟩,
  ⟨_,_,Jt (st:=J0x) l5 c5 k5,⟨a5,i5,k5⟩⟩,
  ⟨_,_,Jt (st:=J0b) l6 c6 k6,⟨a6,i6,k6⟩⟩,
  ⟨_,_,Jt (st:=J0l) l7 c7 k7,⟨a7,i7,k7⟩⟩,
  ⟨_,_,Jt (st:=J0R) l8 c8 k8,⟨a8,i8,k8⟩⟩,
  ⟨_,_,Jt (st:=J0B) l9 c9 k9,⟨a9,i9,k9⟩⟩,
  ⟨_,_,Jt (st:=J13) l10 c10 k10,⟨a10,i10,k10⟩⟩,
  ⟨_,_,Jt (st:=J0z) l11 c11 k11,⟨a11,i11,k11⟩⟩,
  ⟨_,_,Jt (st:=J08) l12 c12 k12,⟨a12,i12,k12⟩⟩,
  ⟨_,_,Jt (st:=J0O) l13 c13 k13,⟨a13,i13,k13⟩⟩,
  ⟨_,_,Jt (st:=J0U) l14 c14 k14,⟨a14,i14,k14⟩⟩,
  ⟨_,_,Jt (st:=J0s) l15 c15 k15,⟨a15,i15,k15⟩⟩,
  ⟨_,_,Jt (st:=J15) l16 c16 k16,⟨a16,i16,k16⟩⟩,
  ⟨_,_,Jt (st:=J07) l17 c17 k17,⟨a17,i17,k17⟩⟩,
  ⟨_,_,Jt (st:=J00) l18 c18 k18,⟨a18,i18,k18⟩⟩,
  ⟨_,_,Jt (st:=J0u) l19 c19 k19,⟨a19,i19,k19⟩⟩,
  ⟨_,_,Jt (st:=J14) l20 c20 k20,⟨a20,i20,k20⟩⟩,
  ⟨_,_,Jt (st:=J0T) l21 c21 k21,⟨a21,i21,k21⟩⟩,
  ⟨_,_,Jt (st:=J1w) l22 c22 k22,⟨a22,i22,k22⟩⟩,
  ⟨_,_,Jt (st:=J09) l23 c23 k23,mg_of X G a23⟩,
  ⟨_,_,Jt (st:=JV) l24 c24 k24,mg_of X G a24⟩,
  ⟨_,_,Jt (st:=JD) l25 c25 k25,mg_of X G a25⟩,
  ⟨_,_,Jt (st:=J2a) l26 c26 k26,mg_of X G a26⟩,
  ⟨_,_,Jt (st:=J0M) l27 c27 k27,mg_of X G a27⟩,
  ⟨_,_,Jt (st:=J0V) l28 c28 k28,mg_of X G a28⟩,
  ⟨_,_,Jt (st:=J0S) l29 c29 k29,mg_of X G a29⟩,
  ⟨_,_,Jt (st:=J16) l30 c30 k30,mg_of X G a30⟩,
  ⟨_,_,Jt (st:=J0W) l31 c31 k31,mg_of X G a31⟩,
  ⟨_,_,Jt (st:=J0Q) l32 c32 k32,mg_of X G a32⟩,
  ⟨_,_,Jt (st:=J17) l33 c33 k33,mg_of X G a33⟩,
  ⟨_,_,Jt (st:=J0X) l34 c34 k34,mg_of X G a34⟩,
  ⟨_,_,Jt (st:=J0w) l35 c35 k35,mg_of X G a35⟩,
  ⟨_,_,Jt (st:=J0h) l36 c36 k36,mg_of X G a36⟩,
  ⟨_,_,Jt (st:=J20) l37 c37 k37,mg_of X G a37⟩,
  ⟨⟨J3U,J3C,J3S,J3T⟩,mg_of X G J5H,J3G,J3E⟩,
  ⟨⟨J5q,J5E,J5D,J5l⟩,mg_of X G J7y,J5m,J5k⟩,
  ⟨⟨J3H,J3V,J3N,J3W⟩,mg_of X G J5y,J3D,J3X⟩,
  ⟨⟨J5h,J5n,J5p,J5i⟩,mg_of X G J7o,J5u,J5C⟩,
  ⟨⟨J32,J34,J33,J2Z⟩,mg_of X G J3J,J30,J2Y⟩,
  ⟨⟨J7r,J7m,J7i,J7q⟩,mg_of X G J9f,J7p,J7t⟩,
  JK,
  J0P,
  J0A,
  J0i,
  J0t,
  J0a,
  JS,
  J0m,
  J03,
  JX,
  JN,
  J0j,
  mg_none_of X G J6l,
  mg_none_of X G J6k,
  mg_none_of X G JQ,
  mg_none_of X G JO,
  mg_none_of X G J31,
  mg_none_of X G J2p,
  mg_none_of X G J1C,
  mg_none_of X G J22,
  mg_none_of X G J4L,
  mg_none_of X G J2D,
  mg_none_of X G J6d,
  ⟨_,mg_of X G J10⟩⟩
 refine ⟨fnOf "law" "law" (Ji J20) (Jg J20) (J6 J20) .none kV37 dc37 pm37 an37 cd37 ct37,fun s v=>.of_eq rfl,fun base _ _=>?_⟩
 exact Jb3 T (Jt (st:=J20) l37 c37 k37)
theorem walk {l : PySem.W.OpenLaw} {q : Program} {loose : List Str} {XP : (Str → Option Value) → Heap → Prop} {YP : World → Heap → Prop} {d : DefRec} {K : Params → PySem.W.Frag} (hn : l.most = some 63) (hdf : d.params.defaults = [])
  (hY : ∀ (w : World) (h : Heap),YP w h → (K w.params).In h)
  (F : ∀ (w : World) (mg : Str → Option Value) (fa : Addr) (h : Heap),(K w.params).In h → h.Ns mainGlobals mg → mg d.name = some (.ref fa) →
   ∃ fd : FuncData,(∀ (s : Shared) (u : Value),BindsTo s fd ⟨[u],[]⟩ [("_law_script",u)]) ∧ ∀ base : Heap,(K w.params).In base → base.Ns mainGlobals mg → FnOk l.prog w (K w.params) mg base CX0 40 fa fd ["_law_script"] (sp_law (K w.params))) :
  PySem.W.WalkO q loose XP YP l.row.toRowW d [] (fun f vs=>PySem.call f vs) :=
 L2.walk_of (n:=63) (k:=40) (x:="_law_script") (CX:=fun _=>CX0) (sp:=fun w=>sp_law (K w.params)) hn (by decide) hdf ⟨rfl,by decide,by decide⟩ hY F (fun _ _ a ns hl _ hS=>⟨a,ns,rfl,hS,hl,fun _=>rfl⟩) fun _ _ _ _ _ z=>z
theorem walkX {q : Program} {loose : List Str} {XP : (Str → Option Value) → Heap → Prop} {K : Params → PySem.W.Frag} {as : List Addr} {n t : Nat} {r : PySem.W.RowW} {d : DefRec} {kwd : List (Str × Expr)} {run : Value → List Value → Sem Value} (e : ∀ P,as = (K P).map (·.1))
  (h : PySem.W.WalkO q loose XP (fun w hp=>(K w.params).In hp) r d kwd run) : PySem.W.WalkX q loose XP (PySem.W.X.obsZ as) (PySem.W.X.valZ K n t) r d kwd run:=by
 intro w s₀ s₁ mg mb G Y a o pm cd doc dV kV h1 h2 h3 h4 h5 h6 args vals as' L p1 p2 p3 p4 p5
 exact h w s₀ s₁ mg mb G (PySem.W.InK.keeps w _ _ (PySem.W.X.z_facts e Y).2.1 L.keeps) a o pm cd doc dV kV h1 h2 h3 h4 h5 h6 args vals as' p1 p2 p3 p4 p5
end K11
namespace PySem.W.Fast
def tw17600573325468059707:=()
def tw2710749144854495850:=()
def tw8881956472638963280:=()
def tw5894676343958827883:=()
def tw4007783955160881301:=()
def tw16405383439521501879:=()
def tw15665386798608676288:=()
def tw9233401600424823128:=()
def tw8834086867256559387:=()
def tw6945602103989391027:=()
def tw5107415748882579911:=()
def tw10397715567275615369:=()
def tw16836453548962952121:=()
def tw17309522936597843771:=()
def tw7638742267778679657:=()
def tw11735032425669633500:=()
def tw12949583262621271663:=()
def tw16737973605311132526:=()
def tw4136295953361810638:=()
def tw17081542627915090490:=()
def tw8601928430008800705:=()
def tw9497606635622861167:=()
def tw1998223828130862005:=()
def tw6361166305682315909:=()
def tw14480128336776418093:=()
def tw2328682227794681797:=()
def tw11772814123014700938:=()
def tw14170379642531109701:=()
def tw8948033167174189629:=()
def tw4065966191377730252:=()
def tw7409426091078530567:=()
def tw1864139805332024311:=()
def tw3072395823091491151:=()
def tw506154323087438846:=()
def tw3667181229131436197:=()
def tw9175236102649763447:=()
def tw13599177768668530166:=()
def tw7695243748880037848:=()
def tw5187899811719211907:=()
def tw15460702819411962651:=()
def tw10401760183290549948:=()
def tw16238230862346146609:=()
def tw9568598236662122978:=()
def tw15989536849526933870:=()
def tw5631197133354908074:=()
def tw14525206312556053135:=()
def tw18354446408719431550:=()
def tw1893456126811763301:=()
def tw2631389828905624738:=()
def tw9414230603012038368:=()
def tw6364496255263853264:=()
def tw1437119882228701097:=()
def tw10471419955365319853:=()
def tw10413161039211176092:=()
def tw4382759670008674538:=()
def tw13931317193357380379:=()
def tw8869582242072132128:=()
def tw16638024784887910787:=()
def tw16488540940299042625:=()
def tw9794134857242716977:=()
def tw7560889182562283837:=()
def tw9143396001407054980:=()
def tw5822232486017829881:=()
def tw17742134512402688685:=()
def tw11556681356161551253:=()
def tw2791113400505646729:=()
def tw4272897783692938043:=()
def tw9368197312698166855:=()
def tw13622613004899562892:=()
def tw6187789437888662586:=()
def tw10827185317968920839:=()
def tw17867490730009427041:=()
def tw4858314687374580270:=()
def tw14911263176097514037:=()
def tw1613202386326359703:=()
def tw4170708884251938900:=()
def tw15631780579659766251:=()
def tw13411372439685138387:=()
def tw2876978563164422774:=()
def tw7237293941021388475:=()
def tw13791257579436982822:=()
def tw3225988737350109003:=()
def tw133555788079634655:=()
def tw9171922567522214850:=()
def tw1504591390046080933:=()
def tw10113817419583662477:=()
def tw6566641884968764227:=()
def tw15049042940290450640:=()
def tw17736935983976002927:=()
def tw13025450265243398988:=()
def tw485685082866340386:=()
def tw14109022233033431926:=()
def tw12330027014729368268:=()
def tw176971194483389131:=()
def tw16969940173209508604:=()
def tw2025568392777990194:=()
def tw805460135968835809:=()
def tw16902171844241017931:=()
def tw12886109869000205074:=()
def tw16711409265090280868:=()
def tw5085589726904368939:=()
def tw6444043712783407972:=()
def tw13263237494494636826:=()
def tw9687445931618700573:=()
def tw13357768928018953451:=()
def tw2358314344912154623:=()
def tw17346000055027109041:=()
def tw7664624944448310595:=()
def tw4783984347043348192:=()
def tw3865057117919250885:=()
def tw11111912292091502070:=()
def tw5499245294897375424:=()
def tw2779764441603960236:=()
def tw16464363727030917342:=()
def tw14445058653967664029:=()
def tw12909324587255406606:=()
def tw18005156727005724147:=()
def tw5866695515856636745:=()
def tw4535806405472685042:=()
def tw7806677402309967973:=()
def tw9065011395286791899:=()
def tw4250271875723654278:=()
def tw13857897295841718140:=()
def tw16213765488628515393:=()
def tw10540179751479514816:=()
def tw3074734358954286111:=()
def tw7444275996147900405:=()
def tw13233143875063687502:=()
def tw11946743906123141906:=()
def tw16910961293233490970:=()
def tw5882297367781129474:=()
def tw10950849533094295836:=()
def tw13129849167518752147:=()
def tw13235644003165833562:=()
def tw15562902462555694700:=()
def tw3291473652303218962:=()
def tw14213615405305495367:=()
def tw16135192195760771796:=()
def tw17880954499263980055:=()
def tw320525824849694267:=()
def tw1217017495192193554:=()
def tw5044878523706708861:=()
def tw2270068960855558900:=()
def tw13625431546547882745:=()
def tw7446737796120850503:=()
def tw10273549420224338020:=()
def tw11799118767421452644:=()
def tw3591676575446849626:=()
def tw11950014970467792848:=()
def tw6273082765193398047:=()
def tw13669209572296932309:=()
def tw1573546682642151956:=()
def tw16435595182735318133:=()
def tw17368195250271590498:=()
def tw6154714473780776993:=()
def tw5664863914479171389:=()
def tw4458415785962715408:=()
def tw6293445978993248190:=()
def tw17295080636245239281:=()
def tw1879875472485636971:=()
def tw1238103010145259619:=()
def tw11666249614335327790:=()
def tw17762319023093636237:=()
def tw13892164556192423786:=()
def tw6474091458464544457:=()
def tw489133521760557371:=()
def tw6163367635698687362:=()
def tw1780695324148560511:=()
def tw16633458209356641082:=()
def tw5371049370203893309:=()
def tw1546304692425750144:=()
def tw13543757362145154543:=()
def tw9771009703669418229:=()
def tw17932952991410658398:=()
def tw9709779507622185257:=()
def tw16619127636683916188:=()
def tw17196529776230174033:=()
def tw11370752349916488756:=()
def tw14400998636102851218:=()
def tw13940851745963101663:=()
def tw7481105907781306264:=()
def tw17084542083075654372:=()
def tw1779130163595980194:=()
def tw5483881556538246785:=()
def tw10114973364571193578:=()
def tw2033917424572963804:=()
def tw14169424904400824530:=()
def tw3212788643746310304:=()
def tw1315042046448146402:=()
def tw18060895278928163087:=()
def tw10950895704689371686:=()
def tw13172614327591200917:=()
def tw3670108457876323485:=()
def tw16727319207061112499:=()
def tw12992945128553956514:=()
def tw759498761429067149:=()
def tw7093001551947850660:=()
def tw7198830291913557705:=()
def tw14607692123905591187:=()
def tw9519327744700947573:=()
def tw1468995689288877919:=()
def tw5658391436895567905:=()
def tw912993022100325110:=()
def tw5947528941197116861:=()
def tw14731008821571200866:=()
def tw10573627020236550102:=()
def tw9879173310562465267:=()
def tw12364352849496915530:=()
def tw17554859859672622440:=()
def tw627564884302378315:=()
def tw655553572732434054:=()
def tw150567903273150720:=()
def tw10012555154929192627:=()
def tw17761502799121378088:=()
def tw9298029475227716451:=()
def tw7280859368842427570:=()
def tw6162865215162906421:=()
def tw5290156281612710567:=()
def tw9850837625407400449:=()
def tw8585788328568602464:=()
def tw9100360016731105220:=()
def tw4028181872835045934:=()
def tw6793423591682085139:=()
def tw4353679463746923440:=()
def tw18064472674871149299:=()
def tw4699349688159474020:=()
def tw14909935116555574134:=()
def tw10316519626164483958:=()
def tw12813788334446999936:=()
def tw12740927640170902801:=()
def tw13710393576928199765:=()
def tw15948957734700447940:=()
def tw13815092088023683943:=()
def tw16858127167796467320:=()
def tw16472977441607918959:=()
def tw5630986299546060904:=()
def tw7463139091772710325:=()
def tw2243899826271088017:=()
def tw8543738274090657912:=()
def tw8372496044840438190:=()
def tw15733122378410546578:=()
def tw4722505369994215301:=()
def tw13750958313157839292:=()
def tw8750114841972552637:=()
def tw2711171138329842608:=()
def tw5836344815328275402:=()
def tw13951308353888722719:=()
def tw7090994935359732660:=()
def tw5005756695330177967:=()
def tw13639582620183665035:=()
def tw9918834071256672203:=()
def tw15761808298509903796:=()
def tw18067774701157483963:=()
def tw9354237933085217754:=()
def tw8191527583485969461:=()
def tw10739095519861300246:=()
def tw13493253195871382592:=()
def tw270708283966722178:=()
def tw13543561037329133303:=()
def tw15459372850199580236:=()
def tw16628395444756840668:=()
def tw12829591556496194604:=()
def tw14081669774667372060:=()
def tw12853043974477967356:=()
def tw8409297388291029180:=()
def tw8768626357913002025:=()
def tw18421037904747795163:=()
def tw4344967895349036192:=()
def tw10894250753741761819:=()
def tw11704027906671872502:=()
def tw15945431219839276362:=()
def tw5997630749375631607:=()
def tw9530367692997823636:=()
def tw15802287663950112212:=()
def tw12171523287608153277:=()
def tw1328365858162527875:=()
def tw6615177421693769015:=()
def tw17508356103827266082:=()
def tw10919250928193193694:=()
def tw6414570225586595271:=()
def tw16872536350349342899:=()
def tw17941688424289502954:=()
def tw9103994557739402048:=()
def tw18379718496818809112:=()
def tw9018409753691045571:=()
def tw10599836630781336389:=()
def tw18072574617746427390:=()
def tw8879482149385430054:=()
def tw3580141997015018547:=()
def tw15692635314633717532:=()
def tw13084367689835951655:=()
def tw16464116679212285092:=()
def tw9047735733088244774:=()
def tw5196196838326485542:=()
def tw11769917603714266784:=()
def tw6347883935866016405:=()
def tw7802850515046038998:=()
def tw2867683449961168655:=()
def tw16186336303225007966:=()
def tw7810963722030245038:=()
def tw17834940100491429027:=()
def tw4818598422160551081:=()
def tw8258487264864987071:=()
def tw2383399582667625949:=()
def tw4589208460562923496:=()
def tw8942666144761625923:=()
def tw13850739054754726321:=()
def tw9613913620279556143:=()
def tw6866125615710732260:=()
def tw9697965496555229604:=()
def tw1050785715974205821:=()
def tw5235557458905068968:=()
def tw1411094326794010045:=()
def tw7265462365781089262:=()
def tw7976883802775949614:=()
def tw9703462876352704424:=()
def tw835183330439249594:=()
def tw6481433715053675167:=()
def tw6466938251167339737:=()
def tw7643010358946995362:=()
def tw5949250086744464425:=()
def tw5875162746327813393:=()
def tw17996447882972014072:=()
def tw12269280584972465034:=()
def tw3422412444247913769:=()
def tw8415802284332518693:=()
def tw2762956910567140571:=()
def tw13179690079264008172:=()
def tw9129288577033518667:=()
def tw4881999254815865188:=()
def tw14174804913760062519:=()
def tw5762839855830046155:=()
def tw6217956399759382100:=()
def tw8889607286776878548:=()
def tw502399140386386459:=()
def tw18178230663355933787:=()
def tw18050716002102638764:=()
def tw16690570074636473955:=()
def tw1261140038651666207:=()
def tw16058025858991067974:=()
def tw15500203827286380168:=()
def tw16034495011395032536:=()
def tw9999033689255515540:=()
def tw570871564116614776:=()
def tw14722473668343532442:=()
def tw1468157527766177018:=()
def tw220744088928169475:=()
def tw8771877831435164585:=()
def tw2057603394103683370:=()
def tw8287096320032798652:=()
def tw11111795805607888325:=()
def tw11234432498154916087:=()
def tw16376962071125354791:=()
def tw12515384670245158803:=()
def tw2314516879621934546:=()
def tw9992025395221137940:=()
def tw16010887053420061867:=()
def tw16933292354833501554:=()
def tw14683588694074396801:=()
def tw779041733588653257:=()
def tw6226912893199563424:=()
def tw10223089705643154686:=()
def tw12261233951147160714:=()
def tw7275428941932703420:=()
def tw11673688729822032409:=()
def tw7863864574889142896:=()
def tw10026137694876855308:=()
def tw16589996871951067905:=()
def tw17819696556796903475:=()
def tw6323159768621151755:=()
def tw4767088942424622454:=()
def tw4088215209006986245:=()
def tw3413618243856531274:=()
def tw17121603451103749400:=()
def tw9087338452631611145:=()
def tw8311054278230695187:=()
def tw7135832831322964190:=()
def tw16830076301694889966:=()
def tw16898459859500491268:=()
def tw3386158054105529573:=()
def tw4571487069617730659:=()
def tw18263246169354208035:=()
def tw14080047545702697528:=()
def tw12591087851713301213:=()
def tw1641689574503597509:=()
def tw13959652450382472538:=()
def tw903471387934458168:=()
def tw10494431436976482031:=()
def tw14626558665254716383:=()
def tw2328627210197087044:=()
def tw10950458249817935785:=()
def tw3656040831523932954:=()
def tw4910783284666441847:=()
def tw16152493156018877401:=()
def tw7444804992737361947:=()
def tw15643015098304001947:=()
def tw16460442468670821218:=()
def tw16399294294053182734:=()
def tw10234160347157874892:=()
def tw14789133955518580711:=()
def tw16532472691314824403:=()
def tw17505460224212290984:=()
def tw1189166144523512181:=()
def tw1247749823497335767:=()
def tw18324540828450705024:=()
def tw3298363147917570899:=()
def tw10704075457704883642:=()
def tw3923828043395781907:=()
def tw10973556552933909462:=()
def tw5725297277869583433:=()
def tw405213066580901286:=()
def tw1923136661761068401:=()
def tw11168204658108248714:=()
def tw1327873443708879070:=()
def tw4676897130427454845:=()
def tw1211024481813230336:=()
def tw17024720388232755361:=()
def tw12078394082736426113:=()
def tw8525786791363238352:=()
def tw13359912830918985525:=()
end PySem.W.Fast
open PySem PySem.W PyProof.Rows
set_option maxRecDepth 100000 in
set_option maxHeartbeats 0 in
theorem PySem.Challenge.cw_rotafair_k11_tails_or_a_row_holds : PySem.Challenge.rw_rotafair_k11_tails_or_a_row.Holds := by
 w_on; o_law; z_head; (case hw=>w_witness2)
 k_fill
 refine K11.walkX (fun _=>rfl) ?_
 refine K11.walk (l:=PySem.Challenge.rw_rotafair_k11_tails_or_a_row) rfl rfl (fun w h Y=>Y) ?F
 case F =>
  intro w mg fa h KX G hmg
  refine' K11.all_mk KX G hmg ?J5H ?J7y ?J5y ?J7o ?J3J ?J9f ?a1 ?l1 ?c1 ?k1 ?a2 ?l2 ?c2 ?k2 ?a3 ?l3 ?c3 ?k3 ?a4 ?l4 ?c4 ?k4 ?a5 ?i5 ?l5 ?c5 ?k5 ?a6 ?i6 ?l6 ?c6 ?k6 ?a7 ?i7 ?l7 ?c7 ?k7 ?a8 ?i8 ?l8 ?c8 ?k8 ?a9 ?i9 ?l9 ?c9 ?k9 ?a10 ?i10 ?l10 ?c10 ?k10 ?a11 ?i11 ?l11 ?c11 ?k11 ?a12 ?i12 ?l12 ?c12 ?k12 ?a13 ?i13 ?l13 ?c13 ?k13 ?a14 ?i14 ?l14 ?c14 ?k14 ?a15 ?i15 ?l15 ?c15 ?k15 ?a16 ?i16 ?l16 ?c16 ?k16 ?a17 ?i17 ?l17 ?c17 ?k17 ?a18 ?i18 ?l18 ?c18 ?k18 ?a19 ?i19 ?l19 ?c19 ?k19 ?a20 ?i20 ?l20 ?c20 ?k20 ?a21 ?i21 ?l21 ?c21 ?k21 ?a22 ?i22 ?l22 ?c22 ?k22 ?a23 ?l23 ?c23 ?k23 ?a24 ?l24 ?c24 ?k24 ?a25 ?l25 ?c25 ?k25 ?a26 ?l26 ?c26 ?k26 ?a27 ?l27 ?c27 ?k27 ?a28 ?l28 ?c28 ?k28 ?a29 ?l29 ?c29 ?k29 ?a30 ?l30 ?c30 ?k30 ?a31 ?l31 ?c31 ?k31 ?a32 ?l32 ?c32 ?k32 ?a33 ?l33 ?c33 ?k33 ?a34 ?l34 ?c34 ?k34 ?a35 ?l35 ?c35 ?k35 ?a36 ?l36 ?c36 ?k36 ?a37 ?l37 ?c37 ?k37 ?J3U ?J3C ?J3S ?J3T ?J3G ?J3E ?J5q ?J5E ?J5D ?J5l ?J5m ?J5k ?J3H ?J3V ?J3N ?J3W ?J3D ?J3X ?J5h ?J5n ?J5p ?J5i ?J5u ?J5C ?J32 ?J34 ?J33 ?J2Z ?J30 ?J2Y ?J7r ?J7m ?J7i ?J7q ?J7p ?J7t ?JK ?J0P ?J0A ?J0i ?J0t ?J0a ?JS ?J0m ?J03 ?JX ?JN ?J0j ?J6l ?J6k ?JQ ?JO ?J31 ?J2p ?J1C ?J22 ?J4L ?J2D ?J6d ?J10
  (case J5H=>k_is)
  (case J7y=>k_is)
  (case J5y=>k_is)
  (case J7o=>k_is)
  (case J3J=>k_is)
  (case J9f=>k_is)
  (case a1=>k_is)
  (case l1=>k_is)
  (case c1=>k_is)
  (case k1=>k_is)
  (case a2=>k_is)
  (case l2=>k_is)
  (case c2=>k_is)
  (case k2=>k_is)
  (case a3=>k_is)
  (case l3=>k_is)
  (case c3=>k_is)
  (case k3=>k_is)
  (case a4=>k_is)
  (case l4=>k_is)
  (case c4=>k_is)
  (case k4=>k_is)
  (case a5=>k_is)
  (case i5=>k_is)
  (case l5=>k_is)
  (case c5=>k_is)
  (case k5=>k_is)
  (case a6=>k_is)
  (case i6=>k_is)
  (case l6=>k_is)
  (case c6=>k_is)
  (case k6=>k_is)
  (case a7=>k_is)
  (case i7=>k_is)
  (case l7=>k_is)
  (case c7=>k_is)
  (case k7=>k_is)
  (case a8=>k_is)
  (case i8=>k_is)
  (case l8=>k_is)
  (case c8=>k_is)
  (case k8=>k_is)
  (case a9=>k_is)
  (case i9=>k_is)
  (case l9=>k_is)
  (case c9=>k_is)
  (case k9=>k_is)
  (case a10=>k_is)
  (case i10=>k_is)
  (case l10=>k_is)
  (case c10=>k_is)
  (case k10=>k_is)
  (case a11=>k_is)
  (case i11=>k_is)
  (case l11=>k_is)
  (case c11=>k_is)
  (case k11=>k_is)
  (case a12=>k_is)
  (case i12=>k_is)
  (case l12=>k_is)
  (case c12=>k_is)
  (case k12=>k_is)
  (case a13=>k_is)
  (case i13=>k_is)
  (case l13=>k_is)
  (case c13=>k_is)
  (case k13=>k_is)
  (case a14=>k_is)
  (case i14=>k_is)
  (case l14=>k_is)
  (case c14=>k_is)
  (case k14=>k_is)
  (case a15=>k_is)
  (case i15=>k_is)
  (case l15=>k_is)
  (case c15=>k_is)
  (case k15=>k_is)
  (case a16=>k_is)
  (case i16=>k_is)
  (case l16=>k_is)
  (case c16=>k_is)
  (case k16=>k_is)
  (case a17=>k_is)
  (case i17=>k_is)
  (case l17=>k_is)
  (case c17=>k_is)
  (case k17=>k_is)
  (case a18=>k_is)
  (case i18=>k_is)
  (case l18=>k_is)
  (case c18=>k_is)
  (case k18=>k_is)
  (case a19=>k_is)
  (case i19=>k_is)
  (case l19=>k_is)
  (case c19=>k_is)
  (case k19=>k_is)
  (case a20=>k_is)
  (case i20=>k_is)
  (case l20=>k_is)
  (case c20=>k_is)
  (case k20=>k_is)
  (case a21=>k_is)
  (case i21=>k_is)
  (case l21=>k_is)
  (case c21=>k_is)
  (case k21=>k_is)
  (case a22=>k_is)
  (case i22=>k_is)
  (case l22=>k_is)
  (case c22=>k_is)
  (case k22=>k_is)
  (case a23=>k_is)
  (case l23=>k_is)
  (case c23=>k_is)
  (case k23=>k_is)
  (case a24=>k_is)
  (case l24=>k_is)
  (case c24=>k_is)
  (case k24=>k_is)
  (case a25=>k_is)
  (case l25=>k_is)
  (case c25=>k_is)
  (case k25=>k_is)
  (case a26=>k_is)
  (case l26=>k_is)
  (case c26=>k_is)
  (case k26=>k_is)
  (case a27=>k_is)
  (case l27=>k_is)
  (case c27=>k_is)
  (case k27=>k_is)
  (case a28=>k_is)
  (case l28=>k_is)
  (case c28=>k_is)
  (case k28=>k_is)
  (case a29=>k_is)
  (case l29=>k_is)
  (case c29=>k_is)
  (case k29=>k_is)
  (case a30=>k_is)
  (case l30=>k_is)
  (case c30=>k_is)
  (case k30=>k_is)
  (case a31=>k_is)
  (case l31=>k_is)
  (case c31=>k_is)
  (case k31=>k_is)
  (case a32=>k_is)
  (case l32=>k_is)
  (case c32=>k_is)
  (case k32=>k_is)
  (case a33=>k_is)
  (case l33=>k_is)
  (case c33=>k_is)
  (case k33=>k_is)
  (case a34=>k_is)
  (case l34=>k_is)
  (case c34=>k_is)
  (case k34=>k_is)
  (case a35=>k_is)
  (case l35=>k_is)
  (case c35=>k_is)
  (case k35=>k_is)
  (case a36=>k_is)
  (case l36=>k_is)
  (case c36=>k_is)
  (case k36=>k_is)
  (case a37=>k_is)
  (case l37=>k_is)
  (case c37=>k_is)
  (case k37=>k_is)
  (case J3U=>k_is)
  (case J3C=>k_is)
  (case J3S=>k_is)
  (case J3T=>k_is)
  (case J3G=>k_is)
  (case J3E=>k_is)
  (case J5q=>k_is)
  (case J5E=>k_is)
  (case J5D=>k_is)
  (case J5l=>k_is)
  (case J5m=>k_is)
  (case J5k=>k_is)
  (case J3H=>k_is)
  (case J3V=>k_is)
  (case J3N=>k_is)
  (case J3W=>k_is)
  (case J3D=>k_is)
  (case J3X=>k_is)
  (case J5h=>k_is)
  (case J5n=>k_is)
  (case J5p=>k_is)
  (case J5i=>k_is)
  (case J5u=>k_is)
  (case J5C=>k_is)
  (case J32=>k_is)
  (case J34=>k_is)
  (case J33=>k_is)
  (case J2Z=>k_is)
  (case J30=>k_is)
  (case J2Y=>k_is)
  (case J7r=>k_is)
  (case J7m=>k_is)
  (case J7i=>k_is)
  (case J7q=>k_is)
  (case J7p=>k_is)
  (case J7t=>k_is)
  (case JK=>k_is)
  (case J0P=>k_is)
  (case J0A=>k_is)
  (case J0i=>k_is)
  (case J0t=>k_is)
  (case J0a=>k_is)
  (case JS=>k_is)
  (case J0m=>k_is)
  (case J03=>k_is)
  (case JX=>k_is)
  (case JN=>k_is)
  (case J0j=>k_is)
  (case J6l=>k_is)
  (case J6k=>k_is)
  (case JQ=>k_is)
  (case JO=>k_is)
  (case J31=>k_is)
  (case J2p=>k_is)
  (case J1C=>k_is)
  (case J22=>k_is)
  (case J4L=>k_is)
  (case J2D=>k_is)
  (case J6d=>k_is)
  (case J10=>k_is)
#print axioms PySem.Challenge.cw_rotafair_k11_tails_or_a_row_holds
