import PyProof.Rows.All
import Wide.All
import OpenK.AllK
import Wide.FinOn
import Lean
import PyProof.EqAt
import PyProof.EqKinds
import PyProof.TupleCall
import KE.KIntText
import PyProof.ListRange
import PySem.Challenge.RW_rotafair_k74_swapped
set_option Elab.async false
set_option linter.all false
set_option maxRecDepth 100000
namespace L2
open PySem PySem.Spec PyProof.Rows
noncomputable abbrev Key:=Sum Int Str
noncomputable def Jeo : Key → Value → Bool
 | .inl k,v=>Value.isInt k v
 | .inr x,v=>Value.isStrOf x v
noncomputable def keyH (w : World) : Key → Int
 | .inl k=>hashInt k
 | .inr x=>hashStr w x
theorem J0R : ∀ {k : Key} {v : Value},Jeo k v = true → (∃ i t,k = Sum.inl i ∧ v = Value.int i t) ∨ (∃ x t,k = Sum.inr x ∧ v = Value.str x t)
 | .inl i,v,h=>by
  obtain ⟨t,e⟩:=Value.isInt_shape (k:=i) (v:=v) h
  exact .inl ⟨i,t,rfl,e⟩
 | .inr x,v,h=>by
  obtain ⟨t,e⟩:=Value.isStrOf_shape (x:=x) (v:=v) h
  exact .inr ⟨x,t,rfl,e⟩
theorem Jfd (a b : Int) : decide ((Sum.inl a : Key) = Sum.inl b) = (a == b):=by
 by_cases e : a = b
 ·subst e; simp
 ·have h : ¬ (Sum.inl a : Key) = Sum.inl b:=fun q=>e (Sum.inl.inj q)
  rw [decide_eq_false h]
  exact (beq_eq_false_iff_ne.mpr e).symm
theorem Jf1 (a b : Str) : decide ((Sum.inr a : Key) = Sum.inr b) = decide (a = b):=by
 by_cases e : a = b
 ·subst e; simp
 ·have h : ¬ (Sum.inr a : Key) = Sum.inr b:=fun q=>e (Sum.inr.inj q)
  rw [decide_eq_false h,decide_eq_false e]
theorem JeW (a : Int) (b : Str) : decide ((Sum.inl a : Key) = Sum.inr b) = false:=decide_eq_false (fun q=>nomatch q)
theorem JeQ (a : Str) (b : Int) : decide ((Sum.inr a : Key) = Sum.inl b) = false:=decide_eq_false (fun q=>nomatch q)
noncomputable def J8Q (prog : Program) (w : World) : PySem.KeyKind prog w Key where
 is:=Jeo
 hash:=keyH w
 inj:=fun v a b ha hb=>by
  rcases J0R ha with ⟨i,t,rfl,rfl⟩ | ⟨x,t,rfl,rfl⟩
  ·rcases J0R hb with ⟨j,u,rfl,e⟩ | ⟨y,u,rfl,e⟩
   ·injection e with e1 _; rw [e1]
   ·exact nomatch e
  ·rcases J0R hb with ⟨j,u,rfl,e⟩ | ⟨y,u,rfl,e⟩
   ·exact nomatch e
   ·injection e with e1 _; rw [e1]
 byValue:=fun k v h=>by
  rcases J0R h with ⟨i,t,rfl,rfl⟩ | ⟨x,t,rfl,rfl⟩ <;> rfl
 pyHash:=fun hv h=>by
  rcases J0R hv with ⟨i,t,rfl,rfl⟩ | ⟨x,t,rfl,rfl⟩
  ·exact wpAny_pyHash_int h
  ·exact wpAny_pyHash_str h
 eqBool:=fun hu hv h=>by
  rcases J0R hu with ⟨i,t,rfl,rfl⟩ | ⟨x,t,rfl,rfl⟩
  ·rcases J0R hv with ⟨j,u,rfl,rfl⟩ | ⟨y,u,rfl,rfl⟩
   ·rw [Jfd] at h; exact wpAny_eqBool_int h
   ·rw [JeW] at h; exact SeqAt.EqAt.int_str i t y u _ _ _ _ h
  ·rcases J0R hv with ⟨j,u,rfl,rfl⟩ | ⟨y,u,rfl,rfl⟩
   ·rw [JeQ] at h; exact SeqAt.EqAt.str_int x t j u _ _ _ _ h
   ·rw [Jf1] at h; exact wpAny_eqBool_str h
 «strs»:=fun k x t v h=>by
  rcases J0R h with ⟨i,u,rfl,e⟩ | ⟨y,u,rfl,e⟩
  ·exact nomatch e
  ·injection e with e1 _
   subst e1
   cases v <;> rfl
end L2
namespace L2
open PySem PySem.Spec PyProof.Rows
inductive V where
 | non | bl (b : Bool) | int (i : Int) | str (x : Str) | byt (b : Array UInt8) | flt (b : UInt64) | ref (a : Addr) | ty (n : String)
 deriving DecidableEq
noncomputable def RelV : V → Value → Prop
 | .non,u=>u = Value.none
 | .bl b,u=>u = Value.bool b
 | .int i,u=>∃ t,u = Value.int i t
 | .str x,u=>∃ t,u = Value.str x t
 | .byt b,u=>∃ t,u = Value.bytes b t
 | .flt b,u=>∃ t,u = Value.float b t
 | .ref a,u=>u = Value.ref a
 | .ty n,u=>u = Value.type n
noncomputable abbrev Vals : List V → List Value → Prop:=Paired RelV
theorem Vals.length {xs : List V} {us : List Value} (r : Vals xs us) : xs.length = us.length:=Paired.length r
theorem Vals.get : ∀ {xs : List V} {us : List Value} {i : Nat} {x : V},Vals xs us → xs[i]? = some x → ∃ u,us[i]? = some u ∧ RelV x u
 | _,_,_,_,.nil,e=>by simp at e
 | _,_,0,_,.cons r _,e=>by simp at e; subst e; exact ⟨_,rfl,r⟩
 | _,_,i + 1,x,.cons _ t,e=>by
  obtain ⟨u,h1,h2⟩:=Vals.get (i:=i) (x:=x) t (by simpa using e)
  exact ⟨u,by simpa using h1,h2⟩
theorem Vals.set {x : V} {u : Value} (r : RelV x u) : ∀ {xs : List V} {us : List Value} (i : Nat),Vals xs us → Vals (xs.set i x) (us.set i u)
 | _,_,_,.nil=>.nil
 | _,_,0,.cons _ t=>.cons r t
 | _,_,i + 1,.cons q t=>.cons q (Vals.set r i t)
theorem Vals.append : ∀ {xs ys : List V} {us ws : List Value},Vals xs us → Vals ys ws → Vals (xs ++ ys) (us ++ ws)
 | _,_,_,_,.nil,s=>s
 | _,_,_,_,.cons r t,s=>.cons r (Vals.append t s)
theorem Vals.take : ∀ {xs : List V} {us : List Value} (n : Nat),Vals xs us → Vals (xs.take n) (us.take n)
 | _,_,0,_=>.nil
 | _,_,_ + 1,.nil=>.nil
 | _,_,n + 1,.cons r t=>.cons r (Vals.take n t)
theorem Vals.drop : ∀ {xs : List V} {us : List Value} (n : Nat),Vals xs us → Vals (xs.drop n) (us.drop n)
 | _,_,0,r=>r
 | _,_,_ + 1,.nil=>.nil
 | _,_,n + 1,.cons _ t=>Vals.drop n t
noncomputable def RelO : Option V → Option Value → Prop
 | some v,some u=>RelV v u
 | none,none=>True
 | _,_=>False
noncomputable def KV {κ : Type} : List (κ × V) → List (κ × Value) → Prop:=Paired fun (p : κ × V) (q : κ × Value)=>p.1 = q.1 ∧ RelV p.2 q.2
noncomputable def kV : Key → V
 | .inl i=>.int i
 | .inr x=>.str x
inductive HO where
 | lst (xs : List V)
 | tup (xs : List V)
 | dK (kvs : List (Key × V)) | dT (kvs : List (List Key × V))
 | set (S : Int → Bool) (n : Nat)
 | ins (C dx : Addr) (fs : List (Str × V))
 | own (x : Addr)
 | xd (fs : List (Str × V))
 | met (f x : Addr)
 | rng (lo hi : Int)
 | frz (o : Obj) (u : HO)
 | tbl (ps : Array Value)
 | ext (φ : Heap → Prop)
noncomputable abbrev Hp:=Addr → Option HO
noncomputable def upd (H : Hp) (a : Addr) (o : HO) : Hp:=fun b=>if b = a then some o else H b
theorem Jd {H : Hp} {a : Addr} {o : HO} : upd H a o a = some o:=by unfold upd; rw [if_pos rfl]
theorem Jn {H : Hp} {a b : Addr} {o : HO} (h : b ≠ a) : upd H a o b = H b:=by unfold upd; rw [if_neg h]
theorem JfE {H : Hp} {a b : Addr} {o u : HO} (h : H a = some o) (h' : H b = some u) (d : o ≠ u) : a ≠ b:=by
 intro e; subst e; rw [h] at h'; exact d (Option.some.inj h')
theorem Jj {H : Hp} {a b : Addr} {o : HO} (h : H a = some o) (h' : H b = none) : a ≠ b:=by
 intro e; subst e; rw [h] at h'; cases h'
section
variable (P : Program) (w : World)
noncomputable def J1X (H : Hp) (h : Heap) (a : Addr) : HO → Prop
 | .lst xs=>xs.length ≤ sizeLine ∧ ∃ (its : List Value) (n : Nat),Vals xs its ∧ h.get? a = some { cls:=.type "list",data:=.seq its.toArray n }
 | .tup xs=>xs.length ≤ sizeLine ∧ ∃ its : List Value,Vals xs its ∧ IsTup h a its.toArray
 | .dK kvs=>kvs.length ≤ sizeLine ∧ (a == sysModules) = false ∧ ∃ vs,KV kvs vs ∧ h.DictOf (J8Q P w) a vs
 | .dT kvs=>kvs.length ≤ sizeLine ∧ (a == sysModules) = false ∧ ∃ xs : List (List Key × Addr × Value),
   Paired (fun (p : List Key × V) (q : List Key × Addr × Value)=>p.1 = q.1 ∧ H q.2.1 = some (.tup (p.1.map kV)) ∧ RelV p.2 q.2.2) kvs xs ∧
   ∃ o es ep,h.get? a = some o ∧ o.ExactDict ∧ o.data = .dict es ep ∧ es.toList = xs.map (entryOfKey (tupleKind (J8Q P w))) ∧ (xs.map (·.1)).Nodup
 | .set S n=>h.SetOf (intKind P w) a S n
 | .ins C dx fs=>H dx = some (.own a) ∧ fs.length ≤ 1000 ∧ dx ≠ a ∧ h.get? a = some (PySem.W.instObj C dx) ∧
   ∃ mA,h.Ns1 dx mA ∧ (∀ f,RelO (fs.lookup f) (mA f)) ∧ PySem.Within mA (fs.map (·.1))
 | .own _=>∃ o,h.get? a = some o
 | .xd fs=>∃ mA,h.Ns1 a mA ∧ ∀ f,RelO (fs.lookup f) (mA f)
 | .rng lo hi=>∃ t u v,h.get? a = some { cls:=.type "range",data:=.fields #[.int lo t,.int hi u,.int 1 v] }
 | .frz o u=>h.get? a = some o ∧ J1X H h a u
 | .tbl ps=>h.get? a = some { cls:=.none,data:=.fields ps }
 | .met f x=>h.get? a = some (PySem.W.methodObj (.ref f) (.ref x))
 | .ext φ=>φ h ∧ (∃ o,h.get? a = some o) ∧ ∀ h1 h2 : Heap,φ h1 → (∀ o,h1.get? a = some o → h2.get? a = some o) → φ h2
noncomputable def HOk (H : Hp) (h : Heap) : Prop:=∀ a o,H a = some o → J1X P w H h a o
end
section
variable {P : Program} {w : World} {H H' : Hp} {h h' : Heap} {a : Addr} {o : HO}
theorem J1X.lt (x : J1X P w H h a o) : a < h.objs.size:=by
 cases o with
 | lst xs=>obtain ⟨_,_,_,_,e⟩:=x; exact Heap.lt_size e
 | tup xs=>obtain ⟨_,_,_,p⟩:=x; exact p.lt
 | dK kvs=>obtain ⟨_,_,_,_,o,_,_,e,_⟩:=x; exact Heap.lt_size e
 | dT kvs=>obtain ⟨_,_,_,_,o,_,_,e,_⟩:=x; exact Heap.lt_size e
 | set S n=>obtain ⟨o,_,_,_,e,_⟩:=x; exact Heap.lt_size e
 | ins C dx fs=>obtain ⟨_,_,_,e,_⟩:=x; exact Heap.lt_size e
 | own y=>obtain ⟨_,e⟩:=x; exact Heap.lt_size e
 | xd fs=>obtain ⟨_,⟨_,_,_,e,_⟩,_⟩:=x; exact Heap.lt_size e
 | rng lo hi=>obtain ⟨_,_,_,e⟩:=x; exact Heap.lt_size e
 | frz ob u=>obtain ⟨e,_⟩:=x; exact Heap.lt_size e
 | tbl ps=>exact Heap.lt_size (show h.get? a = some _ from x)
 | met f y=>exact Heap.lt_size (show h.get? a = some _ from x)
 | ext φ=>obtain ⟨_,⟨_,e⟩,_⟩:=x; exact Heap.lt_size e
theorem Paired.mapP {α β : Type} {F G : α → β → Prop} : ∀ {l₁ : List α} {l₂ : List β},Paired F l₁ l₂ → (∀ a b,F a b → G a b) → Paired G l₁ l₂
 | _,_,.nil,_=>.nil
 | _,_,.cons r t,f=>.cons (f _ _ r) (Paired.mapP t f)
theorem J1X.stay (x : J1X P w H h a o) (k : ∀ b u,(b = a ∨ H b = some (.own a)) → h.get? b = some u → h'.get? b = some u)
  (ho : ∀ b,H b = some (.own a) → H' b = some (.own a)) (ht : ∀ b xs,H b = some (.tup xs) → H' b = some (.tup xs)) : J1X P w H' h' a o:=by
 induction o with
 | lst xs=>obtain ⟨z,its,n,r,e⟩:=x; exact ⟨z,its,n,r,k _ _ (.inl rfl) e⟩
 | tup xs=>obtain ⟨z,its,r,ob,e,c⟩:=x; exact ⟨z,its,r,ob,k _ _ (.inl rfl) e,c⟩
 | dK kvs=>obtain ⟨z,y,vs,r,ob,es,ep,e,c⟩:=x; exact ⟨z,y,vs,r,ob,es,ep,k _ _ (.inl rfl) e,c⟩
 | dT kvs =>
  obtain ⟨z,y,xs,r,ob,es,ep,e,c⟩:=x
  exact ⟨z,y,xs,Paired.mapP r fun p q z=>⟨z.1,ht _ _ z.2.1,z.2.2⟩,ob,es,ep,k _ _ (.inl rfl) e,c⟩
 | set S n=>obtain ⟨ob,es,ep,t,e,c⟩:=x; exact ⟨ob,es,ep,t,k _ _ (.inl rfl) e,c⟩
 | ins C dx fs =>
  obtain ⟨d,z,ne,e,mA,⟨od,es,ep,e2,c⟩,r⟩:=x
  exact ⟨ho _ d,z,ne,k _ _ (.inl rfl) e,mA,⟨od,es,ep,k _ _ (.inr d) e2,c⟩,r⟩
 | own y=>obtain ⟨ob,e⟩:=x; exact ⟨ob,k _ _ (.inl rfl) e⟩
 | xd fs=>obtain ⟨mA,⟨od,es,ep,e,c⟩,r⟩:=x; exact ⟨mA,⟨od,es,ep,k _ _ (.inl rfl) e,c⟩,r⟩
 | rng lo hi=>obtain ⟨t,u,v,e⟩:=x; exact ⟨t,u,v,k _ _ (.inl rfl) e⟩
 | frz ob u ih=>obtain ⟨e,q⟩:=x; exact ⟨k _ _ (.inl rfl) e,ih q⟩
 | tbl ps =>
  have e : h.get? a = some { cls:=.none,data:=.fields ps }:=x
  show h'.get? a = some { cls:=.none,data:=.fields ps }
  exact k a _ (.inl rfl) e
 | met f y =>
  have e : h.get? a = some (PySem.W.methodObj (.ref f) (.ref y)):=x
  show h'.get? a = some (PySem.W.methodObj (.ref f) (.ref y))
  exact k a _ (.inl rfl) e
 | ext φ=>obtain ⟨p,⟨o,e⟩,st⟩:=x; exact ⟨st _ _ p fun o q=>k _ _ (.inl rfl) q,⟨o,k _ _ (.inl rfl) e⟩,st⟩
theorem HOk.lt (x : HOk P w H h) (e : H a = some o) : a < h.objs.size:=(x a o e).lt
theorem HOk.fresh (x : HOk P w H h) (e : h.objs.size ≤ a) : H a = none:=by
 cases q : H a with
 | none=>rfl
 | some u=>exact absurd (Nat.lt_of_lt_of_le (x.lt q) e) (Nat.lt_irrefl _)
theorem HOk.kept (x : HOk P w H h) (k : ∀ b u,h.get? b = some u → h'.get? b = some u) : HOk P w H h':=fun a o e =>
 (x a o e).stay (fun b u _ q=>k b u q) (fun _ q=>q) fun _ _ q=>q
theorem HOk.laid (x : HOk P w H h) (k : ∀ b u,h.get? b = some u → h'.get? b = some u) (hp : h.objs.size ≤ a) (new : J1X P w (upd H a o) h' a o) : HOk P w (upd H a o) h':=fun b u e=>by
 have hn:=x.fresh hp
 by_cases hb : b = a
 ·subst hb; rw [Jd] at e; cases e; exact new
 ·rw [Jn hb] at e
  exact (x b u e).stay (fun c v _ q=>k c v q) (fun c q=>by rw [Jn (Jj q hn)]; exact q) fun c xs q=>by rw [Jn (Jj q hn)]; exact q
end
noncomputable def Rd (H : Hp) (a : Addr) (u : HO) : Prop:=H a = some u ∨ ∃ o,H a = some (.frz o u)
theorem Rd.ok {P : Program} {w : World} {H : Hp} {h : Heap} {a : Addr} {u : HO} (r : Rd H a u) (x : HOk P w H h) : J1X P w H h a u:=by
 rcases r with r | ⟨o,r⟩
 ·exact x a u r
 ·obtain ⟨_,q⟩:=x a _ r
  exact q
noncomputable def Mut : Option HO → Prop
 | some (.lst _)=>True
 | some (.dK _)=>True
 | some (.dT _)=>True
 | some (.set _ _)=>True
 | some (.ins _ _ _)=>True
 | some (.ext _)=>True
 | _=>False
section
variable {P : Program} {w : World} {H : Hp} {h h' : Heap} {x e : Addr} {o' : HO}
theorem HOk.write (ok : HOk P w H h) (mu : Mut (H x)) (he : e = x ∨ H e = some (.own x)) (k : ∀ b u,b ≠ e → h.get? b = some u → h'.get? b = some u) (heo : ∃ u,h'.get? e = some u)
  (new : J1X P w (upd H x o') h' x o') : HOk P w (upd H x o') h':=fun b u q=>by
 have nown : ∀ c y,H c = some (.own y) → c ≠ x:=fun c y r z=>by subst z; rw [r] at mu; exact mu
 have ntup : ∀ c xs,H c = some (.tup xs) → c ≠ x:=fun c xs r z=>by subst z; rw [r] at mu; exact mu
 by_cases hb : b = x
 ·subst hb; rw [Jd] at q; cases q; exact new
 ·rw [Jn hb] at q
  by_cases hbe : b = e
  ·have q' : H b = some (.own x):=by
    rcases he with z | z
    ·exact absurd (hbe.trans z) hb
    ·rw [hbe]; exact z
   rw [q] at q'; cases q'
   obtain ⟨v,hv⟩:=heo
   exact ⟨v,by rw [hbe]; exact hv⟩
  ·refine (ok b u q).stay (fun c v hc r=>k c v ?_ r) (fun c r=>by rw [Jn (nown c b r)]; exact r) fun c xs r=>by rw [Jn (ntup c xs r)]; exact r
   rcases hc with rfl | hc
   ·exact hbe
   ·rintro rfl
    rcases he with z | z
    ·exact nown c b hc z
    ·rw [hc] at z; cases z; exact hb rfl
end
structure Un (fs ex : List Addr) (H H' : Hp) (h h' : Heap) : Prop where
 keep : ∀ b o,h.get? b = some o → H b = none → b ∉ fs → b ∉ ex → h'.get? b = some o
 slot : ∀ b o,h.get? b = some o → H b = none → b ∈ fs → b ∉ ex → ∃ sl,h'.get? b = some { o with slots:=sl }
 free : ∀ b o,h.get? b = some o → H b = none → b ∉ ex → H' b = none
 there : ∀ b o,h.get? b = some o → b ∉ ex → ∃ o',h'.get? b = some o'
 tups : ∀ b xs,H b = some (.tup xs) → H' b = some (.tup xs)
 frzs : ∀ b o u,H b = some (.frz o u) → H' b = some (.frz o u)
 tbls : ∀ b ps,H b = some (.tbl ps) → ∃ more,H' b = some (.tbl (ps ++ more))
section
variable {fs fs' ex ex' : List Addr} {H H1 H2 : Hp} {h h1 h2 h' : Heap} {a x e : Addr} {o : HO}
theorem Un.any (u : Un fs ex H H1 h h1) {b : Addr} {ob : Obj} (q : h.get? b = some ob) (n : H b = none) (hx : b ∉ ex) : ∃ sl,h1.get? b = some { ob with slots:=sl }:=by
 by_cases hb : b ∈ fs
 ·exact u.slot b ob q n hb hx
 ·exact ⟨ob.slots,u.keep b ob q n hb hx⟩
theorem Un.kept (k : ∀ b u,h.get? b = some u → h'.get? b = some u) : Un fs ex H H h h' :=
 ⟨fun b ob q _ _ _=>k b ob q,fun b ob q _ _ _=>⟨ob.slots,k b ob q⟩,fun _ _ _ n _=>n,fun b ob q _=>⟨ob,k b ob q⟩,fun _ _ q=>q,fun _ _ _ q=>q,fun _ ps q=>⟨#[],by rw [q]; simp⟩⟩
theorem Un.refl : Un fs ex H H h h:=Un.kept fun _ _ q=>q
theorem Un.laid (k : ∀ b u,h.get? b = some u → h'.get? b = some u) (hp : h.objs.size ≤ a) (hn : H a = none) : Un fs ex H (upd H a o) h h' where
 keep:=fun b u q _ _ _=>k b u q
 slot:=fun b u q _ _ _=>⟨u.slots,k b u q⟩
 free:=fun b u q n _=>by rw [Jn (Nat.ne_of_lt (Nat.lt_of_lt_of_le (Heap.lt_size q) hp))]; exact n
 there:=fun b u q _=>⟨u,k b u q⟩
 tups:=fun b xs q=>by rw [Jn (Jj q hn)]; exact q
 frzs:=fun b u xs q=>by rw [Jn (Jj q hn)]; exact q
 tbls:=fun b ps q=>⟨#[],by rw [Jn (Jj q hn),q]; simp⟩
theorem Un.write (mu : Mut (H x)) (he : e = x ∨ H e = some (.own x)) (k : ∀ b u,b ≠ e → h.get? b = some u → h'.get? b = some u) (heo : ∃ u,h'.get? e = some u) : Un fs ex H (upd H x o) h h':=by
 have hx : ∀ b,H b = none → b ≠ x:=fun b n z=>by subst z; rw [n] at mu; exact mu
 have hb : ∀ b,H b = none → b ≠ e:=fun b n z=>by
  subst z
  rcases he with r | r
  ·exact hx b n r
  ·rw [n] at r; cases r
 have hm : ∀ b u,H b = some u → ¬ Mut (some u) → b ≠ x:=fun b u q nm z=>by subst z; rw [q] at mu; exact nm mu
 refine ⟨fun b u q n _ _=>k b u (hb b n) q,fun b u q n _ _=>⟨u.slots,k b u (hb b n) q⟩,fun b u q n _=>by rw [Jn (hx b n)]; exact n,fun b u q _=>?_,
  fun b xs q=>by rw [Jn (hm b _ q fun z=>z)]; exact q,fun b u xs q=>by rw [Jn (hm b _ q fun z=>z)]; exact q,fun b ps q=>⟨#[],by rw [Jn (hm b _ q fun z=>z),q]; simp⟩⟩
 by_cases hbe : b = e
 ·subst hbe; exact heo
 ·exact ⟨u,k b u hbe q⟩
end
noncomputable def trk (h : Heap) (H : Hp) : List Addr:=(List.range h.objs.size).filter fun a=>(H a).isSome
noncomputable def hidT (h : Heap) (H : Hp) : Heap:=PySem.W.hideAll h (trk h H)
theorem Jc6 (h : Heap) (H : Hp) : (hidT h H).objs.size = h.objs.size:=PySem.W.hideAll_size _ _
theorem JcV {h : Heap} {H : Hp} {b : Addr} {o : Obj} (e : h.get? b = some o) (n : H b = none) : (hidT h H).get? b = some o :=
 PySem.W.hideAll_get _ e fun hm=>by
  have q : (H b).isSome = true:=(List.mem_filter.mp hm).2
  rw [n] at q; simp at q
theorem Je0 {h : Heap} {H : Hp} {b : Addr} {o : Obj} (e : (hidT h H).get? b = some o) : h.get? b = some o ∧ H b = none:=by
 have e' : h.get? b = some o:=PySem.W.of_hideAll (trk h H) e
 refine ⟨e',?_⟩
 cases q : H b with
 | none=>rfl
 | some x =>
  have hm : b ∈ trk h H:=List.mem_filter.mpr ⟨List.mem_range.mpr (Heap.lt_size e'),by simp [q]⟩
  have z : (hidT h H).get? b = none:=PySem.W.hideAll_none (trk h H) hm
  rw [z] at e; cases e
end L2
namespace L2
open PySem PySem.Spec PyProof.Rows
structure Mod (K : PySem.W.Frag) (mg : Str → Option Value) (base : Heap) : Prop where
 kin : K.In base
 glob : base.Ns mainGlobals mg
 blt : ∃ mb,base.Ns builtinsNs mb ∧ ∀ x : Str,x ≠ "__name__" → mb x = bootBuiltins x
 nolimit : base.NoLimit
structure Cx where
 prog : Program
 w : World
 K : PySem.W.Frag
 mg : Str → Option Value
 base : Heap
 A : Around
 N : List Str
 s₀ : Shared
 H₀ : Hp
 env : Env
 outer : List Env
 stack : List Env
 ex : List Addr
 fn : Str → Bool
 calm : Bool
 pn : List (Addr × Obj)
 xe : Value → Shared → Prop
noncomputable def frs (l : List Env) : List Addr:=l.filterMap (·.frame)
noncomputable abbrev Cx.fs (X : Cx) : List Addr:=frs X.outer
noncomputable def Vis (sc : Scope) (x : Str) : Prop:=sc.names.lookup x = some .local ∨ sc.names.lookup x = some .cell ∨ sc.names.lookup x = some .free
noncomputable def Loc (sc : Scope) (x : Str) : Prop:=sc.names.lookup x = some .local ∨ sc.names.lookup x = some .cell
noncomputable def Look (env : Env) (h : Heap) (m : Str → Option Value) (x : Str) (u : Value) : Prop :=
 (env.kindOf x = some .local ∧ m x = some u) ∨ ((env.kindOf x = some .cell ∨ env.kindOf x = some .free) ∧ ∃ c,env.cells.lookup x = some c ∧ h.IsCell c (some u))
structure Cx.Ok (X : Cx) : Prop where
 mod : Mod X.K X.mg X.base
 kind : X.env.scope.kind = .function
 glob : X.env.globals = mainGlobals
 blt : X.env.builtins = builtinsNs
 above : X.s₀.heap.objs.size ≤ X.env.locals
 inj : ∀ x y c,X.env.cells.lookup x = some c → X.env.cells.lookup y = some c → x = y
 has : ∀ x,(X.env.kindOf x = some .cell ∨ X.env.kindOf x = some .free) → ∃ c,X.env.cells.lookup x = some c
 cab : ∀ x c,X.fn x = true → X.env.cells.lookup x = some c → X.s₀.heap.objs.size ≤ c
 hd : X.calm = true → X.A.handled = none
 frames : X.A.frames = some X.stack
 stk : X.stack = X.outer ∨ (X.stack = X.env :: X.outer ∧ X.env.frame = some X.env.locals)
 exf : ∀ b ∈ X.ex,b ≠ X.env.locals ∧ ∀ x c,X.env.cells.lookup x = some c → c ≠ b
 bs : ∀ b o,X.base.get? b = some o → X.s₀.heap.get? b = some o ∧ X.H₀ b = none
 bsz : X.base.objs.size ≤ X.s₀.heap.objs.size
 noex : ∀ b o,X.base.get? b = some o → b ∉ X.ex
 exfs : ∀ b ∈ X.ex,b ∉ X.fs
 funs : X.s₀.heap.FunFrames X.base X.outer
 frf : ∀ b ∈ X.fs,X.H₀ b = none
structure Inv (X : Cx) (pins : List (Addr × Obj)) (σ : List (Option V)) (H : Hp) (s : Shared) : Prop where
 ok : X.Ok
 os : s.os = X.s₀.os
 bare : AllBare s.gens
 base : Un X.fs X.ex X.H₀ H X.s₀.heap s.heap
 loc : ∃ m,s.heap.Ns X.env.locals m ∧ ∀ (i : Nat) (x : Str) (v : V),X.N[i]? = some x → σ[i]? = some (some v) → Vis X.env.scope x → ∃ u,RelV v u ∧ Look X.env s.heap m x u
 cell : ∀ x c,X.env.cells.lookup x = some c → ∃ v,s.heap.IsCell c v
 free : H X.env.locals = none
 freeC : ∀ x c,X.env.cells.lookup x = some c → H c = none
 pin : ∀ p ∈ X.pn ++ pins,s.heap.get? p.1 = some p.2 ∧ H p.1 = none ∧ p.1 ≠ X.env.locals ∧ p.1 ∉ X.fs ∧ ∀ v,p.2.data ≠ .cell v
 hok : HOk X.prog X.w H s.heap
 len : σ.length = X.N.length
section
variable {X : Cx} {pins : List (Addr × Obj)} {σ : List (Option V)} {H H' : Hp} {s : Shared} {h' : Heap}
theorem Cx.Ok.nofr (ok : X.Ok) {b : Addr} {o : Obj} (e : X.base.get? b = some o) : b ∉ X.fs:=fun hb=>by
 have:=(ok.funs.mem hb).1
 rw [e] at this; cases this
theorem Inv.bs (I : Inv X pins σ H s) : ∀ b o,X.base.get? b = some o → s.heap.get? b = some o ∧ H b = none:=fun b o e =>
 ⟨I.base.keep b o (I.ok.bs b o e).1 (I.ok.bs b o e).2 (I.ok.nofr e) (I.ok.noex b o e),I.base.free b o (I.ok.bs b o e).1 (I.ok.bs b o e).2 (I.ok.noex b o e)⟩
theorem Inv.bk (I : Inv X pins σ H s) : ∀ b o,X.base.get? b = some o → s.heap.get? b = some o:=fun b o e=>(I.bs b o e).1
theorem Inv.mod (I : Inv X pins σ H s) : Mod X.K X.mg X.base:=I.ok.mod
theorem Inv.kIn (I : Inv X pins σ H s) : X.K.In s.heap:=I.ok.mod.kin.keeps I.bk
theorem Inv.lt (I : Inv X pins σ H s) : X.env.locals < s.heap.objs.size:=let ⟨_,hn,_⟩:=I.loc; hn.lt
theorem Inv.sz (I : Inv X pins σ H s) : X.s₀.heap.objs.size ≤ s.heap.objs.size:=Nat.le_trans I.ok.above (Nat.le_of_lt I.lt)
theorem Inv.nofs (I : Inv X pins σ H s) {a : Addr} (h : s.heap.objs.size ≤ a) : a ∉ X.fs:=fun hb=>by
 obtain ⟨_,o,ho,_⟩:=I.ok.funs.mem hb
 exact absurd (Nat.lt_of_lt_of_le (Heap.lt_size ho) (Nat.le_trans I.sz h)) (Nat.lt_irrefl _)
theorem Inv.cne (I : Inv X pins σ H s) : ∀ x c,X.env.cells.lookup x = some c → c ≠ X.env.locals:=fun x c e z=>by
 obtain ⟨v,o,ho,hd⟩:=I.cell x c e
 obtain ⟨m,⟨o',es,ep,ho',hd',_⟩,_⟩:=I.loc
 rw [z,ho'] at ho; cases ho; rw [hd'] at hd; cases hd
theorem Inv.funs (I : Inv X pins σ H s) : s.heap.FunFrames X.base X.outer:=by
 have all : ∀ (l : List Env),(∀ b ∈ frs l,b ∈ X.fs) → X.s₀.heap.FunFrames X.base l → s.heap.FunFrames X.base l:=by
  intro l
  induction l with
  | nil=>intro _ _; trivial
  | cons env r ih =>
   intro hs hl
   obtain ⟨hk,⟨L,o,hf,hn,ho,hd⟩,hr⟩:=hl
   have hL : L ∈ X.fs:=hs L (by unfold frs; rw [List.filterMap_cons,hf]; exact List.mem_cons_self)
   obtain ⟨sl,e⟩:=I.base.slot L o ho (I.ok.frf L hL) hL fun z=>I.ok.exfs L z hL
   exact ⟨hk,⟨L,_,hf,hn,e,hd⟩,ih (fun b hb=>hs b (by unfold frs; rw [List.filterMap_cons,hf]; exact List.mem_cons_of_mem _ hb)) hr⟩
 exact all X.outer (fun _ hb=>hb) I.ok.funs
theorem Inv.stack (I : Inv X pins σ H s) : s.heap.FunFrames X.base X.stack:=by
 rcases I.ok.stk with e | ⟨e,hf⟩
 ·rw [e]; exact I.funs
 ·rw [e]
  obtain ⟨m,hn,_⟩:=I.loc
  refine .cons (by rw [I.ok.kind]; decide) hf hn ?_ I.funs
  exact Heap.get?_none_of_le (Nat.le_trans I.ok.bsz I.ok.above)
theorem Inv.stkSub (I : Inv X pins σ H s) : ∀ b ∈ frs X.stack,b ∈ X.env.locals :: X.fs:=fun b hb=>by
 rcases I.ok.stk with e | ⟨e,hf⟩
 ·rw [e] at hb; exact List.mem_cons_of_mem _ hb
 ·rw [e] at hb
  unfold frs at hb
  rw [List.filterMap_cons,hf] at hb
  exact hb
theorem Inv.stkFree (I : Inv X pins σ H s) : ∀ b ∈ frs X.stack,H b = none:=fun b hb=>by
 rcases List.mem_cons.mp (I.stkSub b hb) with e | hb
 ·rw [e]; exact I.free
 ·obtain ⟨_,o,ho,_⟩:=I.ok.funs.mem hb
  exact I.base.free b o ho (I.ok.frf b hb) fun z=>I.ok.exfs b z hb
theorem Inv.step {g' : Array GenState} {t' : Nat} {d' : Drawn} {ch : List Addr} (I : Inv X pins σ H s)
  (hch : ∀ b ∈ ch,(b ∈ X.ex ∨ X.s₀.heap.objs.size ≤ b) ∧ b ≠ X.env.locals ∧ (∀ x c,X.env.cells.lookup x = some c → c ≠ b) ∧ ∀ p ∈ X.pn ++ pins,p.1 ≠ b)
  (keep : ∀ b o,b ≠ X.env.locals → b ∉ X.fs → b ∉ ch → s.heap.get? b = some o → H b = none → h'.get? b = some o)
  (slot : ∀ b o,b ≠ X.env.locals → b ∈ X.fs → b ∉ ch → s.heap.get? b = some o → H b = none → ∃ sl,h'.get? b = some { o with slots:=sl }) (free : ∀ b o,b ∉ ch → s.heap.get? b = some o → H b = none → H' b = none)
  (there : ∀ b o,b ∉ ch → s.heap.get? b = some o → ∃ o',h'.get? b = some o')
  (tups : ∀ b xs,H b = some (.tup xs) → H' b = some (.tup xs)) (frzs : ∀ b o u,H b = some (.frz o u) → H' b = some (.frz o u)) (tbls : ∀ b ps,H b = some (.tbl ps) → ∃ more,H' b = some (.tbl (ps ++ more)))
  (ns : ∀ m,s.heap.Ns X.env.locals m → h'.Ns X.env.locals m) (hok : HOk X.prog X.w H' h') (hg : AllBare g') :
  Inv X pins σ H' { s with heap:=h',gens:=g',drawn:=d',toks:=t' }:=by
 have neL : ∀ b o,X.s₀.heap.get? b = some o → b ≠ X.env.locals:=fun b o e=>Nat.ne_of_lt (Nat.lt_of_lt_of_le (Heap.lt_size e) I.ok.above)
 have neC : ∀ b o,X.s₀.heap.get? b = some o → b ∉ X.ex → b ∉ ch:=fun b o e hx hb=>by
  rcases (hch b hb).1 with z | z
  ·exact hx z
  ·exact absurd (Nat.lt_of_lt_of_le (Heap.lt_size e) z) (Nat.lt_irrefl _)
 have cellK : ∀ x c,X.env.cells.lookup x = some c → ∀ v,s.heap.IsCell c v → h'.IsCell c v:=fun x c e v ⟨o,ho,hd⟩=>by
  have nch : c ∉ ch:=fun z=>(hch c z).2.2.1 x c e rfl
  by_cases hc : c ∈ X.fs
  ·obtain ⟨sl,q⟩:=slot c o (I.cne x c e) hc nch ho (I.freeC x c e)
   exact ⟨_,q,hd⟩
  ·exact ⟨o,keep c o (I.cne x c e) hc nch ho (I.freeC x c e),hd⟩
 refine ⟨I.ok,I.os,hg,⟨fun b o e n hb hx=>?_,fun b o e n hb hx=>?_,fun b o e n hx=>?_,fun b o e hx=>?_,fun b xs e=>tups b xs (I.base.tups b xs e),fun b o xs e=>frzs b o xs (I.base.frzs b o xs e),fun b ps e=>?_⟩,?_,fun x c e=>?_,?_,fun x c e=>?_,fun p hp=>?_,hok,I.len⟩
 ·exact keep b o (neL b o e) hb (neC b o e hx) (I.base.keep b o e n hb hx) (I.base.free b o e n hx)
 ·obtain ⟨sl,e1⟩:=I.base.slot b o e n hb hx
  obtain ⟨sl',e2⟩:=slot b _ (neL b o e) hb (neC b o e hx) e1 (I.base.free b o e n hx)
  exact ⟨sl',e2⟩
 ·obtain ⟨o',e1⟩:=I.base.there b o e hx
  exact free b o' (neC b o e hx) e1 (I.base.free b o e n hx)
 ·obtain ⟨o',e1⟩:=I.base.there b o e hx
  exact there b o' (neC b o e hx) e1
 ·obtain ⟨m1,e1⟩:=I.base.tbls b ps e
  obtain ⟨m2,e2⟩:=tbls b _ e1
  exact ⟨m1 ++ m2,by rw [e2,Array.append_assoc]⟩
 ·obtain ⟨m,hn,hl⟩:=I.loc
  refine ⟨m,ns m hn,fun i x v e1 e2 e3=>?_⟩
  obtain ⟨u,r,l⟩:=hl i x v e1 e2 e3
  refine ⟨u,r,?_⟩
  rcases l with l | ⟨k,c,e,z⟩
  ·exact .inl l
  ·exact .inr ⟨k,c,e,cellK x c e _ z⟩
 ·obtain ⟨v,z⟩:=I.cell x c e
  exact ⟨v,cellK x c e v z⟩
 ·obtain ⟨m,⟨o,_,_,ho,_⟩,_⟩:=I.loc
  exact free _ o (fun z=>(hch _ z).2.1 rfl) ho I.free
 ·obtain ⟨v,o,ho,hd⟩:=I.cell x c e
  exact free c o (fun z=>(hch c z).2.2.1 x c e rfl) ho (I.freeC x c e)
 ·obtain ⟨e,n,ne,nf,d⟩:=I.pin p hp
  have nch : p.1 ∉ ch:=fun z=>(hch p.1 z).2.2.2 p hp rfl
  exact ⟨keep p.1 p.2 ne nf nch e n,free p.1 p.2 nch e n,ne,nf,d⟩
theorem Inv.un {t' : Nat} (I : Inv X pins σ H s) (u : Un X.fs [] H H' s.heap h') (hok : HOk X.prog X.w H' h') : Inv X pins σ H' { s with heap:=h',toks:=t' }:=by
 obtain ⟨m,⟨o,es,ep,ho,r⟩,_⟩:=id I.loc
 obtain ⟨sl,hL⟩:=u.any ho I.free (by simp)
 exact I.step (g':=s.gens) (d':=s.drawn) (ch:=[]) (fun _ z=>nomatch z) (fun b o _ hb _ e n=>u.keep b o e n hb (by simp)) (fun b o _ hb _ e n=>u.slot b o e n hb (by simp)) (fun b o _ e n=>u.free b o e n (by simp)) (fun b o _ e=>u.there b o e (by simp)) u.tups u.frzs u.tbls (fun m' hm=>by
  obtain ⟨o',es',ep',ho',r'⟩:=hm
  rw [ho] at ho'; cases ho'
  exact ⟨_,es',ep',hL,r'⟩) hok I.bare
theorem Inv.call {g' : Array GenState} {t' : Nat} {d' : Drawn} {ch : List Addr} (I : Inv X pins σ H s) (u : Un (frs X.stack) ch H H' s.heap h') (hok : HOk X.prog X.w H' h') (hg : AllBare g')
  (hch : ∀ b ∈ ch,(b ∈ X.ex ∨ X.s₀.heap.objs.size ≤ b) ∧ b ≠ X.env.locals ∧ (∀ x c,X.env.cells.lookup x = some c → c ≠ b) ∧ ∀ p ∈ X.pn ++ pins,p.1 ≠ b) :
  Inv X pins σ H' { s with heap:=h',gens:=g',drawn:=d',toks:=t' }:=by
 obtain ⟨m,⟨o,es,ep,ho,r⟩,_⟩:=id I.loc
 obtain ⟨sl,hL⟩:=u.any ho I.free fun z=>(hch _ z).2.1 rfl
 exact I.step (ch:=ch) hch (fun b o hL hb hc e n=>u.keep b o e n (fun z=>(List.mem_cons.mp (I.stkSub b z)).elim hL hb) hc) (fun b o _ _ hc e n=>u.any e n hc) (fun b o hc e n=>u.free b o e n hc) (fun b o hc e=>u.there b o e hc) u.tups u.frzs u.tbls (fun m' hm=>by
  obtain ⟨o',es',ep',ho',r'⟩:=hm
  rw [ho] at ho'; cases ho'
  exact ⟨_,es',ep',hL,r'⟩) hok hg
theorem Inv.turned {t' : Nat} {it : Addr} (I : Inv X pins σ H s) (k : ∀ b o,b ≠ it → s.heap.get? b = some o → h'.get? b = some o) (hn : H it = none) (hL : it ≠ X.env.locals)
  (h1 : it ∈ X.ex ∨ X.s₀.heap.objs.size ≤ it) (h2 : ∀ x c,X.env.cells.lookup x = some c → c ≠ it) (h3 : ∀ p ∈ X.pn ++ pins,p.1 ≠ it) : Inv X pins σ H { s with heap:=h',toks:=t' }:=by
 have nit : ∀ b u,H b = some u → b ≠ it:=fun b u e z=>by rw [z,hn] at e; cases e
 refine I.step (g':=s.gens) (d':=s.drawn) (ch:=[it]) (fun b hb=>?_) (fun b o _ _ hc e _=>k b o (fun z=>hc (by simp [z])) e) (fun b o _ _ hc e _=>⟨o.slots,k b o (fun z=>hc (by simp [z])) e⟩) (fun _ _ _ _ n=>n)
  (fun b o hc e=>⟨o,k b o (fun z=>hc (by simp [z])) e⟩) (fun _ _ e=>e) (fun _ _ _ e=>e) (fun b ps e=>⟨#[],by rw [e]; simp⟩) (fun m hm=>?_) (fun b u e=>?_) I.bare
 ·have e : b = it:=by simpa using hb
  subst e
  exact ⟨h1,hL,h2,h3⟩
 ·obtain ⟨o,es,ep,ho,r⟩:=hm
  exact ⟨o,es,ep,k _ o (Ne.symm hL) ho,r⟩
 ·refine (I.hok b u e).stay (fun c v hc q=>k c v ?_ q) (fun _ q=>q) fun _ _ q=>q
  rcases hc with z | z
  ·rw [z]; exact nit b u e
  ·exact nit c _ z
theorem Inv.tok (I : Inv X pins σ H s) (t : Nat) : Inv X pins σ H { s with toks:=t }:=I.un (h':=s.heap) (t':=t) Un.refl I.hok
theorem Inv.kept {t' : Nat} (I : Inv X pins σ H s) (k : ∀ b u,s.heap.get? b = some u → h'.get? b = some u) : Inv X pins σ H { s with heap:=h',toks:=t' }:=I.un (Un.kept k) (I.hok.kept k)
theorem Inv.laid {a : Addr} {o : HO} {t' : Nat} (I : Inv X pins σ H s) (k : ∀ b u,s.heap.get? b = some u → h'.get? b = some u) (hp : s.heap.objs.size ≤ a) (new : J1X X.prog X.w (upd H a o) h' a o) :
  Inv X pins σ (upd H a o) { s with heap:=h',toks:=t' }:=I.un (Un.laid k hp (I.hok.fresh hp)) (I.hok.laid k hp new)
theorem Inv.write {x e : Addr} {o : HO} {t' : Nat} (I : Inv X pins σ H s) (mu : Mut (H x)) (he : e = x ∨ H e = some (.own x)) (k : ∀ b u,b ≠ e → s.heap.get? b = some u → h'.get? b = some u) (heo : ∃ u,h'.get? e = some u)
  (new : J1X X.prog X.w (upd H x o) h' x o) : Inv X pins σ (upd H x o) { s with heap:=h',toks:=t' }:=I.un (Un.write mu he k heo) (I.hok.write mu he k heo new)
theorem Inv.pins_of {pins' : List (Addr × Obj)} (I : Inv X pins σ H s) (h : ∀ p ∈ pins',s.heap.get? p.1 = some p.2 ∧ H p.1 = none ∧ p.1 ≠ X.env.locals ∧ p.1 ∉ X.fs ∧ ∀ v,p.2.data ≠ .cell v) : Inv X pins' σ H s :=
 ⟨I.ok,I.os,I.bare,I.base,I.loc,I.cell,I.free,I.freeC,fun p hp=>(List.mem_append.mp hp).elim (fun z=>I.pin p (List.mem_append_left _ z)) (h p),I.hok,I.len⟩
theorem J6D {N : List Str} (hN : N.Nodup) {i j : Nat} {x : Str} (a : N[i]? = some x) (b : N[j]? = some x) : i = j:=by
 obtain ⟨h1,e1⟩:=List.getElem?_eq_some_iff.mp a
 obtain ⟨h2,e2⟩:=List.getElem?_eq_some_iff.mp b
 exact (List.getElem_inj hN).mp (e1.trans e2.symm)
theorem JbL {M : Model} {A : Around} {E : Value → Shared → Prop} {i : Nat} {x : Str} {v : V} {u : Value} {Q : Unit → Shared → Prop} (I : Inv X pins σ H s) (hN : X.N.Nodup) (hi : X.N[i]? = some x) (hx : Loc X.env.scope x) (r : RelV v u)
  (h : ∀ s',Inv X pins (σ.set i (some v)) H s' → (∃ a,Heap.SameBut a s.heap s'.heap ∧ (a = X.env.locals ∨ X.env.cells.lookup x = some a)) → Q () s') (hf : X.fn x = true ∨ X.env.scope.names.lookup x = some .local:=by first | exact .inl rfl | exact .inr rfl | assumption) : wpAny M A (storeName X.env x u) Q E s:=by
 obtain ⟨m,hn,hl⟩:=id I.loc
 have hcls : (X.env.scope.kind == .class || (X.env.scope.kind == .module && X.env.locals != X.env.globals)) = false:=by rw [I.ok.kind]; rfl
 have hiσ : i < σ.length:=by rw [I.len]; exact (List.getElem?_eq_some_iff.mp hi).1
 have cne:=I.cne
 have tracked : ∀ {a : Addr} {h' : Heap},(∃ o,s.heap.get? a = some o ∧ H a = none) → Heap.SameBut a s.heap h' → HOk X.prog X.w H h':=fun {a h'} ha hs b ob e=>by
  obtain ⟨_,_,hfree⟩:=ha
  refine (I.hok b ob e).stay (fun c w' hc q=>(hs.2 c ?_).trans q) (fun _ q=>q) fun _ _ q=>q
  rintro rfl
  rcases hc with rfl | hc
  ·rw [hfree] at e; cases e
  ·rw [hfree] at hc; cases hc
 rcases hx with hk | hk
 ·refine wpAny_storeName_local hk hn (fun h' hn' hs=>?_) hcls
  obtain ⟨oL,_,_,hoL,_⟩:=id hn
  refine h _ ⟨I.ok,I.os,I.bare,⟨fun b o e n hb hx=>?_,fun b o e n hb hx=>?_,I.base.free,fun b o e hx=>?_,I.base.tups,I.base.frzs,I.base.tbls⟩,⟨_,hn',fun j y v' e1 e2 e3=>?_⟩,fun y c e=>?_,I.free,I.freeC,fun p hp=>?_,tracked ⟨oL,hoL,I.free⟩ hs,by simpa using I.len⟩ ⟨_,hs,.inl rfl⟩
  ·exact (hs.2 b (Nat.ne_of_lt (Nat.lt_of_lt_of_le (Heap.lt_size e) I.ok.above))).trans (I.base.keep b o e n hb hx)
  ·obtain ⟨sl,e1⟩:=I.base.slot b o e n hb hx
   exact ⟨sl,(hs.2 b (Nat.ne_of_lt (Nat.lt_of_lt_of_le (Heap.lt_size e) I.ok.above))).trans e1⟩
  ·obtain ⟨o',e1⟩:=I.base.there b o e hx
   exact ⟨o',(hs.2 b (Nat.ne_of_lt (Nat.lt_of_lt_of_le (Heap.lt_size e) I.ok.above))).trans e1⟩
  ·by_cases hj : j = i
   ·subst hj
    rw [hi] at e1; cases e1
    rw [List.getElem?_set_self hiσ] at e2
    cases e2
    exact ⟨u,r,.inl ⟨hk,by simp⟩⟩
   ·rw [List.getElem?_set_ne (Ne.symm hj)] at e2
    obtain ⟨u',r',q⟩:=hl j y v' e1 e2 e3
    refine ⟨u',r',?_⟩
    rcases q with ⟨k,e⟩ | ⟨k,c,e,z⟩
    ·refine .inl ⟨k,?_⟩
     have : y ≠ x:=fun e=>hj (J6D hN e1 (e ▸ hi))
     simp [this,e]
    ·exact .inr ⟨k,c,e,z.sameBut hs (cne y c e)⟩
  ·obtain ⟨w',z⟩:=I.cell y c e
   exact ⟨w',z.sameBut hs (cne y c e)⟩
  ·obtain ⟨e,n,ne,nf,d⟩:=I.pin p hp
   exact ⟨(hs.2 p.1 ne).trans e,n,ne,nf,d⟩
 ·have hfn : X.fn x = true:=by
   rcases hf with z | z
   ·exact z
   ·rw [z] at hk; cases hk
  obtain ⟨c,hc⟩:=I.ok.has x (.inl hk)
  obtain ⟨w',z⟩:=I.cell x c hc
  refine wpAny_storeName_cell I.ok.kind hk hc z (fun h' hc' hs=>?_)
  obtain ⟨oc,hoc,hocd⟩:=id z
  refine h { s with heap:=h' } ⟨I.ok,I.os,I.bare,⟨fun b o e n hb hx=>?_,fun b o e n hb hx=>?_,I.base.free,fun b o e hx=>?_,I.base.tups,I.base.frzs,I.base.tbls⟩,⟨m,hn.sameBut hs (Ne.symm (cne x c hc)),fun j y v' e1 e2 e3=>?_⟩,fun y c' e=>?_,I.free,I.freeC,fun p hp=>?_,tracked ⟨oc,hoc,I.freeC x c hc⟩ hs,by simpa using I.len⟩ ⟨c,hs,.inr hc⟩
  ·exact (hs.2 b (Nat.ne_of_lt (Nat.lt_of_lt_of_le (Heap.lt_size e) (I.ok.cab x c hfn hc)))).trans (I.base.keep b o e n hb hx)
  ·obtain ⟨sl,e1⟩:=I.base.slot b o e n hb hx
   exact ⟨sl,(hs.2 b (Nat.ne_of_lt (Nat.lt_of_lt_of_le (Heap.lt_size e) (I.ok.cab x c hfn hc)))).trans e1⟩
  ·obtain ⟨o',e1⟩:=I.base.there b o e hx
   exact ⟨o',(hs.2 b (Nat.ne_of_lt (Nat.lt_of_lt_of_le (Heap.lt_size e) (I.ok.cab x c hfn hc)))).trans e1⟩
  ·by_cases hj : j = i
   ·subst hj
    rw [hi] at e1; cases e1
    rw [List.getElem?_set_self hiσ] at e2
    cases e2
    exact ⟨u,r,.inr ⟨.inl hk,c,hc,hc'⟩⟩
   ·rw [List.getElem?_set_ne (Ne.symm hj)] at e2
    obtain ⟨u',r',q⟩:=hl j y v' e1 e2 e3
    refine ⟨u',r',?_⟩
    rcases q with q | ⟨k,c',e,z'⟩
    ·exact .inl q
    ·refine .inr ⟨k,c',e,z'.sameBut hs ?_⟩
     rintro rfl
     exact hj (J6D hN e1 (I.ok.inj _ _ _ e hc ▸ hi))
  ·by_cases hcc : c' = c
   ·subst hcc; exact ⟨_,hc'⟩
   ·obtain ⟨w2,z2⟩:=I.cell y c' e
    exact ⟨w2,z2.sameBut hs hcc⟩
  ·obtain ⟨e,n,ne,nf,d⟩:=I.pin p hp
   refine ⟨(hs.2 p.1 ?_).trans e,n,ne,nf,d⟩
   intro q
   rw [q,hoc] at e
   have q' : oc = p.2:=Option.some.inj e
   exact d w' (by rw [← q']; exact hocd)
theorem J3V {M : Model} {A : Around} {E : Value → Shared → Prop} {i : Nat} {x : Str} {v : V} {u : Value} {Q : Unit → Shared → Prop} (I : Inv X pins σ H s) (hN : X.N.Nodup) (hi : X.N[i]? = some x) (hx : Loc X.env.scope x) (r : RelV v u)
  (h : ∀ s',Inv X pins (σ.set i (some v)) H s' → Q () s') (hf : X.fn x = true ∨ X.env.scope.names.lookup x = some .local:=by first | exact .inl rfl | exact .inr rfl | assumption) : wpAny M A (storeName X.env x u) Q E s :=
 JbL I hN hi hx r (fun s' I' _=>h s' I') hf
theorem Inv.call' {s' : Shared} {ch : List Addr} (I : Inv X pins σ H s) (ho : s'.os = s.os) (u : Un (frs X.stack) ch H H' s.heap s'.heap) (hok : HOk X.prog X.w H' s'.heap) (hg : AllBare s'.gens)
  (hch : ∀ b ∈ ch,(b ∈ X.ex ∨ X.s₀.heap.objs.size ≤ b) ∧ b ≠ X.env.locals ∧ (∀ x c,X.env.cells.lookup x = some c → c ≠ b) ∧ ∀ p ∈ X.pn ++ pins,p.1 ≠ b) : Inv X pins σ H' s':=by
 obtain ⟨h',g',d',t',o'⟩:=s'
 have e : o' = s.os:=ho
 subst e
 exact I.call (g':=g') (t':=t') (d':=d') u hok hg hch
end
noncomputable abbrev XK:=Value → Option Addr → Hp → Prop
noncomputable abbrev St:=List (Option V)
noncomputable abbrev VK:=V → Hp → Prop
noncomputable abbrev TE:=St → Hp → VK → Prop
noncomputable abbrev TT:=St → Hp → (Bool → Hp → Prop) → Prop
noncomputable abbrev TA:=St → Hp → (List V → Hp → Prop) → Prop
structure Ends where
 nx : St → Hp → Prop
 rt : VK
 bk : St → Hp → Prop:=fun _ _=>False
 ct : St → Hp → Prop:=fun _ _=>False
noncomputable abbrev TS:=Ends → St → Hp → Prop
noncomputable def EP (X : Cx) (pins : List (Addr × Obj)) (σ : St) (Q : VK) (u : Value) (s' : Shared) : Prop:=∃ v H',Inv X pins σ H' s' ∧ RelV v u ∧ Q v H'
noncomputable def TP (X : Cx) (pins : List (Addr × Obj)) (σ : St) (Q : Bool → Hp → Prop) (b : Bool) (s' : Shared) : Prop:=∃ H',Inv X pins σ H' s' ∧ Q b H'
noncomputable def AP (X : Cx) (pins : List (Addr × Obj)) (σ : St) (Q : List V → Hp → Prop) (us : List Value) (s' : Shared) : Prop:=∃ vs H',Inv X pins σ H' s' ∧ Vals vs us ∧ Q vs H'
noncomputable def SP (X : Cx) (pins : List (Addr × Obj)) (D : Ends) (f : Flow) (s' : Shared) : Prop :=
 match f with
 | .next=>∃ σ' H',Inv X pins σ' H' s' ∧ D.nx σ' H'
 | .brk=>∃ σ' H',Inv X pins σ' H' s' ∧ D.bk σ' H'
 | .cont=>∃ σ' H',Inv X pins σ' H' s' ∧ D.ct σ' H'
 | .ret u=>∃ v σ' H',Inv X pins σ' H' s' ∧ RelV v u ∧ D.rt v H'
noncomputable def PE (X : Cx) (e : Expr) (t : TE) : Prop :=
 ∀ (pins : List (Addr × Obj)) (s : Shared) (σ : St) (H : Hp) (Q : VK),Inv X pins σ H s → t σ H Q → wpAny (model X.prog X.w) X.A (eval e X.env) (EP X pins σ Q) X.xe s
noncomputable def PT (X : Cx) (e : Expr) (t : TT) : Prop :=
 ∀ (pins : List (Addr × Obj)) (s : Shared) (σ : St) (H : Hp) (Q : Bool → Hp → Prop),Inv X pins σ H s → t σ H Q → wpAny (model X.prog X.w) X.A (isTrue e X.env (eval e X.env)) (TP X pins σ Q) X.xe s
noncomputable def PW (X : Cx) (e : Expr) (t : TT) : Prop :=
 ∀ (whole : Sem Value) (pins : List (Addr × Obj)) (s : Shared) (σ : St) (H : Hp) (Q : Bool → Hp → Prop),Inv X pins σ H s → t σ H Q → wpAny (model X.prog X.w) X.A (isTrue e X.env whole) (TP X pins σ Q) X.xe s
theorem PW.pt {X : Cx} {e : Expr} {t : TT} (h : PW X e t) : PT X e t:=h _
noncomputable def PA (X : Cx) (es : List Expr) (t : TA) : Prop :=
 ∀ (pos : Pos) (pins : List (Addr × Obj)) (s : Shared) (σ : St) (H : Hp) (Q : List V → Hp → Prop),Inv X pins σ H s → t σ H Q → wpAny (model X.prog X.w) X.A (spliced (backTo pos (starEach es X.env))) (AP X pins σ Q) X.xe s
noncomputable def PS (X : Cx) (st : Stmt) (t : TS) : Prop :=
 ∀ (pins : List (Addr × Obj)) (s : Shared) (σ : St) (H : Hp) (D : Ends),Inv X pins σ H s → t D σ H → wpAny (model X.prog X.w) X.A (exec st X.env) (SP X pins D) X.xe s
noncomputable def PSs (X : Cx) (st : List Stmt) (t : TS) : Prop :=
 ∀ (pins : List (Addr × Obj)) (s : Shared) (σ : St) (H : Hp) (D : Ends),Inv X pins σ H s → t D σ H → wpAny (model X.prog X.w) X.A (execs st X.env) (SP X pins D) X.xe s
theorem thn {α : Type} {t : Sem α} {Q Q' : α → Shared → Prop} {M : Model} {A : Around} {E : Value → Shared → Prop} {s : Shared} (h : wpAny M A t Q E s) (hQ : ∀ a s,Q a s → Q' a s) : wpAny M A t Q' E s:=wpAny_mono h hQ fun _ _ x=>x
end L2
namespace L2
open PySem PySem.Spec PyProof.Rows
section
variable {X : Cx}
noncomputable def tVar (i : Nat) : TE:=fun σ H Q=>∃ v,σ[i]? = some (some v) ∧ Q v H
noncomputable def tC (v : V) : TE:=fun _ H Q=>Q v H
theorem Jfi {i : Nat} {x : Str} {pos : Pos} (hN : X.N[i]? = some x) (hv : Vis X.env.scope x) (hd : (x == ("__debug__" : Str)) = false:=by decide) (hcd : (x == ("__classdict__" : Str)) = false:=by decide) : PE X (.Name x pos) (tVar i):=by
 intro pins s σ H Q I h
 obtain ⟨v,e,h⟩:=h
 obtain ⟨m,hn,hl⟩:=I.loc
 obtain ⟨u,r,l⟩:=hl i x v hN e hv
 have fin : EP X pins σ Q u s:=⟨v,H,I,r,h⟩
 rcases l with ⟨hk,hm⟩ | ⟨hk,c,hc,hcell⟩
 ·exact wpAny_Name (wpAny_loadName_local I.ok.kind hk hn hm fin) hd
 ·rcases hk with hk | hk
  ·exact wpAny_Name (wpAny_loadName_cell I.ok.kind hk hc hcell fin) hd
  ·exact wpAny_Name (wpAny_loadName_free I.ok.kind hk hc hcell fin hcd) hd
theorem Jh {i j pos} : PE X (.Constant (.int i) j pos) (tC (.int i)):=fun _ _ _ H _ I h=>wpAny_Constant_int ⟨.int i,H,I.tok _,⟨_,rfl⟩,h⟩
theorem J2h {b j pos} : PE X (.Constant (.bool b) j pos) (tC (.bl b)):=fun _ _ _ H _ I h=>Constant_bool ⟨.bl b,H,I,rfl,h⟩
theorem J8F {j pos} : PE X (.Constant .none j pos) (tC .non):=fun _ _ _ H _ I h=>Constant_none ⟨.non,H,I,rfl,h⟩
theorem Jfe {x j pos} : PE X (.Constant (.str x) j pos) (tC (.str x)):=fun _ _ _ H _ I h=>Calls.Constant_str ⟨.str x,H,I.tok _,⟨_,rfl⟩,h⟩
noncomputable def Gl (X : Cx) (x : Str) : Prop:=X.env.kindOf x = some .globalImplicit
theorem J3C {E : Value → Shared → Prop} {pins : List (Addr × Obj)} {s : Shared} {σ : St} {H : Hp} {x : Str} {u : Value} {pos : Pos} {Q : Value → Shared → Prop} (I : Inv X pins σ H s) (hg : Gl X x) (hm : X.mg x = some u) (h : Q u s)
  (hd : (x == ("__debug__" : Str)) = false:=by decide) : wpAny (model X.prog X.w) X.A (eval (.Name x pos) X.env) Q E s :=
 Calls.Name_function_global I.ok.kind hg (Calls.loadGlobal_global (by rw [I.ok.glob]; exact I.mod.glob.keeps I.bk) hm h) hd
theorem J4p {E : Value → Shared → Prop} {pins : List (Addr × Obj)} {s : Shared} {σ : St} {H : Hp} {x : Str} {u : Value} {pos : Pos} {Q : Value → Shared → Prop} (I : Inv X pins σ H s) (hg : Gl X x) (hm : X.mg x = none) (hv : bootBuiltins x = some u) (h : Q u s)
  (hn : x ≠ "__name__":=by decide) (hd : (x == ("__debug__" : Str)) = false:=by decide) : wpAny (model X.prog X.w) X.A (eval (.Name x pos) X.env) Q E s:=by
 obtain ⟨mb,h1,h2⟩:=I.mod.blt
 exact Calls.Name_function_global I.ok.kind hg (Calls.loadGlobal_builtin (by rw [I.ok.glob]; exact I.mod.glob.keeps I.bk) hm (by rw [I.ok.blt]; exact h1.keeps I.bk) ((h2 x hn).trans hv) h) hd
theorem J2C {x : Str} {v : V} {u : Value} {pos : Pos} (hg : Gl X x) (hm : X.mg x = some u) (r : RelV v u) (hd : (x == ("__debug__" : Str)) = false:=by decide) : PE X (.Name x pos) (tC v) :=
 fun _ _ _ H _ I h=>J3C I hg hm ⟨v,H,I,r,h⟩ hd
theorem JdQ {x : Str} {v : V} {u : Value} {pos : Pos} (hg : Gl X x) (hm : X.mg x = none) (hv : bootBuiltins x = some u) (r : RelV v u) (hn : x ≠ "__name__":=by decide) (hd : (x == ("__debug__" : Str)) = false:=by decide) : PE X (.Name x pos) (tC v) :=
 fun _ _ _ H _ I h=>J4p I hg hm hv ⟨v,H,I,r,h⟩ hn hd
variable {a b : Expr} {ta tb : TE} {pos : Pos}
noncomputable def tB (t : TE) : TT:=fun σ H Q=>t σ H fun x H1=>∃ c,x = .bl c ∧ Q c H1
theorem J34 {e : Expr} {t : TE} (h : PE X e t) (he : ∀ whole,isTrue e X.env whole = (do let v ← whole; standAt e.pos; holding [v] (truthy v)):=by intro _; rfl) : PT X e (tB t):=by
 intro pins s σ H Q I hw
 refine isTrue_plain (thn (h pins s σ H _ I hw) fun v s1 ⟨x,H1,I1,r1,q1⟩=>?_) (he _)
 obtain ⟨d,rfl,q⟩:=q1
 cases r1
 exact wpAny_truthy_bool ⟨H1,I1,q⟩
variable {tA tB' : TT} {rest : List Expr}
noncomputable def tAnd (t u : TT) : TT:=fun σ H Q=>t σ H fun c H1=>if c = true then u σ H1 Q else Q false H1
noncomputable def tOr (t u : TT) : TT:=fun σ H Q=>t σ H fun c H1=>if c = true then Q true H1 else u σ H1 Q
noncomputable def tNot (t : TT) : TT:=fun σ H Q=>t σ H fun c H1=>Q (!c) H1
theorem J3f (ha : PT X a tA) : PW X (.BoolOp .And [a] pos) tA:=by
 intro wh pins s σ H Q I h
 refine isTrue_and (thn (ha pins s σ H Q I h) fun c s1 e=>?_)
 cases c with
 | true=>exact isTrue_and_nil e
 | false=>exact e
theorem J4m (ha : PT X a tA) : PW X (.BoolOp .Or [a] pos) tA:=by
 intro wh pins s σ H Q I h
 refine isTrue_or (thn (ha pins s σ H Q I h) fun c s1 e=>?_)
 cases c with
 | false=>exact isTrue_or_nil e
 | true=>exact e
theorem J3h (ha : PT X a tA) (hb : PW X (.BoolOp .And (b :: rest) pos) tB') : PW X (.BoolOp .And (a :: b :: rest) pos) (tAnd tA tB'):=by
 intro wh pins s σ H Q I h
 refine isTrue_and (thn (ha pins s σ H _ I h) fun c s1 ⟨H1,I1,q1⟩=>?_)
 cases c with
 | true=>exact hb wh pins s1 σ H1 Q I1 q1
 | false=>exact ⟨H1,I1,q1⟩
theorem J6M (ha : PT X a tA) (hb : PW X (.BoolOp .Or (b :: rest) pos) tB') : PW X (.BoolOp .Or (a :: b :: rest) pos) (tOr tA tB'):=by
 intro wh pins s σ H Q I h
 refine isTrue_or (thn (ha pins s σ H _ I h) fun c s1 ⟨H1,I1,q1⟩=>?_)
 cases c with
 | true=>exact ⟨H1,I1,q1⟩
 | false=>exact hb wh pins s1 σ H1 Q I1 q1
theorem J8P (ha : PT X a tA) : PT X (.UnaryOp .Not a pos) (tNot tA):=by
 intro pins s σ H Q I h
 exact isTrue_not (ha pins s σ H (fun c H1=>Q (!c) H1) I h)
noncomputable def JfC (ta tb : TE) : TE:=fun σ H Q=>ta σ H fun x H1=>∃ c,x = .bl c ∧ if c = true then tb σ H1 Q else Q (.bl false) H1
noncomputable def tOrV (ta tb : TE) : TE:=fun σ H Q=>ta σ H fun x H1=>∃ c,x = .bl c ∧ if c = true then Q (.bl true) H1 else tb σ H1 Q
noncomputable def JfK (ta : TE) : TE:=fun σ H Q=>ta σ H fun x H1=>∃ c,x = .bl c ∧ Q (.bl (!c)) H1
theorem Jda {op} {t : TE} (h : PE X a t) : PE X (.BoolOp op [a] pos) t:=fun pins s σ H Q I hw=>BoolOp_one (h pins s σ H Q I hw)
theorem JeS (ha : PE X a ta) (hb : PE X (.BoolOp .And (b :: rest) pos) tb) : PE X (.BoolOp .And (a :: b :: rest) pos) (JfC ta tb):=by
 intro pins s σ H Q I h
 refine BoolOp_and (thn (ha pins s σ H _ I h) fun v s1 ⟨x,H1,I1,r1,q1⟩=>?_)
 obtain ⟨c,rfl,q1⟩:=q1
 cases r1
 refine wpAny_truthy_bool ?_
 cases c with
 | true=>exact hb pins s1 σ H1 Q I1 q1
 | false=>exact ⟨.bl false,H1,I1,rfl,q1⟩
theorem JfW (ha : PE X a ta) (hb : PE X (.BoolOp .Or (b :: rest) pos) tb) : PE X (.BoolOp .Or (a :: b :: rest) pos) (tOrV ta tb):=by
 intro pins s σ H Q I h
 refine BoolOp_or (thn (ha pins s σ H _ I h) fun v s1 ⟨x,H1,I1,r1,q1⟩=>?_)
 obtain ⟨c,rfl,q1⟩:=q1
 cases r1
 refine wpAny_truthy_bool ?_
 cases c with
 | false=>exact hb pins s1 σ H1 Q I1 q1
 | true=>exact ⟨.bl true,H1,I1,rfl,q1⟩
theorem JeX (ha : PE X a ta) : PE X (.UnaryOp .Not a pos) (JfK ta):=by
 intro pins s σ H Q I h
 refine UnaryOp_ (thn (ha pins s σ H _ I h) fun v s1 ⟨x,H1,I1,r1,q1⟩=>?_)
 obtain ⟨c,rfl,q1⟩:=q1
 cases r1
 exact not_of (wpAny_truthy_bool ⟨.bl (!c),H1,I1,rfl,q1⟩)
noncomputable def tIf (t : TT) (ta tb : TE) : TE:=fun σ H Q=>t σ H fun c H1=>if c = true then ta σ H1 Q else tb σ H1 Q
theorem Jdd {c : Expr} (hc : PT X c tA) (ha : PE X a ta) (hb : PE X b tb) : PE X (.IfExp c a b pos) (tIf tA ta tb):=by
 intro pins s σ H Q I h
 refine wpAny_IfExp (thn (hc pins s σ H _ I h) fun d s1 ⟨H1,I1,q1⟩=>?_)
 cases d with
 | true=>exact ha pins s1 σ H1 Q I1 q1
 | false=>exact hb pins s1 σ H1 Q I1 q1
end
end L2
namespace L2
open PySem PySem.Spec PyProof.Rows
noncomputable def SqL (K : PySem.W.Frag) (H : Hp) (a : Addr) (xs : List V) : Prop :=
 Rd H a (.lst xs) ∨
  ∃ (o : Obj) (its : Array Value) (n : Nat),K.lookup a = some o ∧ o.cls = .type "list" ∧ o.dict = none ∧ o.data = .seq its n ∧ its.size ≤ sizeLine ∧ Vals xs its.toList
noncomputable def SqT (K : PySem.W.Frag) (H : Hp) (a : Addr) (xs : List V) : Prop :=
 Rd H a (.tup xs) ∨
  ∃ (o : Obj) (its : Array Value) (n : Nat),K.lookup a = some o ∧ o.cls = .type "tuple" ∧ o.data = .seq its n ∧ its.size ≤ sizeLine ∧ Vals xs its.toList
noncomputable def absV : Value → Option V
 | .none=>some .non
 | .bool b=>some (.bl b)
 | .int i _=>some (.int i)
 | .str x _=>some (.str x)
 | .bytes b _=>some (.byt b)
 | .float b _=>some (.flt b)
 | .ref a=>some (.ref a)
 | .type n=>some (.ty n)
 | _=>none
theorem RelV.abs {x : V} {u : Value} (r : RelV x u) : absV u = some x:=by
 cases x with
 | non=>cases r; rfl
 | bl _=>cases r; rfl
 | int _=>obtain ⟨t,rfl⟩:=r; rfl
 | str _=>obtain ⟨t,rfl⟩:=r; rfl
 | byt _=>obtain ⟨t,rfl⟩:=r; rfl
 | flt _=>obtain ⟨t,rfl⟩:=r; rfl
 | ref _=>cases r; rfl
 | ty _=>cases r; rfl
theorem RelV.inj {x y : V} {u : Value} (r : RelV x u) (q : RelV y u) : x = y:=Option.some.inj (r.abs.symm.trans q.abs)
theorem Vals.inj : ∀ {xs ys : List V} {us : List Value},Vals xs us → Vals ys us → xs = ys
 | _,_,_,.nil,.nil=>rfl
 | _,_,_,.cons r t,.cons r' t'=>by rw [r.inj r',Vals.inj t t']
section
variable {X : Cx} {pins : List (Addr × Obj)} {σ : St} {H : Hp} {s : Shared} {a : Addr} {xs ys : List V}
theorem SqL.of {K : PySem.W.Frag} (h : H a = some (.lst xs)) : SqL K H a xs:=.inl (.inl h)
theorem SqT.of {K : PySem.W.Frag} (h : H a = some (.tup xs)) : SqT K H a xs:=.inl (.inl h)
theorem Inv.list (I : Inv X pins σ H s) (h : SqL X.K H a xs) : ∃ its : List Value,Vals xs its ∧ PlainL s.heap a its.toArray ∧ xs.length ≤ sizeLine:=by
 rcases h with h | ⟨o,its,n,hk,hc,hd,hs,hz,r⟩
 ·obtain ⟨z,its,n,r,e⟩:=h.ok I.hok
  exact ⟨its,r,⟨_,n,e,rfl,rfl,rfl⟩,z⟩
 ·refine ⟨its.toList,r,⟨o,n,I.kIn a o hk,hc,hd,by simpa using hs⟩,?_⟩
  have e:=r.length
  simp only [Array.length_toList] at e
  omega
theorem Inv.tuple (I : Inv X pins σ H s) (h : SqT X.K H a xs) : ∃ its : List Value,Vals xs its ∧ IsTup s.heap a its.toArray ∧ xs.length ≤ sizeLine:=by
 rcases h with h | ⟨o,its,n,hk,hc,hs,hz,r⟩
 ·obtain ⟨z,its,r,p⟩:=h.ok I.hok
  exact ⟨its,r,p,z⟩
 ·refine ⟨its.toList,r,⟨o,I.kIn a o hk,hc,n,by simpa using hs⟩,?_⟩
  have e:=r.length
  simp only [Array.length_toList] at e
  omega
theorem Inv.list_inj (I : Inv X pins σ H s) (h : SqL X.K H a xs) (h' : SqL X.K H a ys) : xs = ys:=by
 obtain ⟨its,r,⟨o,n,e,_,_,d⟩,_⟩:=I.list h
 obtain ⟨its',r',⟨o',n',e',_,_,d'⟩,_⟩:=I.list h'
 rw [e] at e'; cases e'
 rw [d] at d'
 injection d' with d1 _
 have : its = its':=by simpa using congrArg Array.toList d1
 subst this
 exact r.inj r'
theorem Inv.tuple_inj (I : Inv X pins σ H s) (h : SqT X.K H a xs) (h' : SqT X.K H a ys) : xs = ys:=by
 obtain ⟨its,r,⟨o,e,_,n,d⟩,_⟩:=I.tuple h
 obtain ⟨its',r',⟨o',e',_,n',d'⟩,_⟩:=I.tuple h'
 rw [e] at e'; cases e'
 rw [d] at d'
 injection d' with d1 _
 have : its = its':=by simpa using congrArg Array.toList d1
 subst this
 exact r.inj r'
end
noncomputable abbrev Cx.wish (X : Cx) (E : Value → Shared → Prop) : Cx:={ X with xe:=E }
noncomputable abbrev Cx.nox (X : Cx) : Cx:=X.wish fun _ _=>False
theorem Cx.Ok.wish {X : Cx} (ok : X.Ok) (E : Value → Shared → Prop) : (X.wish E).Ok :=
 ⟨ok.mod,ok.kind,ok.glob,ok.blt,ok.above,ok.inj,ok.has,ok.cab,ok.hd,ok.frames,ok.stk,ok.exf,ok.bs,ok.bsz,ok.noex,ok.exfs,ok.funs,ok.frf⟩
theorem Cx.Ok.unwish {X : Cx} {E : Value → Shared → Prop} (ok : (X.wish E).Ok) : X.Ok :=
 ⟨ok.mod,ok.kind,ok.glob,ok.blt,ok.above,ok.inj,ok.has,ok.cab,ok.hd,ok.frames,ok.stk,ok.exf,ok.bs,ok.bsz,ok.noex,ok.exfs,ok.funs,ok.frf⟩
section
variable {X : Cx} {pins : List (Addr × Obj)} {σ : St} {H : Hp} {s : Shared} {E : Value → Shared → Prop}
theorem Inv.wish (I : Inv X pins σ H s) (E : Value → Shared → Prop) : Inv (X.wish E) pins σ H s:=⟨I.ok.wish E,I.os,I.bare,I.base,I.loc,I.cell,I.free,I.freeC,I.pin,I.hok,I.len⟩
theorem Inv.unwish (I : Inv (X.wish E) pins σ H s) : Inv X pins σ H s:=⟨I.ok.unwish,I.os,I.bare,I.base,I.loc,I.cell,I.free,I.freeC,I.pin,I.hok,I.len⟩
theorem SP.unwish {D : Ends} {f : Flow} {s' : Shared} (h : SP (X.wish E) pins D f s') : SP X pins D f s':=by
 cases f with
 | next=>obtain ⟨σ',H',I,q⟩:=h; exact ⟨σ',H',I.unwish,q⟩
 | brk=>obtain ⟨σ',H',I,q⟩:=h; exact ⟨σ',H',I.unwish,q⟩
 | cont=>obtain ⟨σ',H',I,q⟩:=h; exact ⟨σ',H',I.unwish,q⟩
 | ret u=>obtain ⟨v,σ',H',I,r,q⟩:=h; exact ⟨v,σ',H',I.unwish,r,q⟩
theorem PSs.nox {st : List Stmt} {t : TS} (h : PSs X.nox st t) : PSs X st t:=fun pins s σ H D I hw =>
 wpAny_mono (h pins s σ H D (I.wish _) hw) (fun _ _ q=>q.unwish) fun _ _ z=>False.elim z
end
section
variable {X : Cx} {st : Stmt} {rest : List Stmt} {t u : TS} {e : Expr} {te : TE} {pos : Pos}
noncomputable def JfY : TS:=fun D σ H=>D.nx σ H
noncomputable def tSeq (t u : TS) : TS:=fun D σ H=>t { D with nx:=u D } σ H
theorem JI : PSs X [] JfY:=fun _ _ σ H _ I h=>wpAny_execs_nil ⟨σ,H,I,h⟩
theorem J3 (h1 : PS X st t) (h2 : PSs X rest u) : PSs X (st :: rest) (tSeq t u):=by
 intro pins s σ H D I h
 refine wpAny_execs_cons (thn (h1 pins s σ H { D with nx:=u D } I h) fun f s1 q=>?_)
 cases f with
 | next =>
  obtain ⟨σ',H',I',q⟩:=q
  exact h2 pins s1 σ' H' D I' q
 | ret v=>exact q
 | brk=>exact q
 | cont=>exact q
theorem Jl (h1 : PS X st t) : PSs X [st] t:=by
 intro pins s σ H D I h
 refine wpAny_execs_cons (thn (h1 pins s σ H D I h) fun f s1 q=>?_)
 cases f with
 | next=>exact wpAny_execs_nil q
 | ret v=>exact q
 | brk=>exact q
 | cont=>exact q
theorem Inv.quiet {pins : List (Addr × Obj)} {σ : St} {H : Hp} {s : Shared} (I : Inv X pins σ H s) : interactive X.env = false:=by simp [interactive,I.ok.kind]
noncomputable def JfT (te : TE) : TS:=fun D σ H=>te σ H fun _ H1=>D.nx σ H1
theorem J1W (he : PE X e te) (hs : swapsWith e none pos.line X.env = pure false:=by rfl) : PS X (.Expr e pos) (JfT te):=by
 intro pins s σ H D I h
 exact wpAny_Expr_any (thn (he pins s σ H _ I h) fun v s1 ⟨x,H1,I1,r1,q1⟩=>⟨σ,H1,I1,q1⟩) I.quiet hs
noncomputable def tRet (te : TE) : TS:=fun D σ H=>te σ H D.rt
theorem Jx (he : PE X e te) : PS X (.Return (some e) pos) (tRet te):=by
 intro pins s σ H D I h
 exact wpAny_Return_some (thn (he pins s σ H _ I h) fun v s1 ⟨x,H1,I1,r1,q1⟩=>⟨x,σ,H1,I1,r1,q1⟩)
noncomputable def tIfS (c : TT) (t u : TS) : TS:=fun D σ H=>c σ H fun b H1=>if b = true then t D σ H1 else u D σ H1
theorem J03 {c : Expr} {a b : List Stmt} {tc : TT} (hc : PT X c tc) (ha : PSs X a t) (hb : PSs X b u) : PS X (.If c a b pos) (tIfS tc t u):=by
 intro pins s σ H D I h
 refine wpAny_If (thn (hc pins s σ H _ I h) fun d s1 ⟨H1,I1,q1⟩=>?_)
 cases d with
 | true=>exact ha pins s1 σ H1 D I1 q1
 | false=>exact hb pins s1 σ H1 D I1 q1
noncomputable def Jff : TS:=fun _ _ _=>False
theorem Jde : PS X st Jff:=fun _ _ _ _ _ _ h=>h.elim
end
noncomputable abbrev TG:=V → St → Hp → (St → Hp → Prop) → Prop
noncomputable abbrev TGs:=List V → St → Hp → (St → Hp → Prop) → Prop
noncomputable def PG (X : Cx) (target : Expr) (t : TG) : Prop :=
 ∀ (pins : List (Addr × Obj)) (s : Shared) (σ : St) (H : Hp) (v : V) (u : Value) (Q : St → Hp → Prop),Inv X pins σ H s → RelV v u → t v σ H Q →
  wpAny (model X.prog X.w) X.A (assign target X.env u) (fun _ s'=>∃ σ' H',Inv X pins σ' H' s' ∧ Q σ' H') X.xe s
noncomputable def PGs (X : Cx) (ts : List Expr) (t : TGs) : Prop :=
 ∀ (pins : List (Addr × Obj)) (s : Shared) (σ : St) (H : Hp) (vs : List V) (us : List Value) (Q : St → Hp → Prop),Inv X pins σ H s → Vals vs us → t vs σ H Q →
  wpAny (model X.prog X.w) X.A (assignInOrder ((assignEach ts X.env).map (·.2)) us) (fun _ s'=>∃ σ' H',Inv X pins σ' H' s' ∧ Q σ' H') X.xe s
noncomputable abbrev TSet:=V → V → V → Hp → (Hp → Prop) → Prop
noncomputable def PSet (X : Cx) (t : TSet) : Prop :=
 ∀ (pins : List (Addr × Obj)) (s : Shared) (σ : St) (H : Hp) (o i v : V) (ov iv u : Value) (Q : Hp → Prop),Inv X pins σ H s → RelV o ov → RelV i iv → RelV v u → t o i v H Q →
  wpAny (model X.prog X.w) X.A (setItem ov iv u) (fun _ s'=>∃ H',Inv X pins σ H' s' ∧ Q H') X.xe s
noncomputable abbrev TIp:=V → V → Hp → VK → Prop
noncomputable def PIp (X : Cx) (op : Operator) (t : TIp) : Prop :=
 ∀ (pins : List (Addr × Obj)) (s : Shared) (σ : St) (H : Hp) (x y : V) (v u : Value) (Q : VK),Inv X pins σ H s → RelV x v → RelV y u → t x y H Q →
  wpAny (model X.prog X.w) X.A (inplaceOp op v u) (EP X pins σ Q) X.xe s
section
variable {X : Cx} {pos : Pos}
noncomputable def J3n (i : Nat) : TG:=fun v σ H Q=>Q (σ.set i (some v)) H
theorem JD {i : Nat} {x : Str} (hN : X.N.Nodup) (hi : X.N[i]? = some x) (hx : Loc X.env.scope x) (hf : X.fn x = true ∨ X.env.scope.names.lookup x = some .local:=by first | exact .inl rfl | exact .inr rfl | assumption) : PG X (.Name x pos) (J3n i):=by
 intro pins s σ H v u Q I r h
 exact wpAny_assign_Name (J3V I hN hi hx r (fun s' I'=>⟨_,H,I',h⟩) hf)
noncomputable def gNil : TGs:=fun vs σ H Q=>vs = [] ∧ Q σ H
noncomputable def J9t (t : TG) (u : TGs) : TGs:=fun vs σ H Q=>∃ v r,vs = v :: r ∧ t v σ H fun σ' H'=>u r σ' H' Q
theorem J2l : PGs X [] gNil:=by
 intro pins s σ H vs us Q I r h
 obtain ⟨e,h⟩:=h
 subst e
 cases r
 exact assignInOrder_nil ⟨σ,H,I,h⟩
theorem JY {e : Expr} {es : List Expr} {t : TG} {u : TGs} (h1 : PG X e t) (h2 : PGs X es u)
  (hs : (assignEach (e :: es) X.env).map (·.2) = assign e X.env :: (assignEach es X.env).map (·.2):=by rfl) : PGs X (e :: es) (J9t t u):=by
 intro pins s σ H vs us Q I r h
 obtain ⟨v,vr,e1,h⟩:=h
 subst e1
 cases r with
 | cons r rr =>
  rw [hs]
  refine assignInOrder_cons (thn (h1 pins s σ H _ _ _ I r h) fun _ s1 ⟨σ1,H1,I1,q1⟩=>?_)
  exact h2 pins s1 σ1 H1 _ _ Q I1 rr q1
noncomputable def gTup (K : PySem.W.Frag) (n : Nat) (t : TGs) : TG:=fun v σ H Q=>∃ a xs,v = .ref a ∧ SqT K H a xs ∧ xs.length = n ∧ t xs σ H Q
theorem J33 {es : List Expr} {k : Nat} {t : TGs} {n : Nat} (hc : X.calm = true) (h : PGs X es t)
  (hn : (assignEach es X.env).length = n:=by rfl) (hst : (assignEach es X.env).findIdx? (·.1) = none:=by rfl) : PG X (.Tuple es k pos) (gTup X.K n t):=by
 intro pins s σ H v u Q I r hw
 obtain ⟨a,xs,e1,hq,hl,hw⟩:=hw
 subst e1
 cases r
 obtain ⟨its,rv,ht,hz⟩:=I.tuple hq
 refine assign_Tuple_tuple (I.ok.hd hc) ht (by simp [hn,← hl,rv.length]) hst fun h' hx=>?_
 have I1 : Inv X pins σ H { s with heap:=h' }:=I.kept (t':=s.toks) fun b o e=>hx b o (Nat.ne_of_lt (Heap.lt_size e)) e
 exact h pins _ σ H xs _ Q I1 (by simpa using rv) hw
noncomputable def gSub (to ti : TE) (t : TSet) : TG:=fun v σ H Q=>to σ H fun o H1=>ti σ H1 fun i H2=>t o i v H2 fun H3=>Q σ H3
theorem J6G {o i : Expr} {to ti : TE} {t : TSet} (ho : PE X o to) (hi : PE X i ti) (hs : PSet X t)
  (ha : ∀ v,assign (.Subscript o i pos) X.env v = (do
   let ov ← holding [v] (eval o X.env)
   let iv ← holding [v,ov] (eval i X.env)
   standAt pos
   holding [v,ov,iv] (setItem ov iv v)
   release [v,ov,iv] []):=by intro _; rfl) : PG X (.Subscript o i pos) (gSub to ti t):=by
 intro pins s σ H v u Q I r h
 rw [ha]
 refine wpAny_bind (wpAny_holding (thn (ho pins s σ H _ I h) fun ov s1 ⟨x,H1,I1,r1,q1⟩=>?_))
 refine wpAny_bind (wpAny_holding (thn (hi pins s1 σ H1 _ I1 q1) fun iv s2 ⟨y,H2,I2,r2,q2⟩=>?_))
 refine wpAny_bind (wpAny_standAt (wpAny_bind (wpAny_holding (thn (hs pins s2 σ H2 x y v ov iv u _ I2 r1 r2 r q2) fun _ s3 ⟨H3,I3,q3⟩=>?_))))
 exact wpAny_release ⟨σ,H3,I3,q3⟩
noncomputable def tAsg (te : TE) (g : TG) : TS:=fun D σ H=>te σ H fun x H1=>g x σ H1 D.nx
theorem J5y {tg e : Expr} {te : TE} {g : TG} (he : PE X e te) (hg : PG X tg g) (hs : swapsWithSole [tg] e pos.line X.env = pure false:=by rfl) (hw : swappedStores [tg] e X.env = pure none:=by rfl)
  (h1 : (assignEach [tg] X.env).map (·.2) = [assign tg X.env]:=by rfl) : PS X (.Assign [tg] e pos) (tAsg te g):=by
 intro pins s σ H D I h
 refine wpAny_Assign_stores (thn (he pins s σ H _ I h) fun v s1 ⟨x,H1,I1,r1,q1⟩=>?_) hs hw
 rw [h1]
 exact thn (hg pins s1 σ H1 x v _ I1 r1 q1) fun _ s2 q=>q
theorem Jr {i : Nat} {x : Str} {e : Expr} {te : TE} {pos' : Pos} (hN : X.N.Nodup) (hi : X.N[i]? = some x) (hx : Loc X.env.scope x) (he : PE X e te) (hs : swapsWith e (some (.Name x pos')) pos.line X.env = pure false:=by rfl) (hf : X.fn x = true ∨ X.env.scope.names.lookup x = some .local:=by first | exact .inl rfl | exact .inr rfl | assumption) :
  PS X (.Assign [.Name x pos'] e pos) (tAsg te (J3n i)):=by
 intro pins s σ H D I h
 refine wpAny_Assign_Name (thn (he pins s σ H _ I h) fun v s1 ⟨y,H1,I1,r1,q1⟩=>?_) hs
 exact J3V I1 hN hi hx r1 (fun s2 I2=>⟨_,H1,I2,q1⟩) hf
noncomputable def tAug (i : Nat) (te : TE) (ti : TIp) : TS:=fun D σ H=>∃ x,σ[i]? = some (some x) ∧ te σ H fun y H1=>ti x y H1 fun z H2=>D.nx (σ.set i (some z)) H2
theorem J4k {i : Nat} {x : Str} {e : Expr} {te : TE} {op : Operator} {ti : TIp} {pos' : Pos} (hN : X.N.Nodup) (hi : X.N[i]? = some x) (hx : Loc X.env.scope x) (he : PE X e te) (ho : PIp X op ti) (hf : X.fn x = true ∨ X.env.scope.names.lookup x = some .local:=by first | exact .inl rfl | exact .inr rfl | assumption) :
  PS X (.AugAssign (.Name x pos') op e pos) (tAug i te ti):=by
 intro pins s σ H D I h
 obtain ⟨v,e1,h⟩:=h
 obtain ⟨m,hn,hl⟩:=I.loc
 have vis : Vis X.env.scope x:=by rcases hx with k | k; exact .inl k; exact .inr (.inl k)
 obtain ⟨u,r,l⟩:=hl i x v hi e1 vis
 refine wpAny_AugAssign_Name ?_
 have go : wpAny (model X.prog X.w) X.A (eval e X.env) (fun w s₂=>wpAny (model X.prog X.w) X.A (inplaceOp op u w) (fun r s₃=>wpAny (model X.prog X.w) X.A (storeName X.env x r) (fun _=>SP X pins D .next) X.xe s₃) X.xe s₂) X.xe s:=by
  refine thn (he pins s σ H _ I h) fun w s1 ⟨y,H1,I1,r1,q1⟩=>?_
  refine thn (ho pins s1 σ H1 v y u w _ I1 r r1 q1) fun z s2 ⟨zv,H2,I2,r2,q2⟩=>?_
  exact J3V I2 hN hi hx r2 (fun s3 I3=>⟨_,H2,I3,q2⟩) hf
 rcases l with ⟨hk,hm⟩ | ⟨hk,c,hc,hcell⟩
 ·exact wpAny_loadName_local I.ok.kind hk hn hm go
 ·rcases hk with hk | hk
  ·exact wpAny_loadName_cell I.ok.kind hk hc hcell go
  ·rcases hx with k | k
   ·have : X.env.scope.names.lookup x = some .free:=hk
    rw [k] at this; cases this
   ·have : X.env.scope.names.lookup x = some .free:=hk
    rw [k] at this; cases this
end
section
variable {X : Cx} {pos : Pos}
end
structure It where
 go : Nat → Hp → Prop
 yld : Nat → Hp → V → Hp → Prop
 stop : Nat → Hp → Prop
noncomputable def FpOk (X : Cx) (pins : List (Addr × Obj)) (H : Hp) (b : Addr) : Prop :=
 H b = none ∧ b ≠ X.env.locals ∧ b ∉ X.fs ∧ (b ∈ X.ex ∨ X.s₀.heap.objs.size ≤ b) ∧ (∀ x c,X.env.cells.lookup x = some c → c ≠ b) ∧ ∀ p ∈ X.pn ++ pins,p.1 ≠ b
theorem Inv.fpOk {X : Cx} {pins : List (Addr × Obj)} {σ : St} {H H' : Hp} {s : Shared} {b : Addr} (I : Inv X pins σ H s) (hb : s.heap.objs.size ≤ b) (hn : H' b = none) : FpOk X pins H' b:=by
 refine ⟨hn,Nat.ne_of_gt (Nat.lt_of_lt_of_le I.lt hb),I.nofs hb,.inr (Nat.le_trans I.sz hb),fun x c e z=>?_,fun p hp z=>?_⟩
 ·obtain ⟨v,q⟩:=I.cell x c e
  exact absurd (Nat.lt_of_lt_of_le q.lt (by rw [z]; exact hb)) (Nat.lt_irrefl _)
 ·exact absurd (Nat.lt_of_lt_of_le (Heap.lt_size (I.pin p hp).1) (by rw [z]; exact hb)) (Nat.lt_irrefl _)
structure Turn (P : Program) (w : World) (K : PySem.W.Frag) (tg : Expr) (J : It) (fp : List Addr) (it : Addr) (tn : Nat → Heap → Prop) : Prop where
 mem : it ∈ fp
 obj : ∀ i h,tn i h → ∀ b ∈ fp,∃ o,h.get? b = some o ∧ ∀ v,o.data ≠ .cell v
 keep : ∀ i h h',tn i h → (∀ b ∈ fp,∀ o,h.get? b = some o → h'.get? b = some o) → tn i h'
 item : ∀ (X : Cx),X.prog = P → X.w = w → X.K = K → X.calm = true → ∀ (i : Nat) (pins : List (Addr × Obj)) (s : Shared) (σ : St) (H : Hp) (E : Value → Shared → Prop),Inv X pins σ H s → (∀ b ∈ fp,FpOk X pins H b) → tn i s.heap → J.go i H →
  wpAny (model P w) X.A (pyNext (.ref it)) (fun r s1=>∃ u,r = some u ∧
   wpAny (model P w) X.A (letOwnedTupleGo tg (.ref it) u) (fun _ s2=>∃ x H',Inv X pins σ H' s2 ∧ RelV x u ∧ J.yld i H x H' ∧ tn (i + 1) s2.heap ∧ ∀ b ∈ fp,H' b = none) E s1) E s
 done : ∀ (X : Cx),X.prog = P → X.w = w → X.K = K → X.calm = true → ∀ (i : Nat) (pins : List (Addr × Obj)) (s : Shared) (σ : St) (H : Hp) (E : Value → Shared → Prop),Inv X pins σ H s → (∀ b ∈ fp,FpOk X pins H b) → tn i s.heap → J.stop i H →
  wpAny (model P w) X.A (pyNext (.ref it)) (fun r s1=>r = none ∧ Inv X pins σ H s1) E s
 self : ∀ (A : Around) (i : Nat) (s : Shared) (Q : Value → Shared → Prop) (E : Value → Shared → Prop),tn i s.heap → Q (.ref it) s → wpAny (model P w) A (pyIter (.ref it)) Q E s
noncomputable abbrev TI:=St → Hp → (It → Hp → Prop) → Prop
noncomputable def PIE (X : Cx) (pins : List (Addr × Obj)) (σ : St) (tg : Expr) (R : It → Hp → Prop) (itv : Value) (s2 : Shared) : Prop :=
 ∃ (it : Addr) (fp : List Addr) (tn : Nat → Heap → Prop) (J : It) (H' : Hp),itv = .ref it ∧ Inv X pins σ H' s2 ∧ Turn X.prog X.w X.K tg J fp it tn ∧ tn 0 s2.heap ∧ (∀ b ∈ fp,FpOk X pins H' b) ∧ R J H'
noncomputable def PI (X : Cx) (tg iter : Expr) (wi : TI) : Prop :=
 ∀ (pins : List (Addr × Obj)) (s : Shared) (σ : St) (H : Hp) (R : It → Hp → Prop),Inv X pins σ H s → wi σ H R →
  wpAny (model X.prog X.w) X.A (eval iter X.env) (fun v s1=>wpAny (model X.prog X.w) X.A (pyIter v) (PIE X pins σ tg R) X.xe s1) X.xe s
theorem Jdt {M : Model} {A : Around} {E : Value → Shared → Prop} {s : Shared} {tg : Expr} {it : Addr} {u : Value} {o : Obj} {n : String} {vs : Array Value} {Q : Unit → Shared → Prop} (ho : s.heap.get? it = some o) (hc : o.cls = .type n) (hd : o.data = .fields vs)
    (hn : ["enumerate","zip","dict_itemiterator","dict_reverseitemiterator","odict_iterator","itertools.zip_longest","itertools.pairwise"].contains n = false) (hQ : Q () s) : wpAny M A (letOwnedTupleGo tg (.ref it) u) Q E s:=by
  unfold letOwnedTupleGo
  cases tg <;> first
    | exact wpAny_pure hQ
    | (cases u <;> first
        | exact wpAny_pure hQ
        | (refine wpAny_bind (wpAny_load ho ?_)
           rw [hc,hd]
           show wpAny M A (if (["enumerate","zip","dict_itemiterator","dict_reverseitemiterator","odict_iterator","itertools.zip_longest","itertools.pairwise"].contains n && vs[0]? == some (rawInt _)) = true then _ else _) Q E s
           rw [if_neg (by intro h; rw [hn,Bool.false_and] at h; cases h)]
           exact wpAny_pure hQ))
noncomputable def Itl (K : PySem.W.Frag) (a : Addr) : It :=
 ⟨fun i H=>∃ xs x,SqL K H a xs ∧ xs[i]? = some x,fun i H x H'=>H' = H ∧ ∀ xs,SqL K H a xs → xs[i]? = some x,fun i H=>∃ xs,SqL K H a xs ∧ xs.length ≤ i⟩
noncomputable def Itr (lo : Int) (n : Nat) : It:=⟨fun i _=>i < n,fun i H x H'=>H' = H ∧ x = .int (lo + i),fun i _=>n ≤ i⟩
theorem Jc2 {P : Program} {w : World} {K : PySem.W.Frag} {tg : Expr} (a it : Addr) : Turn P w K tg (Itl K a) [it] it (fun i h=>h.IsListIter it a i) where
 mem:=by simp
 obj:=fun i h st b hb=>by
  have e : b = it:=by simpa using hb
  subst e
  obtain ⟨o,e,c,d⟩:=st
  exact ⟨o,e,fun v z=>by rw [d] at z; cases z⟩
 keep:=fun i h h' st k=>st.at fun o e=>k it (by simp) o e
 item:=by
  intro X hP hw hK hc i pins s σ H E I hf st hg
  subst hP hw hK
  obtain ⟨xs,x,hq,hx⟩:=hg
  obtain ⟨its,rv,p,hz⟩:=I.list hq
  obtain ⟨u,hu,ru⟩:=rv.get hx
  obtain ⟨f0,f1,f2,f3,f4,f5⟩:=hf it (by simp)
  refine wpAny_pyNext_list_item st p.isList (x:=u) (by simpa using hu) fun h' st' sb=>?_
  have I1 : Inv X pins σ H { s with heap:=h' }:=I.turned (t':=s.toks) (fun b o hb e=>(sb.2 b hb).trans e) f0 f1 f3 f4 f5
  obtain ⟨o,e,c,d⟩:=id st'
  exact ⟨u,rfl,Jdt (s:={ s with heap:=h' }) e c d (by decide) ⟨x,H,I1,ru,⟨rfl,fun ys hy=>by rw [I.list_inj hy hq]; exact hx⟩,st',fun b hb=>(hf b hb).1⟩⟩
 done:=by
  intro X hP hw hK hc i pins s σ H E I hf st hg
  subst hP hw hK
  obtain ⟨xs,hq,hx⟩:=hg
  obtain ⟨its,rv,p,hz⟩:=I.list hq
  obtain ⟨f0,f1,f2,f3,f4,f5⟩:=hf it (by simp)
  have hl:=rv.length
  exact wpAny_pyNext_list_end (I.ok.hd hc) st p.isList (by simp; omega) fun h' eb=>⟨rfl,I.turned (t':=s.toks) (fun b o hb e=>eb b o hb e) f0 f1 f3 f4 f5⟩
 self:=fun _ _ _ _ _ st h=>wpAny_pyIter_listiter st h
theorem Jas {P : Program} {w : World} {K : PySem.W.Frag} {tg : Expr} (it : Addr) (lo : Int) (n : Nat) : Turn P w K tg (Itr lo n) [it] it (fun i h=>IsRangeIter h it (lo + (i : Nat) * 1) ((n : Int) - (i : Nat)) 1) where
 mem:=by simp
 obj:=fun i h st b hb=>by
  have e : b = it:=by simpa using hb
  subst e
  exact ⟨_,st,fun v z=>by
   have z' : Data.fields _ = Data.cell v:=z
   cases z'⟩
 keep:=fun i h h' st k=>k it (by simp) _ st
 item:=by
  intro X hP hw hK hc i pins s σ H E I hf st hg
  subst hP hw hK
  obtain ⟨f0,f1,f2,f3,f4,f5⟩:=hf it (by simp)
  have W:=Walks.range (prog:=X.prog) (w:=X.w) (I.ok.hd hc) it lo 1 n
  refine W.item i s _ _ hg st fun v h' tk hv st' kk=>?_
  obtain ⟨t,rfl⟩:=hv
  have I1 : Inv X pins σ H { s with heap:=h',toks:=tk }:=I.turned (fun b o hb e=>kk b o (by simpa using hb) e) f0 f1 f3 f4 f5
  refine ⟨_,rfl,Jdt (s:={ s with heap:=h',toks:=tk }) (n:="range_iterator") st' rfl rfl (by decide) ⟨.int (lo + i),H,I1,⟨t,?_⟩,⟨rfl,rfl⟩,st',fun b hb=>(hf b hb).1⟩⟩
  rw [Int.mul_one]
 done:=by
  intro X hP hw hK hc i pins s σ H E I hf st hg
  subst hP hw hK
  obtain ⟨f0,f1,f2,f3,f4,f5⟩:=hf it (by simp)
  exact wpAny_pyNext_range_end (I.ok.hd hc) st (by have : n ≤ i:=hg; omega) fun h' eb=>⟨rfl,I.turned (t':=s.toks) (fun b o hb e=>eb b o hb e) f0 f1 f3 f4 f5⟩
 self:=fun _ _ _ _ _ st h=>wpAny_pyIter_rangeiter st h
end L2
namespace L2
open PySem PySem.Spec PyProof.Rows
section
variable {X : Cx} {tg : Expr}
noncomputable def Jem (K : PySem.W.Frag) (tl : TE) : TI:=fun σ H R=>tl σ H fun x H1=>∃ a,x = .ref a ∧ (∃ xs,SqL K H1 a xs) ∧ R (Itl K a) H1
theorem JdT {l : Expr} {tl : TE} (hl : PE X l tl) : PI X tg l (Jem X.K tl):=by
 intro pins s σ H R I h
 refine thn (hl pins s σ H _ I h) fun v s1 ⟨x,H1,I1,r1,q1⟩=>?_
 obtain ⟨a,e,⟨xs,hq⟩,q⟩:=q1
 subst e
 cases r1
 obtain ⟨its,rv,p,hz⟩:=I1.list hq
 refine wpAny_pyIter_list p.isList ?_
 refine ⟨s1.heap.objs.size,[s1.heap.objs.size],_,_,H1,rfl,I1.kept (t':=s1.toks) fun b o e=>Heap.get?_push_of_some _ e,Jc2 a _,⟨_,Heap.get?_push_size _ rfl,rfl,rfl⟩,fun b hb=>?_,q⟩
 have e : b = s1.heap.objs.size:=by simpa using hb
 subst e
 exact I1.fpOk (Nat.le_refl _) (I1.hok.fresh (Nat.le_refl _))
theorem JcD {pins : List (Addr × Obj)} {σ : St} {H : Hp} {s : Shared} {R : It → Hp → Prop} {E : Value → Shared → Prop} {lo hi : Int} {t u v : Tok} {tk : Nat} (I : Inv X pins σ H s) (h1 : -(2 ^ 62) ≤ lo) (h2 : lo < 2 ^ 62) (h3 : -(2 ^ 62) ≤ hi) (h4 : hi < 2 ^ 62)
  (q : R (Itr lo (hi - lo).toNat) H) : wpAny (model X.prog X.w) X.A (pyIter (.ref s.heap.objs.size)) (PIE X pins σ tg R) E { s with heap:=s.heap.push { cls:=.type "range",data:=.fields #[.int lo t,.int hi u,.int 1 v] },toks:=tk }:=by
 refine wpAny_pyIter_range (IsRange.new ..) (small_one h1 h2 h3 h4) ?_
 have I1 : Inv X pins σ H { s with heap:=s.heap.push { cls:=.type "range",data:=.fields #[.int lo t,.int hi u,.int 1 v] },toks:=tk }:=I.kept fun b o e=>Heap.get?_push_of_some _ e
 refine ⟨(s.heap.push { cls:=.type "range",data:=.fields #[.int lo t,.int hi u,.int 1 v] }).objs.size,[(s.heap.push { cls:=.type "range",data:=.fields #[.int lo t,.int hi u,.int 1 v] }).objs.size],_,_,H,rfl,
  I1.kept (t':=tk) fun b o e=>Heap.get?_push_of_some _ e,Jas _ lo (hi - lo).toNat,?_,fun b hb=>?_,q⟩
 ·have e1 : lo + ((0 : Nat) : Int) * 1 = lo:=by simp
  have e2 : (((hi - lo).toNat : Nat) : Int) - ((0 : Nat) : Int) = Builtin.Range.rangeSize lo hi 1:=by rw [rangeSize_one]; split <;> omega
  show IsRangeIter _ _ (lo + ((0 : Nat) : Int) * 1) ((((hi - lo).toNat : Nat) : Int) - ((0 : Nat) : Int)) 1
  rw [e1,e2]
  exact Heap.get?_push_size _ rfl
 ·have e : b = (s.heap.push { cls:=.type "range",data:=.fields #[.int lo t,.int hi u,.int 1 v] }).objs.size:=by simpa using hb
  subst e
  exact I1.fpOk (Nat.le_refl _) (I1.hok.fresh (Nat.le_refl _))
noncomputable def Jfu (ta : TA) : TI:=fun σ H R=>ta σ H fun vs H1=>∃ j : Int,vs = [.int j] ∧ -(2 ^ 62) ≤ j ∧ j < 2 ^ 62 ∧ R (Itr 0 j.toNat) H1
theorem J0e {a : Expr} {ta : TA} {p pos : Pos} (hg : Gl X "range") (hm : X.mg "range" = none) (ha : PA X [a] ta) (hs : starEach [a] X.env = [(false,eval a X.env)]:=by rfl) : PI X tg (.Call (.Name "range" p) [a] [] pos) (Jfu ta):=by
 intro pins s σ H R I h
 refine Call_ (J4p I hg hm boot_range (PyProof.Rows.callWith_type1 (thn (ha pos pins s σ H _ I h) fun us s1 ⟨vs,H1,I1,r1,q1⟩=>?_) hs rfl))
 obtain ⟨j,e,q1,q2,q⟩:=q1
 subst e
 cases r1 with
 | cons r rr =>
  cases rr
  obtain ⟨t,rfl⟩:=r
  exact call_range_1 (JcD I1 (by omega) (by omega) q1 q2 (by simpa using q))
noncomputable def tFor (wi : TI) (g : TG) (tb : TS) : TS:=fun D σ H=>wi σ H fun J H1=>∃ W : Nat → Nat → St → Hp → Prop,(∃ m,W 0 m σ H1) ∧ ∀ i m σ H,W i m σ H →
 (J.stop i H ∧ D.nx σ H) ∨ (J.go i H ∧ ∃ N : St → Hp → Prop,(∀ σ' H',N σ' H' → ∃ m',m' < m ∧ W (i + 1) m' σ' H') ∧ ∀ x H',J.yld i H x H' → g x σ H' fun σ2 H2=>tb { D with nx:=N,ct:=N,bk:=D.nx } σ2 H2)
noncomputable def J6y (fp : List Addr) (h : Heap) : List (Addr × Obj):=fp.filterMap fun b=>(h.get? b).map fun o=>(b,o)
theorem J3z {fp : List Addr} {h : Heap} {b : Addr} {o : Obj} (hb : b ∈ fp) (e : h.get? b = some o) : (b,o) ∈ J6y fp h:=List.mem_filterMap.mpr ⟨b,hb,by rw [e]; rfl⟩
theorem JbN {fp : List Addr} {h : Heap} {p : Addr × Obj} (hp : p ∈ J6y fp h) : p.1 ∈ fp ∧ h.get? p.1 = some p.2:=by
 obtain ⟨b,hb,e⟩:=List.mem_filterMap.mp hp
 cases q : h.get? b with
 | none=>rw [q] at e; cases e
 | some o =>
  rw [q] at e
  have e' : (b,o) = p:=Option.some.inj e
  subst e'
  exact ⟨hb,q⟩
theorem Inv.pinned {pins : List (Addr × Obj)} {σ : St} {H : Hp} {s : Shared} {fp : List Addr} (I : Inv X pins σ H s) (hf : ∀ b ∈ fp,FpOk X pins H b) (ho : ∀ b ∈ fp,∃ o,s.heap.get? b = some o ∧ ∀ v,o.data ≠ .cell v) : Inv X (pins ++ J6y fp s.heap) σ H s :=
 I.pins_of fun p hp=>(List.mem_append.mp hp).elim (fun z=>I.pin p (List.mem_append_right _ z)) fun z=>by
  obtain ⟨hb,e⟩:=JbN z
  obtain ⟨f0,f1,f2,_⟩:=hf p.1 hb
  obtain ⟨o,e',d⟩:=ho p.1 hb
  rw [e] at e'; cases e'
  exact ⟨e,f0,f1,f2,d⟩
theorem Inv.unpinned {pins pl : List (Addr × Obj)} {σ : St} {H : Hp} {s : Shared} (I : Inv X (pins ++ pl) σ H s) : Inv X pins σ H s:=I.pins_of fun p hp=>I.pin p (List.mem_append_right _ (List.mem_append_left _ hp))
theorem J0I {iter : Expr} {body : List Stmt} {wi : TI} {g : TG} {tb : TS} {pos : Pos} (hp : PassesOwn (model X.prog X.w) X.A X.env X.xe) (hc : X.calm = true) (hi : PI X tg iter wi) (hg : PG X tg g) (hb : PSs X body tb)
  (hs : ∀ x,foldedSetIterable iter X.env x = pure x:=by intro _; rfl) : PS X (.For tg iter body [] pos) (tFor wi g tb):=by
 intro pins s σ H D I h
 refine wpAny_For (thn (hi pins s σ H _ I h) fun v s1 h1=>thn h1 fun itv s2 h2=>?_) hs
 obtain ⟨it,fp,tn,J,H2,e,I2,T,st2,f2,W,⟨m0,w0⟩,turn⟩:=h2
 subst e
 have stat : ∀ {H' : Hp},(∀ b ∈ fp,H' b = none) → ∀ b ∈ fp,FpOk X pins H' b:=fun hn b hb=>⟨hn b hb,(f2 b hb).2⟩
 refine codeAny_forLoop_any (fun n s'=>∃ i σ' H',Inv X pins σ' H' s' ∧ tn i s'.heap ∧ (∀ b ∈ fp,H' b = none) ∧ W i n σ' H') ?_ m0 ⟨0,σ,H2,I2,st2,fun b hb=>(f2 b hb).1,w0⟩
 rintro n s3 ⟨i,σ3,H3,I3,st3,fr3,w3⟩
 rcases turn i n σ3 H3 w3 with ⟨stop,qn⟩ | ⟨go,N,hN,step⟩
 ·refine wpAny_passesOwn hp (thn (T.done X rfl rfl rfl hc i pins s3 σ3 H3 X.xe I3 (stat fr3) st3 stop) fun r s4 ⟨hr,I4⟩=>?_)
  subst hr
  exact wpAny_execs_nil ⟨σ3,H3,I4,qn⟩
 ·refine wpAny_passesOwn hp (thn (T.item X rfl rfl rfl hc i pins s3 σ3 H3 X.xe I3 (stat fr3) st3 go) fun r s4 ⟨u,hr,h4⟩=>?_)
  subst hr
  refine wpAny_passesOwn hp (thn h4 fun _ s5 ⟨x,H5,I5,r5,y5,st5,fr5⟩=>?_)
  have I5':=I5.pinned (stat fr5) (T.obj _ _ st5)
  refine wpAny_passesOwn hp (thn (hg _ s5 σ3 H5 x u _ I5' r5 (step x H5 y5)) fun _ s6 ⟨σ6,H6,I6,q6⟩=>?_)
  refine wpAny_passesOwn hp (thn (hb _ s6 σ6 H6 _ I6 q6) fun f s7 q7=>?_)
  have again : ∀ {σ7 : St} {H7 : Hp},Inv X (pins ++ J6y fp s5.heap) σ7 H7 s7 → N σ7 H7 → ∃ m,m < n ∧ ∃ i σ' H',Inv X pins σ' H' s7 ∧ tn i s7.heap ∧ (∀ b ∈ fp,H' b = none) ∧ W i m σ' H':=fun {σ7 H7} I7 n7=>by
   obtain ⟨m',hm,w7⟩:=hN σ7 H7 n7
   refine ⟨m',hm,i + 1,σ7,H7,I7.unpinned,T.keep _ _ _ st5 fun b hb o e=>(I7.pin (b,o) (List.mem_append_right _ (List.mem_append_right _ (J3z hb e)))).1,fun b hb=>?_,w7⟩
   obtain ⟨o,e,d⟩:=T.obj _ _ st5 b hb
   exact (I7.pin (b,o) (List.mem_append_right _ (List.mem_append_right _ (J3z hb e)))).2.1
  cases f with
  | next=>obtain ⟨σ7,H7,I7,n7⟩:=q7; exact again I7 n7
  | cont=>obtain ⟨σ7,H7,I7,n7⟩:=q7; exact again I7 n7
  | brk=>obtain ⟨σ7,H7,I7,q7⟩:=q7; exact ⟨σ7,H7,I7.unpinned,q7⟩
  | ret v=>obtain ⟨x7,σ7,H7,I7,r7,q7⟩:=q7; exact ⟨x7,σ7,H7,I7.unpinned,r7,q7⟩
end
theorem J4K {K : PySem.W.Frag} {a : Addr} {xs : List V} {g : TG} {tb : TS} {D : Ends} {σ : St} {H : Hp} (Pv : Nat → St → Hp → Prop) (h0 : Pv 0 σ H) (hl : ∀ i σ H,i ≤ xs.length → Pv i σ H → SqL K H a xs)
  (hs : ∀ i x σ H,xs[i]? = some x → Pv i σ H → g x σ H fun σ2 H2=>tb { D with nx:=Pv (i + 1),ct:=Pv (i + 1),bk:=D.nx } σ2 H2) (hd : ∀ σ H,Pv xs.length σ H → D.nx σ H) :
  ∃ W : Nat → Nat → St → Hp → Prop,(∃ m,W 0 m σ H) ∧ ∀ i m σ H,W i m σ H →
   ((Itl K a).stop i H ∧ D.nx σ H) ∨ ((Itl K a).go i H ∧ ∃ N : St → Hp → Prop,(∀ σ' H',N σ' H' → ∃ m',m' < m ∧ W (i + 1) m' σ' H') ∧ ∀ x H',(Itl K a).yld i H x H' → g x σ H' fun σ2 H2=>tb { D with nx:=N,ct:=N,bk:=D.nx } σ2 H2):=by
 refine ⟨fun i m σ H=>m = xs.length - i ∧ i ≤ xs.length ∧ Pv i σ H,⟨xs.length,by simp,Nat.zero_le _,h0⟩,?_⟩
 rintro i m σ H ⟨rfl,hi,p⟩
 have q:=hl i σ H hi p
 by_cases hlt : i < xs.length
 ·refine .inr ⟨⟨xs,xs[i],q,by simp [hlt]⟩,Pv (i + 1),fun σ' H' p'=>⟨xs.length - (i + 1),by omega,rfl,hlt,p'⟩,fun x H' y=>?_⟩
  obtain ⟨e,y⟩:=y
  subst e
  exact hs i x σ _ (y xs q) p
 ·have e : i = xs.length:=by omega
  subst e
  exact .inl ⟨⟨xs,q,Nat.le_refl _⟩,hd σ H p⟩
theorem J14 {lo : Int} {n : Nat} {g : TG} {tb : TS} {D : Ends} {σ : St} {H : Hp} (Pv : Nat → St → Hp → Prop) (h0 : Pv 0 σ H)
  (hs : ∀ i σ H,i < n → Pv i σ H → g (.int (lo + i)) σ H fun σ2 H2=>tb { D with nx:=Pv (i + 1),ct:=Pv (i + 1),bk:=D.nx } σ2 H2) (hd : ∀ σ H,Pv n σ H → D.nx σ H) :
  ∃ W : Nat → Nat → St → Hp → Prop,(∃ m,W 0 m σ H) ∧ ∀ i m σ H,W i m σ H →
   ((Itr lo n).stop i H ∧ D.nx σ H) ∨ ((Itr lo n).go i H ∧ ∃ N : St → Hp → Prop,(∀ σ' H',N σ' H' → ∃ m',m' < m ∧ W (i + 1) m' σ' H') ∧ ∀ x H',(Itr lo n).yld i H x H' → g x σ H' fun σ2 H2=>tb { D with nx:=N,ct:=N,bk:=D.nx } σ2 H2):=by
 refine ⟨fun i m σ H=>m = n - i ∧ i ≤ n ∧ Pv i σ H,⟨n,by simp,Nat.zero_le _,h0⟩,?_⟩
 rintro i m σ H ⟨rfl,hi,p⟩
 by_cases hlt : i < n
 ·refine .inr ⟨hlt,Pv (i + 1),fun σ' H' p'=>⟨n - (i + 1),by omega,rfl,hlt,p'⟩,fun x H' y=>?_⟩
  obtain ⟨e,y⟩:=y
  subst e y
  exact hs i σ _ hlt p
 ·have e : i = n:=by omega
  subst e
  exact .inl ⟨Nat.le_refl _,hd σ H p⟩
end L2
namespace L2
open PySem PySem.Spec PyProof.Rows
noncomputable abbrev R2:=V → V → Hp → VK → Prop
noncomputable def OpR (X : Cx) (f : Value → Value → Sem Value) (r : R2) : Prop :=
 ∀ (pins : List (Addr × Obj)) (s : Shared) (σ : St) (H : Hp) (x y : V) (v u : Value) (Q : VK),Inv X pins σ H s → RelV x v → RelV y u → r x y H Q →
  wpAny (model X.prog X.w) X.A (f v u) (EP X pins σ Q) X.xe s
noncomputable def UnR (X : Cx) (f : Value → Sem Value) (r : V → Hp → VK → Prop) : Prop :=
 ∀ (pins : List (Addr × Obj)) (s : Shared) (σ : St) (H : Hp) (x : V) (v : Value) (Q : VK),Inv X pins σ H s → RelV x v → r x H Q →
  wpAny (model X.prog X.w) X.A (f v) (EP X pins σ Q) X.xe s
noncomputable def J2n (X : Cx) (f : Value) (r : List V → Hp → VK → Prop) : Prop :=
 ∀ (pins : List (Addr × Obj)) (s : Shared) (σ : St) (H : Hp) (xs : List V) (us : List Value) (Q : VK),Inv X pins σ H s → Vals xs us → r xs H Q →
  wpAny (model X.prog X.w) X.A (call f us) (EP X pins σ Q) X.xe s
noncomputable def TruR (X : Cx) (r : V → Hp → (Bool → Hp → Prop) → Prop) : Prop :=
 ∀ (pins : List (Addr × Obj)) (s : Shared) (σ : St) (H : Hp) (x : V) (v : Value) (Q : Bool → Hp → Prop),Inv X pins σ H s → RelV x v → r x H Q →
  wpAny (model X.prog X.w) X.A (truthy v) (TP X pins σ Q) X.xe s
noncomputable def tOp (r : R2) (ta tb : TE) : TE:=fun σ H Q=>ta σ H fun x H1=>tb σ H1 fun y H2=>r x y H2 Q
noncomputable def tUn (r : V → Hp → VK → Prop) (ta : TE) : TE:=fun σ H Q=>ta σ H fun x H1=>r x H1 Q
noncomputable def rI (C : Int → Int → Prop) (g : Int → Int → V) : R2:=fun x y H Q=>∃ i j,x = .int i ∧ y = .int j ∧ C i j ∧ Q (g i j) H
noncomputable def rI0 (g : Int → Int → V) : R2:=fun x y H Q=>∃ i j,x = .int i ∧ y = .int j ∧ Q (g i j) H
noncomputable def rU (g : Int → V) : V → Hp → VK → Prop:=fun x H Q=>∃ i,x = .int i ∧ Q (g i) H
section
variable {X : Cx} {a b c : Expr} {ta tb tc : TE} {pos : Pos}
theorem binT (ha : PE X a ta) (hb : PE X b tb) {pins : List (Addr × Obj)} {s : Shared} {σ : St} {H : Hp} {R : V → V → Hp → Prop} (I : Inv X pins σ H s)
  (h : ta σ H fun x H1=>tb σ H1 fun y H2=>R x y H2) {Q : Value → Shared → Prop} {f : Value → Value → Sem Value}
  (hf : ∀ v u s2 x y H2,Inv X pins σ H2 s2 → RelV x v → RelV y u → R x y H2 → wpAny (model X.prog X.w) X.A (f v u) Q X.xe s2) :
  wpAny (model X.prog X.w) X.A (eval a X.env) (fun v s₁=>wpAny (model X.prog X.w) X.A (eval b X.env) (fun u s₂=>wpAny (model X.prog X.w) X.A (f v u) Q X.xe s₂) X.xe s₁) X.xe s:=by
 refine thn (ha pins s σ H _ I h) fun v s1 ⟨x,H1,I1,r1,q1⟩=>?_
 refine thn (hb pins s1 σ H1 _ I1 q1) fun u s2 ⟨y,H2,I2,r2,q2⟩=>?_
 exact hf v u s2 x y H2 I2 r1 r2 q2
theorem Jq {op : Operator} {r : R2} (ho : OpR X (binaryOp op) r) (ha : PE X a ta) (hb : PE X b tb) : PE X (.BinOp a op b pos) (tOp r ta tb):=by
 intro pins s σ H Q I h
 exact wpAny_BinOp (binT ha hb I h fun v u s2 x y H2 I2 rx ry q=>ho pins s2 σ H2 x y v u Q I2 rx ry q)
theorem JfX {op : UnaryOp} {r : V → Hp → VK → Prop} (ho : UnR X (unaryOp op) r) (ha : PE X a ta) : PE X (.UnaryOp op a pos) (tUn r ta):=by
 intro pins s σ H Q I h
 exact UnaryOp_ (thn (ha pins s σ H _ I h) fun v s1 ⟨x,H1,I1,r1,q1⟩=>ho pins s1 σ H1 x v Q I1 r1 q1)
theorem opI {f : Value → Value → Sem Value} {C : Int → Int → Prop} {g : Int → Int → Int}
  (rule : ∀ (i j : Int) (t u : Tok) (s : Shared) (Q : Value → Shared → Prop) (E : Value → Shared → Prop),C i j → Q (.int (g i j) s.toks) { s with toks:=s.toks + 1 } → wpAny (model X.prog X.w) X.A (f (.int i t) (.int j u)) Q E s) :
  OpR X f (rI C fun i j=>.int (g i j)):=by
 intro pins s σ H x y v u Q I rx ry h
 obtain ⟨i,j,rfl,rfl,hc,q⟩:=h
 obtain ⟨t,rfl⟩:=rx
 obtain ⟨t',rfl⟩:=ry
 exact rule i j t t' s _ _ hc ⟨.int (g i j),H,I.tok _,⟨_,rfl⟩,q⟩
theorem opI0 {f : Value → Value → Sem Value} {g : Int → Int → Int}
  (rule : ∀ (i j : Int) (t u : Tok) (s : Shared) (Q : Value → Shared → Prop) (E : Value → Shared → Prop),Q (.int (g i j) s.toks) { s with toks:=s.toks + 1 } → wpAny (model X.prog X.w) X.A (f (.int i t) (.int j u)) Q E s) :
  OpR X f (rI0 fun i j=>.int (g i j)):=by
 intro pins s σ H x y v u Q I rx ry h
 obtain ⟨i,j,rfl,rfl,q⟩:=h
 obtain ⟨t,rfl⟩:=rx
 obtain ⟨t',rfl⟩:=ry
 exact rule i j t t' s _ _ ⟨.int (g i j),H,I.tok _,⟨_,rfl⟩,q⟩
theorem opB0 {f : Value → Value → Sem Value} {g : Int → Int → Bool}
  (rule : ∀ (i j : Int) (t u : Tok) (s : Shared) (Q : Value → Shared → Prop) (E : Value → Shared → Prop),Q (.bool (g i j)) s → wpAny (model X.prog X.w) X.A (f (.int i t) (.int j u)) Q E s) :
  OpR X f (rI0 fun i j=>.bl (g i j)):=by
 intro pins s σ H x y v u Q I rx ry h
 obtain ⟨i,j,rfl,rfl,q⟩:=h
 obtain ⟨t,rfl⟩:=rx
 obtain ⟨t',rfl⟩:=ry
 exact rule i j t t' s _ _ ⟨.bl (g i j),H,I,rfl,q⟩
noncomputable def CDiv (i j : Int) : Prop:=0 < j ∧ j < 1073741824
noncomputable def CPow (i j : Int) : Prop:=0 ≤ j ∧ j ≤ 1000000 ∧ i.natAbs < 2 ^ 64
noncomputable def CMul (i j : Int) : Prop:=(-(2 ^ 64) < i ∧ i < 2 ^ 64) ∨ (-(2 ^ 64) < j ∧ j < 2 ^ 64)
theorem CMul.ok {i j : Int} (h : CMul i j) : IntMulOk i j:=by
 rcases h with ⟨h1,h2⟩ | ⟨h1,h2⟩
 ·exact .of_left (intBits_le_64 h1 h2)
 ·exact .of_right (intBits_le_64 h1 h2)
theorem JaI (k : Nat) : (0 : Int) ≤ 2 ^ k:=by
 rw [two_pow_cast]
 exact Int.natCast_nonneg _
theorem JU : OpR X (binaryOp .Add) (rI0 fun i j=>.int (i + j)):=opI0 fun _ _ _ _ _ _ _ q=>add_int q
theorem JaN : OpR X (binaryOp .Sub) (rI0 fun i j=>.int (i - j)):=opI0 fun _ _ _ _ _ _ _ q=>sub_int q
theorem J32 : OpR X (binaryOp .Mult) (rI CMul fun i j=>.int (i * j)):=opI fun _ _ _ _ _ _ _ hc q=>mul_int q hc.ok
theorem JW : OpR X (binaryOp .FloorDiv) (rI CDiv fun i j=>.int (i / j)):=opI fun i j _ _ _ _ _ hc q=>by
 have h1 : (0 : Int) < j:=hc.1
 have h2 : j < 1073741824:=hc.2
 exact floordiv_int (by omega) (by rw [Int.fdiv_eq_ediv_of_nonneg i (by omega)]; exact q) (.inl (PyProof.noPylong_small (by omega)))
theorem JK : OpR X (binaryOp .Mod) (rI (fun _ j=>0 < j) fun i j=>.int (i % j)):=opI fun i j _ _ _ _ _ hc q=>by
 have h1 : (0 : Int) < j:=hc
 exact mod_int' (by omega) (by rw [Int.fmod_eq_emod_of_nonneg i (by omega)]; exact q)
theorem JcI : OpR X (binaryOp .Pow) (rI CPow fun i j=>.int (i ^ j.toNat)):=opI fun _ _ _ _ _ _ _ hc q=>pow_int_small hc.1 hc.2.1 hc.2.2 q
theorem Jcu : OpR X (binaryOp .RShift) (rI (fun _ j=>0 ≤ j) fun i j=>.int (i / 2 ^ j.toNat)):=opI fun i j _ _ _ _ _ hc q =>
 rshift_int hc (by rw [Int.fdiv_eq_ediv_of_nonneg i (JaI _)]; exact q)
theorem Jd3 : OpR X (binaryOp .BitAnd) (rI0 fun i j=>.int (Builtin.bitAnd i j)):=opI0 fun _ _ _ _ _ _ _ q=>and_int q
theorem unI {f : Value → Sem Value} {g : Int → Int}
  (rule : ∀ (i : Int) (t : Tok) (s : Shared) (Q : Value → Shared → Prop) (E : Value → Shared → Prop),Q (.int (g i) s.toks) { s with toks:=s.toks + 1 } → wpAny (model X.prog X.w) X.A (f (.int i t)) Q E s) :
  UnR X f (rU fun i=>.int (g i)):=by
 intro pins s σ H x v Q I rx h
 obtain ⟨i,rfl,q⟩:=h
 obtain ⟨t,rfl⟩:=rx
 exact rule i t s _ _ ⟨.int (g i),H,I.tok _,⟨_,rfl⟩,q⟩
theorem JeY : UnR X (unaryOp .USub) (rU fun i=>.int (-i)):=unI fun _ _ _ _ _ q=>neg_int q
end
noncomputable def scal : V → V → Bool
 | .non,.non=>true | .non,.int _=>true | .int _,.non=>true | .non,.bl _=>true | .bl _,.non=>true | .non,.str _=>true | .str _,.non=>true
 | .int _,.int _=>true | .bl _,.bl _=>true | .str _,.str _=>true | .byt _,.byt _=>true
 | .int _,.str _=>true | .str _,.int _=>true | .bl _,.str _=>true | .str _,.bl _=>true
 | _,_=>false
noncomputable def rEq : R2:=fun x y H Q=>scal x y = true ∧ Q (.bl (decide (x = y))) H
noncomputable def rNe : R2:=fun x y H Q=>scal x y = true ∧ Q (.bl (!decide (x = y))) H
theorem Jbn {i j : Int} : decide (V.int i = V.int j) = (i == j):=by
 rw [Bool.eq_iff_iff]
 simp
theorem Jdb {i j : Bool} : decide (V.bl i = V.bl j) = (i == j):=by
 rw [Bool.eq_iff_iff]
 simp
theorem Jbd {i j : Str} : decide (V.str i = V.str j) = (i == j):=by
 rw [Bool.eq_iff_iff]
 simp
theorem Jbc {i j : Array UInt8} : decide (V.byt i = V.byt j) = (i.toList == j.toList):=by
 rw [Bool.eq_iff_iff]
 cases i
 cases j
 simp
section
variable {X : Cx} {a b c : Expr} {ta tb tc : TE} {pos : Pos}
theorem JZ {pins : List (Addr × Obj)} {σ : St} {H : Hp} {s : Shared} {Q : VK} {k k' : Bool} (I : Inv X pins σ H s) (q : Q (.bl k) H) (e : k = k') : EP X pins σ Q (.bool k') s:=by
 subst e
 exact ⟨.bl k,H,I,rfl,q⟩
theorem J0j : OpR X (compareOp .Eq) rEq:=by
 intro pins s σ H x y v u Q I rx ry h
 obtain ⟨hs,q⟩:=h
 cases x with
 | non =>
  cases rx
  cases y with
  | non=>cases ry; exact PySem.EqNone.eq_none_none (JZ I q (by simp))
  | bl j=>cases ry; exact PySem.EqNone.eq_none_bool (JZ I q (by simp))
  | int j=>obtain ⟨t',rfl⟩:=ry; exact PySem.EqNone.eq_none_int (JZ I q (by simp))
  | str j=>obtain ⟨t',rfl⟩:=ry; exact PySem.EqNone.eq_none_str (JZ I q (by simp))
  | _=>exact absurd (show false = true from hs) Bool.false_ne_true
 | bl i =>
  cases rx
  cases y with
  | non=>cases ry; exact PySem.EqNone.eq_bool_none (JZ I q (by simp))
  | bl j=>cases ry; exact eq_bool (JZ I q Jdb)
  | str j=>obtain ⟨t',rfl⟩:=ry; exact PySem.EqMixed.eq_bool_str (JZ I q (by simp))
  | _=>exact absurd (show false = true from hs) Bool.false_ne_true
 | int i =>
  obtain ⟨t,rfl⟩:=rx
  cases y with
  | non=>cases ry; exact PySem.EqNone.eq_int_none (JZ I q (by simp))
  | int j=>obtain ⟨t',rfl⟩:=ry; exact eq_int (JZ I q Jbn)
  | str j=>obtain ⟨t',rfl⟩:=ry; exact PySem.EqMixed.eq_int_str (JZ I q (by simp))
  | _=>exact absurd (show false = true from hs) Bool.false_ne_true
 | str i =>
  obtain ⟨t,rfl⟩:=rx
  cases y with
  | non=>cases ry; exact PySem.EqNone.eq_str_none (JZ I q (by simp))
  | bl j=>cases ry; exact PySem.EqMixed.eq_str_bool (JZ I q (by simp))
  | int j=>obtain ⟨t',rfl⟩:=ry; exact PySem.EqMixed.eq_str_int (JZ I q (by simp))
  | str j=>obtain ⟨t',rfl⟩:=ry; exact eq_str (JZ I q Jbd)
  | _=>exact absurd (show false = true from hs) Bool.false_ne_true
 | byt i =>
  obtain ⟨t,rfl⟩:=rx
  cases y with
  | byt j=>obtain ⟨t',rfl⟩:=ry; exact PySem.W.eq_bytes (JZ I q Jbc)
  | _=>exact absurd (show false = true from hs) Bool.false_ne_true
 | _=>cases y <;> exact absurd (show false = true from hs) Bool.false_ne_true
theorem J6T : OpR X (compareOp .NotEq) rNe:=by
 intro pins s σ H x y v u Q I rx ry h
 obtain ⟨hs,q⟩:=h
 cases x with
 | non =>
  cases rx
  cases y with
  | non=>cases ry; exact PySem.EqNone.ne_none_none (JZ I q (by simp))
  | bl j=>cases ry; exact PySem.EqNone.ne_none_bool (JZ I q (by simp))
  | int j=>obtain ⟨t',rfl⟩:=ry; exact PySem.EqNone.ne_none_int (JZ I q (by simp))
  | str j=>obtain ⟨t',rfl⟩:=ry; exact PySem.EqNone.ne_none_str (JZ I q (by simp))
  | _=>exact absurd (show false = true from hs) Bool.false_ne_true
 | bl i =>
  cases rx
  cases y with
  | non=>cases ry; exact PySem.EqNone.ne_bool_none (JZ I q (by simp))
  | bl j=>cases ry; exact ne_bool (JZ I q (congrArg not Jdb))
  | str j=>obtain ⟨t',rfl⟩:=ry; exact PySem.EqMixed.ne_bool_str (JZ I q (by simp))
  | _=>exact absurd (show false = true from hs) Bool.false_ne_true
 | int i =>
  obtain ⟨t,rfl⟩:=rx
  cases y with
  | non=>cases ry; exact PySem.EqNone.ne_int_none (JZ I q (by simp))
  | int j=>obtain ⟨t',rfl⟩:=ry; exact ne_int (JZ I q (congrArg not Jbn))
  | str j=>obtain ⟨t',rfl⟩:=ry; exact PySem.EqMixed.ne_int_str (JZ I q (by simp))
  | _=>exact absurd (show false = true from hs) Bool.false_ne_true
 | str i =>
  obtain ⟨t,rfl⟩:=rx
  cases y with
  | non=>cases ry; exact PySem.EqNone.ne_str_none (JZ I q (by simp))
  | bl j=>cases ry; exact PySem.EqMixed.ne_str_bool (JZ I q (by simp))
  | int j=>obtain ⟨t',rfl⟩:=ry; exact PySem.EqMixed.ne_str_int (JZ I q (by simp))
  | str j=>obtain ⟨t',rfl⟩:=ry; exact ne_str (JZ I q (congrArg not Jbd))
  | _=>exact absurd (show false = true from hs) Bool.false_ne_true
 | byt i =>
  obtain ⟨t,rfl⟩:=rx
  cases y with
  | byt j=>obtain ⟨t',rfl⟩:=ry; exact PySem.W.ne_bytes (JZ I q (congrArg not Jbc))
  | _=>exact absurd (show false = true from hs) Bool.false_ne_true
 | _=>cases y <;> exact absurd (show false = true from hs) Bool.false_ne_true
theorem J7M : OpR X (compareOp .Lt) (rI0 fun i j=>.bl (decide (i < j))):=opB0 fun _ _ _ _ _ _ _ q=>lt_int q
theorem J7E : OpR X (compareOp .Gt) (rI0 fun i j=>.bl (decide (j < i))):=opB0 fun _ _ _ _ _ _ _ q=>gt_int q
theorem JfQ : OpR X (compareOp .GtE) (rI0 fun i j=>.bl (decide (j ≤ i))):=opB0 fun _ _ _ _ _ _ _ q=>ge_int q
theorem Jc9 : OpR X (compareOp .In) (fun x y H Q=>∃ i j,x = .str i ∧ y = .str j ∧ Q (.bl (!(Builtin.Str.occurrences j i 0 j.length 1).isEmpty)) H):=by
 intro pins s σ H x y v u Q I rx ry h
 obtain ⟨i,j,rfl,rfl,q⟩:=h
 obtain ⟨t,rfl⟩:=rx
 obtain ⟨t',rfl⟩:=ry
 exact in_str (JZ I q rfl)
theorem Jcr : OpR X (compareOp .Is) (fun x y H Q=>y = .non ∧ Q (.bl (decide (x = .non))) H):=by
 intro pins s σ H x y v u Q I rx ry h
 obtain ⟨rfl,q⟩:=h
 cases ry
 refine is_none_gen (JZ I q ?_)
 cases x <;> first
  | (cases rx; rfl)
  | (obtain ⟨t,rfl⟩:=rx; rfl)
theorem J8K : OpR X (compareOp .NotIn) (fun x y H Q=>∃ i j,x = .str i ∧ y = .str j ∧ Q (.bl (!(!(Builtin.Str.occurrences j i 0 j.length 1).isEmpty))) H):=by
 intro pins s σ H x y v u Q I rx ry h
 obtain ⟨i,j,rfl,rfl,q⟩:=h
 obtain ⟨t,rfl⟩:=rx
 obtain ⟨t',rfl⟩:=ry
 exact notIn_str (JZ I q rfl)
theorem JA (b : Expr) {op : CmpOp} (h : op ≠ .In:=by decide) (h2 : op ≠ .NotIn:=by decide) : behindInMarks op b = false:=by
 have e1 : (op == CmpOp.In) = false:=by cases op <;> first | rfl | exact absurd rfl h
 have e2 : (op == CmpOp.NotIn) = false:=by cases op <;> first | rfl | exact absurd rfl h2
 cases b <;> simp [behindInMarks,e1,e2]
theorem J3e {op : CmpOp} {r : R2} (ho : OpR X (compareOp op) r) (ha : PE X a ta) (hb : PE X b tb) (hm : behindInMarks op b = false) : PE X (.Compare a [op] [b] pos) (tOp r ta tb):=by
 intro pins s σ H Q I h
 exact wpAny_Compare1 (binT ha hb I h fun v u s2 x y H2 I2 rx ry q=>ho pins s2 σ H2 x y v u Q I2 rx ry q) hm
noncomputable def JfO (t : TE) : TT:=fun σ H Q=>t σ H fun x H'=>∃ k,x = .bl k ∧ Q k H'
theorem Jw {op : CmpOp} {r : R2} (ho : OpR X (compareOp op) r) (ha : PE X a ta) (hb : PE X b tb) (hm : behindInMarks op b = false) : PT X (.Compare a [op] [b] pos) (JfO (tOp r ta tb)):=by
 intro pins s σ H Q I h
 refine wpAny_isTrue_Compare1 (thn (ha pins s σ H _ I h) fun v s1 ⟨x,H1,I1,r1,q1⟩=>thn (hb pins s1 σ H1 _ I1 q1) fun u s2 ⟨y,H2,I2,r2,q2⟩ =>
  thn (ho pins s2 σ H2 x y v u _ I2 r1 r2 q2) fun c s3 ⟨z,H3,I3,r3,k,e,q3⟩=>?_) hm
 subst e
 cases r3
 exact wpAny_truthy_bool ⟨H3,I3,q3⟩
noncomputable def TruV (K : PySem.W.Frag) (x : V) (H : Hp) (k : Bool) : Prop :=
 match x with
 | .non=>k = false
 | .bl b=>k = b
 | .int i=>k = (i != 0)
 | .str y=>y.length ≤ sizeLine ∧ k = ((y.length : Int) != 0)
 | .byt y=>y.size ≤ sizeLine ∧ k = ((y.size : Int) != 0)
 | .ref p=>(∃ xs,SqL K H p xs ∧ k = !xs.isEmpty) ∨ (∃ xs,SqT K H p xs ∧ k = !xs.isEmpty) ∨ ∃ kvs,H p = some (.dK kvs) ∧ k = !kvs.isEmpty
 | _=>False
theorem JaK {κ : Type} {kvs : List (κ × V)} {vs : List (κ × Value)} (r : KV kvs vs) : (!vs.isEmpty) = !kvs.isEmpty:=by
 cases r <;> rfl
theorem J6V {xs : List V} {its : List Value} (r : Vals xs its) : (!its.toArray.isEmpty) = !xs.isEmpty:=by
 cases r <;> simp
theorem J4n : (sizeLine : Nat) < 2 ^ 63:=by rw [sizeLine_eq]; decide
theorem Jfm : TruR X (fun x H Q=>∃ k,TruV X.K x H k ∧ Q k H):=by
 intro pins s σ H x v Q I rx h
 obtain ⟨k,e,q⟩:=h
 have hl:=J4n
 have hs : sizeLine = 16777216:=sizeLine_eq
 cases x with
 | non =>
  cases rx
  have e' : k = false:=e
  subst e'
  exact truthy_none ⟨H,I,q⟩
 | bl b =>
  cases rx
  have e' : k = b:=e
  subst e'
  exact wpAny_truthy_bool ⟨H,I,q⟩
 | int i =>
  obtain ⟨t,rfl⟩:=rx
  have e' : k = (i != 0):=e
  subst e'
  exact PySem.P.truthy_int ⟨H,I,q⟩
 | str y =>
  obtain ⟨t,rfl⟩:=rx
  obtain ⟨hy,e'⟩ : y.length ≤ sizeLine ∧ k = ((y.length : Int) != 0):=e
  subst e'
  exact PySem.P.truthy_str (by omega) ⟨H,I.tok _,q⟩
 | byt y =>
  obtain ⟨t,rfl⟩:=rx
  obtain ⟨hy,e'⟩ : y.size ≤ sizeLine ∧ k = ((y.size : Int) != 0):=e
  subst e'
  exact PySem.W.truthy_bytes (by omega) ⟨H,I.tok _,q⟩
 | ref p =>
  cases rx
  have e' : (∃ xs,SqL X.K H p xs ∧ k = !xs.isEmpty) ∨ (∃ xs,SqT X.K H p xs ∧ k = !xs.isEmpty) ∨ ∃ kvs,H p = some (.dK kvs) ∧ k = !kvs.isEmpty:=e
  rcases e' with ⟨xs,hx,e'⟩ | ⟨xs,hx,e'⟩ | ⟨kvs,hx,e'⟩
  ·subst e'
   obtain ⟨its,r,pl,hz⟩:=I.list hx
   have hlen:=r.length
   exact wpAny_truthy_list pl.isList (by simp only [List.size_toArray]; omega) ⟨H,I.tok _,by rw [J6V r]; exact q⟩
  ·subst e'
   obtain ⟨its,r,pl,hz⟩:=I.tuple hx
   have hlen:=r.length
   exact truthy_tuple pl (by simp only [List.size_toArray]; omega) ⟨H,I.tok _,by rw [J6V r]; exact q⟩
  ·subst e'
   obtain ⟨hz,hS,vs,r,m⟩ : kvs.length ≤ sizeLine ∧ (p == sysModules) = false ∧ ∃ vs,KV kvs vs ∧ s.heap.DictOf (J8Q X.prog X.w) p vs:=I.hok p _ hx
   have hlen : kvs.length = vs.length:=Paired.length r
   exact wpAny_truthy_dict hS m (by omega) ⟨H,I.tok _,by rw [JaK r]; exact q⟩
 | _=>exact (show False from e).elim
theorem Jd1 (ha : PE X a ta) (he : ∀ whole,isTrue a X.env whole = (do let v ← whole; standAt a.pos; holding [v] (truthy v))) :
  PT X a (fun σ H Q=>ta σ H fun x H'=>∃ k,TruV X.K x H' k ∧ Q k H'):=by
 intro pins s σ H Q I h
 exact isTrue_plain (thn (ha pins s σ H _ I h) fun v s1 ⟨x,H1,I1,r1,q1⟩=>Jfm pins s1 σ H1 x v Q I1 r1 q1) (he _)
theorem Jar : OpR X (binaryOp .Add) (fun x y H Q=>∃ i j,x = .str i ∧ y = .str j ∧ i.length + j.length ≤ sizeLine ∧ Q (.str (i ++ j)) H):=by
 intro pins s σ H x y v u Q I rx ry h
 obtain ⟨i,j,rfl,rfl,hz,q⟩:=h
 obtain ⟨t,rfl⟩:=rx
 obtain ⟨t',rfl⟩:=ry
 exact add_str (fun t' tk=>⟨.str (i ++ j),H,I.tok _,⟨_,rfl⟩,q⟩) hz
theorem J9C {x : V} {us : List Value} (r : Vals [x] us) : ∃ u,us = [u] ∧ RelV x u:=by
 cases r with
 | cons r1 r2=>cases r2; exact ⟨_,rfl,r1⟩
theorem Jel {x y : V} {us : List Value} (r : Vals [x,y] us) : ∃ u w',us = [u,w'] ∧ RelV x u ∧ RelV y w':=by
 cases r with
 | cons r1 r2 =>
  cases r2 with
  | cons r3 r4=>cases r4; exact ⟨_,_,rfl,r1,r3⟩
theorem JbX (hc : X.calm = true) : J2n X (.builtin "max") (fun xs H Q=>∃ i j,xs = [.int i,.int j] ∧ Q (.int (if j > i then j else i)) H):=by
 intro pins s σ H xs us Q I r h
 obtain ⟨i,j,rfl,q⟩:=h
 obtain ⟨u,w',rfl,⟨t,rfl⟩,⟨t',rfl⟩⟩:=Jel r
 refine max_two_ints (I.ok.hd hc) fun h' tk k=>⟨_,H,I.kept k,?_,q⟩
 by_cases hj : j > i
 ·rw [if_pos hj,if_pos hj]; exact ⟨_,rfl⟩
 ·rw [if_neg hj,if_neg hj]; exact ⟨_,rfl⟩
theorem JbW (hc : X.calm = true) : J2n X (.builtin "min") (fun xs H Q=>∃ i j,xs = [.int i,.int j] ∧ Q (.int (if j < i then j else i)) H):=by
 intro pins s σ H xs us Q I r h
 obtain ⟨i,j,rfl,q⟩:=h
 obtain ⟨u,w',rfl,⟨t,rfl⟩,⟨t',rfl⟩⟩:=Jel r
 refine min_two_ints (I.ok.hd hc) fun h' tk k=>⟨_,H,I.kept k,?_,q⟩
 by_cases hj : j < i
 ·rw [if_pos hj,if_pos hj]; exact ⟨_,rfl⟩
 ·rw [if_neg hj,if_neg hj]; exact ⟨_,rfl⟩
end
end L2
namespace L2
open PySem PySem.Spec PyProof.Rows
structure ObjM (h : Heap) (x dx C : Addr) (mA : Str → Option Value) : Prop where
 obj : h.get? x = some (PySem.W.instObj C dx)
 ns : h.Ns1 dx mA
 ne : dx ≠ x
theorem J5t {h : Heap} {dx : Addr} {mA : Str → Option Value} (n : h.Ns1 dx mA) : ∃ od,h.get? dx = some od ∧ ∀ name,PySem.W.lookIn name od = some (mA name):=by
 obtain ⟨o,es,ep,ho,hd,hk,_,hm⟩:=n
 refine ⟨o,ho,fun name=>?_⟩
 have e:=hm name
 unfold nsFind findBy at e
 rw [← Array.find?_toList] at e
 unfold PySem.W.lookIn
 rw [hd]
 dsimp only
 split
 ·rename_i y q
  rw [q] at e
  exact congrArg some e
 ·rename_i q
  rw [q] at e
  have a : es.toList.any (·.refKey) = false:=by
   rw [List.any_eq_false]
   intro y hy
   obtain ⟨z,t,hkey⟩:=hk y (Array.mem_toList_iff.mp hy)
   simp [DictEntry.refKey,hkey]
  have a' : ¬ es.toList.any (·.refKey) = true:=by rw [a]; exact Bool.false_ne_true
  rw [if_neg a']
  exact congrArg some e
theorem ObjM.look {h : Heap} {x dx C : Addr} {mA : Str → Option Value} (I : ObjM h x dx C mA) : ∃ od,PySem.W.InstAt h x (PySem.W.instObj C dx) C (some od) ∧ ∀ name,PySem.W.lookIn name od = some (mA name) :=
 let ⟨od,ho,hl⟩:=J5t I.ns
 ⟨od,⟨I.obj,rfl,rfl,ho⟩,hl⟩
section
variable {prog : Program} {w : World} {A : Around} {E : Value → Shared → Prop} {s : Shared} {K : PySem.W.Frag} {x dx C f : Addr} {mA : Str → Option Value} {name : Str} {v : Value}
theorem JdX {expr : Bool} {Q : Value → Shared → Prop} (X : K.In s.heap) (I : ObjM s.heap x dx C mA) (hg : PySem.W.plainGet K C name = true) (hh : PySem.W.hasDictIn K C = true)
  (ha : PySem.W.findIn K (.ref C) name = some none) (hv : mA name = some v) (hv' : PySem.W.handedIn v = true) (h : Q v { s with toks:=s.toks + 1 }) :
  wpAny (model prog w) A (getAttr (.ref x) name expr) Q E s:=by
 obtain ⟨od,J,hl⟩:=I.look
 exact PySem.W.get_value X J (PySem.W.plainGet_of hg).1 (PySem.W.findObj_own hh ha rfl (by rw [hl,hv])) hv' h
theorem Jd4 {pl : Sem Bool} {Q : Value × List Value → Shared → Prop} (X : K.In s.heap) (I : ObjM s.heap x dx C mA) (hg : PySem.W.plainGet K C name = true)
  (hf : PySem.W.findIn K (.ref C) name = some (some (.ref f))) (ht : PySem.W.isFn K (.ref f) = true) (hv : mA name = none) (h : Q (.ref f,[.ref x]) s) :
  wpAny (model prog w) A (getMethod (.ref x) name pl) Q E s:=by
 obtain ⟨od,J,hl⟩:=I.look
 exact PySem.W.method_fn X J (PySem.W.plainGet_of hg).1 (PySem.W.plainGet_of hg).2 hf (beq_iff_eq.mp ht) (by show (PySem.W.lookIn name od).map (·.isSome) = some false; rw [hl,hv]; rfl) h
theorem Jef {ns : List Str} {Q : Unit → Shared → Prop} (X : K.In s.heap) (I : ObjM s.heap x dx C mA)
  (hs : PySem.W.findIn K (.ref C) "__setattr__" = some (some (.builtin "object.__setattr__"))) (hp : PySem.W.plainOver K C = true) (ht : PySem.W.takerIn K C name = some none) (hh : PySem.W.hasDictIn K C = true)
  (hw : PySem.Within mA ns) (hsz : ns.length ≤ sizeLine)
  (h : ∀ h',ObjM h' x dx C (fun y=>if y = name then some v else mA y) → Heap.SameBut dx s.heap h' → Q () { s with heap:=h',toks:=s.toks + 2 }) :
  wpAny (model prog w) A (setAttr (.ref x) name v) Q E s:=by
 obtain ⟨od,J,hl⟩:=I.look
 refine PySem.W.set_plain X J hs (PySem.W.osa_open (s:={ s with toks:=s.toks + 1 }) (r:=none) X J hp ht fun b=>?_)
 obtain ⟨cd,hc,hd'⟩:=PySem.W.any_some hh
 have hx : s.heap.get? x = some ⟨.ref C,some dx,.plain,#[]⟩:=I.obj
 refine wpAny_bind (wpAny_pure (wpAny_bind (wpAny_bind (wpAny_loadPart hx (wpAny_bind (PySem.W.Looks.here (s:={ s with toks:=s.toks + 1 }) (PySem.W.looks_clsIn X hc) ?_))))))
 rw [hd']
 refine wpAny_pure (a:=some dx) (wpAny_bind (wpAny_pure (wpAny_bind ?_)))
 refine wpAny_nsSet1 (s:={ s with toks:=s.toks + 1 }) I.ns fun h' hn2 hs2=>?_
 obtain ⟨oD,esD,epD,hoD,hdD,hcD⟩:=hn2.count (PySem.Within.cons name v hw)
 refine wpAny_bind (wpAny_lookBehind hoD (by rw [hdD]; exact pastItsLine_dict (Nat.le_trans hcD (by rw [List.length_cons]; omega))) ?_)
 exact wpAny_pure (h _ ⟨(hs2.2 _ (Ne.symm I.ne)).trans I.obj,hn2,I.ne⟩ hs2)
theorem Jdk {R : Result → Shared → Prop} {vs : List Value} {kw : List (Str × Value)} (X : K.In s.heap) (hm : PySem.W.makesIn K C = true)
  (hi : PySem.W.findIn K (.ref C) "__init__" = some (some (.ref f))) (hf : PySem.W.typeIn K (.ref f) = some (.type "function"))
  (h : codeAny (model prog w) (A.under (.builtin "type.__call__" ⟨.ref C :: vs,kw⟩)) (.call (.ref f) ⟨.ref (s.heap.objs.size + 1) :: vs,kw⟩) (PySem.W.InitBack (s.heap.objs.size + 1) R)
   {s with heap:=(s.heap.push PySem.W.emptyDict).push (PySem.W.instObj C s.heap.objs.size) }) :
  codeAny (model prog w) A (.call (.ref C) ⟨vs,kw⟩) R s:=by
 obtain ⟨hh,g,d,t,os⟩:=s
 exact PySem.W.make_core (PySem.W.makes_of X hm) (PySem.W.looks_findIn X hi) (fun self=>PySem.W.bind_fn X self hf) (.inl rfl) h
end
noncomputable def putF (f : Str) (v : V) : List (Str × V) → List (Str × V)
 | []=>[(f,v)]
 | (g,x) :: r=>if g = f then (g,v) :: r else (g,x) :: putF f v r
theorem J3U (f g : Str) (v : V) : ∀ fs : List (Str × V),(putF f v fs).lookup g = if g = f then some v else fs.lookup g
 | []=>by
  show List.lookup g [(f,v)] = _
  by_cases h : g = f
  ·have hb : (g == f) = true:=beq_iff_eq.mpr h
   simp only [List.lookup,hb,if_pos h]
  ·have hb : (g == f) = false:=beq_eq_false_iff_ne.mpr h
   simp only [List.lookup,hb,if_neg h]
 | (k,x) :: r=>by
  have ih:=J3U f g v r
  rw [show putF f v ((k,x) :: r) = (if k = f then (k,v) :: r else (k,x) :: putF f v r) from rfl]
  by_cases hk : k = f
  ·rw [if_pos hk]
   by_cases h : g = k
   ·have hb : (g == k) = true:=beq_iff_eq.mpr h
    simp only [List.lookup,hb,if_pos (h.trans hk)]
   ·have hb : (g == k) = false:=beq_eq_false_iff_ne.mpr h
    simp only [List.lookup,hb,if_neg (fun e : g = f=>h (e.trans hk.symm))]
  ·rw [if_neg hk]
   by_cases h : g = k
   ·have hb : (g == k) = true:=beq_iff_eq.mpr h
    simp only [List.lookup,hb,if_neg (fun e : g = f=>hk (h.symm.trans e))]
   ·have hb : (g == k) = false:=beq_eq_false_iff_ne.mpr h
    simp only [List.lookup,hb]
    exact ih
theorem J3l (f : Str) (v : V) : ∀ fs : List (Str × V),f ∈ (putF f v fs).map (·.1) ∧ ∀ g,g ∈ fs.map (·.1) → g ∈ (putF f v fs).map (·.1)
 | []=>⟨by simp [putF],fun g h=>by simp at h⟩
 | (k,x) :: r=>by
  obtain ⟨i1,i2⟩:=J3l f v r
  rw [show putF f v ((k,x) :: r) = (if k = f then (k,v) :: r else (k,x) :: putF f v r) from rfl]
  by_cases hk : k = f
  ·rw [if_pos hk]
   subst hk
   exact ⟨by simp,fun g h=>by simpa using h⟩
  ·rw [if_neg hk]
   refine ⟨?_,fun g h=>?_⟩
   ·rw [List.map_cons]
    exact List.mem_cons_of_mem _ i1
   ·rw [List.map_cons] at h ⊢
    rcases List.mem_cons.mp h with e | e
    ·exact List.mem_cons.mpr (.inl e)
    ·exact List.mem_cons_of_mem _ (i2 g e)
theorem J1F (f : Str) (v : V) : ∀ fs : List (Str × V),(putF f v fs).length ≤ fs.length + 1
 | []=>by simp [putF]
 | (k,x) :: r=>by
  have ih:=J1F f v r
  rw [show putF f v ((k,x) :: r) = (if k = f then (k,v) :: r else (k,x) :: putF f v r) from rfl]
  by_cases hk : k = f
  ·rw [if_pos hk,List.length_cons,List.length_cons]; omega
  ·rw [if_neg hk,List.length_cons,List.length_cons]; omega
theorem RelO.some_of {v : V} {o : Option Value} (r : RelO (some v) o) : ∃ u,o = some u ∧ RelV v u:=by
 cases o with
 | none=>exact (show False from r).elim
 | some u=>exact ⟨u,rfl,r⟩
theorem RelO.none_of {o : Option Value} (r : RelO none o) : o = none:=by
 cases o with
 | none=>rfl
 | some u=>exact (show False from r).elim
theorem J7z {v : V} {u : Value} (r : RelV v u) : PySem.W.handedIn u = true:=by
 cases v with
 | non=>cases (show u = Value.none from r); rfl
 | bl b=>cases (show u = Value.bool b from r); rfl
 | int i=>obtain ⟨t,e⟩:=(show ∃ t,u = Value.int i t from r); cases e; rfl
 | str x=>obtain ⟨t,e⟩:=(show ∃ t,u = Value.str x t from r); cases e; rfl
 | byt b=>obtain ⟨t,e⟩:=(show ∃ t,u = Value.bytes b t from r); cases e; rfl
 | flt b=>obtain ⟨t,e⟩:=(show ∃ t,u = Value.float b t from r); cases e; rfl
 | ref a=>cases (show u = Value.ref a from r); rfl
 | ty n=>cases (show u = Value.type n from r); rfl
section
variable {P : Program} {w : World} {H H' : Hp} {h h' : Heap} {a C dx : Addr} {fs fs' : List (Str × V)}
theorem J8t (hok : HOk P w H h) (e : H a = some (.ins C dx fs)) : ∃ mA,ObjM h a dx C mA ∧ (∀ f,RelO (fs.lookup f) (mA f)) ∧ PySem.Within mA (fs.map (·.1)) ∧ fs.length ≤ 1000 ∧ H dx = some (.own a):=by
 obtain ⟨d,z,ne,ob,mA,n,r,q⟩:=(show J1X P w H h a (.ins C dx fs) from hok a _ e)
 exact ⟨mA,⟨ob,n,ne⟩,r,q,z,d⟩
end
structure Cls (K : PySem.W.Frag) (C : Addr) : Prop where
 pg : PySem.W.plainGet K C Str.empty = true
 hd : PySem.W.hasDictIn K C = true
 po : PySem.W.plainOver K C = true
 sa : PySem.W.findIn K (.ref C) "__setattr__" = some (some (.builtin "object.__setattr__"))
theorem Cls.get {K : PySem.W.Frag} {C : Addr} (c : Cls K C) (f : Str) : PySem.W.plainGet K C f = true:=c.pg
noncomputable def JT (K : PySem.W.Frag) (C : Addr) (f : Str) : Prop:=PySem.W.findIn K (.ref C) f = some none
theorem JT.taker {K : PySem.W.Frag} {C : Addr} {f : Str} (n : JT K C f) : PySem.W.takerIn K C f = some none:=by
 unfold PySem.W.takerIn
 rw [show PySem.W.findIn K (.ref C) f = some none from n]
 rfl
structure Meth (K : PySem.W.Frag) (C : Addr) (m : Str) (f : Addr) : Prop where
 at_ : PySem.W.findIn K (.ref C) m = some (some (.ref f))
 fn : PySem.W.isFn K (.ref f) = true
 kp : PySem.W.keepIn K (.ref f) = true
section
variable {X : Cx} {pins : List (Addr × Obj)} {σ : St} {H : Hp} {s : Shared} {a C dx : Addr} {fs : List (Str × V)} {f : Str} {v : V} {A : Around} {E : Value → Shared → Prop}
theorem JaP {b : Bool} {Q : Value → Shared → Prop} (I : Inv X pins σ H s) (e : H a = some (.ins C dx fs)) (c : Cls X.K C) (n : JT X.K C f) (l : fs.lookup f = some v)
  (h : ∀ u s',Inv X pins σ H s' → RelV v u → Q u s') : wpAny (model X.prog X.w) A (getAttr (.ref a) f b) Q E s:=by
 obtain ⟨mA,O,r,_,_,_⟩:=J8t I.hok e
 obtain ⟨u,hu,ru⟩:=RelO.some_of (v:=v) (o:=mA f) (by rw [← l]; exact r f)
 exact JdX I.kIn O (c.get f) c.hd n hu (J7z ru) (h u _ (I.tok _) ru)
theorem J6H {m : Str} {g : Addr} {pl : Sem Bool} {Q : Value × List Value → Shared → Prop} (I : Inv X pins σ H s) (e : H a = some (.ins C dx fs)) (c : Cls X.K C) (k : Meth X.K C m g) (l : fs.lookup m = none)
  (h : Q (.ref g,[.ref a]) s) : wpAny (model X.prog X.w) A (getMethod (.ref a) m pl) Q E s:=by
 obtain ⟨mA,O,r,_,_,_⟩:=J8t I.hok e
 have hn : mA m = none:=RelO.none_of (by rw [← l]; exact r m)
 exact Jd4 I.kIn O (c.get m) k.at_ k.fn hn h
theorem Jaw {y : V} {u : Value} {Q : Unit → Shared → Prop} (I : Inv X pins σ H s) (e : H a = some (.ins C dx fs)) (c : Cls X.K C) (n : JT X.K C f) (hl : fs.length < 1000) (ry : RelV y u)
  (h : ∀ s',Inv X pins σ (upd H a (.ins C dx (putF f y fs))) s' → Q () s') : wpAny (model X.prog X.w) A (setAttr (.ref a) f u) Q E s:=by
 obtain ⟨mA,O,r,wi,_,ho⟩:=J8t I.hok e
 have hz : (fs.map (·.1)).length ≤ sizeLine:=by rw [List.length_map,sizeLine_eq]; omega
 refine Jef I.kIn O c.sa c.po n.taker c.hd wi hz fun h' O' sb=>h _ ?_
 have hd : ∃ o,h'.get? dx = some o:=let ⟨o,_,_,e',_⟩:=O'.ns; ⟨o,e'⟩
 refine I.write (x:=a) (e:=dx) (by rw [e]; exact True.intro) (.inr ho) (fun b q hb z=>(sb.2 b hb).trans z) hd ?_
 refine ⟨by rw [Jn O.ne]; exact ho,?_,O.ne,O'.obj,_,O'.ns,fun g=>?_,fun g hg=>?_⟩
 ·have:=J1F f y fs; omega
 ·show RelO ((putF f y fs).lookup g) (if g = f then some u else mA g)
  rw [J3U]
  by_cases q : g = f
  ·rw [if_pos q,if_pos q]; exact ry
  ·rw [if_neg q,if_neg q]; exact r g
 ·by_cases q : g = f
  ·rw [q]; exact (J3l f y fs).1
  ·refine (J3l f y fs).2 g (wi g fun z=>hg ?_)
   show (if g = f then some u else mA g) = none
   rw [if_neg q]; exact z
theorem Inv.made (I : Inv X pins σ H s) : Inv X pins σ (upd (upd H s.heap.objs.size (.own (s.heap.objs.size + 1))) (s.heap.objs.size + 1) (.ins C s.heap.objs.size []))
  {s with heap:=(s.heap.push PySem.W.emptyDict).push (PySem.W.instObj C s.heap.objs.size) }:=by
 have e1 : (s.heap.push PySem.W.emptyDict).get? s.heap.objs.size = some PySem.W.emptyDict:=Heap.get?_push_size s.heap rfl
 have e2 : ((s.heap.push PySem.W.emptyDict).push (PySem.W.instObj C s.heap.objs.size)).get? (s.heap.objs.size + 1) = some (PySem.W.instObj C s.heap.objs.size):=by
  have:=Heap.get?_push_size (s.heap.push PySem.W.emptyDict) (o:=PySem.W.instObj C s.heap.objs.size) rfl
  rwa [Heap.size_push] at this
 have e3 : (s.heap.push PySem.W.emptyDict).Ns s.heap.objs.size (fun _=>none):=⟨PySem.W.emptyDict,#[],_,e1,rfl,(fun e he=>absurd he (by simp)),fun _=>rfl⟩
 have I1:=I.laid (a:=s.heap.objs.size) (o:=.own (s.heap.objs.size + 1)) (h':=s.heap.push PySem.W.emptyDict) (t':=s.toks) (fun b u q=>Heap.get?_push_of_some _ q) (Nat.le_refl _) ⟨_,e1⟩
 refine I1.laid (a:=s.heap.objs.size + 1) (o:=.ins C s.heap.objs.size []) (t':=s.toks) (fun b u q=>Heap.get?_push_of_some _ q) (Nat.le_of_eq (Heap.size_push _ _)) ?_
 have ne : s.heap.objs.size ≠ s.heap.objs.size + 1:=Nat.ne_of_lt (Nat.lt_succ_self _)
 refine ⟨by rw [Jn ne,Jd],Nat.zero_le _,ne,e2,fun _=>none,(Heap.Ns1.of_empty e3).at fun o q=>Heap.get?_push_of_some _ q,fun _=>True.intro,fun y hy=>absurd rfl hy⟩
theorem Jbm {prog : Program} {w : World} {env : Env} {e : Expr} {f : Str} {pos : Pos} {s : Shared} {Q : Value → Shared → Prop} (hb : attributeBase e f env (eval e env) = eval e env)
  (h : wpAny (model prog w) A (eval e env) (fun o s₁=>wpAny (model prog w) A (getAttr o f true) Q E s₁) E s) : wpAny (model prog w) A (eval (.Attribute e f pos) env) Q E s :=
 Attribute_any_ h (by rw [arm_eval_Attribute,hb])
end
noncomputable def tFld (K : PySem.W.Frag) (ta : TE) (f : Str) : TE:=fun σ H Q=>ta σ H fun x H1=>∃ a C dx fs v,x = .ref a ∧ H1 a = some (.ins C dx fs) ∧ Cls K C ∧ JT K C f ∧ fs.lookup f = some v ∧ Q v H1
noncomputable def sFld (K : PySem.W.Frag) (ta tv : TE) (f : Str) : TS:=fun D σ H=>tv σ H fun y H1=>ta σ H1 fun x H2=>∃ a C dx fs,x = .ref a ∧ H2 a = some (.ins C dx fs) ∧ Cls K C ∧ JT K C f ∧ fs.length < 1000 ∧
 D.nx σ (upd H2 a (.ins C dx (putF f y fs)))
section
variable {X : Cx} {o e value : Expr} {f : Str} {pos pos' tpos : Pos} {ta tv : TE}
theorem JeL (he : PE X e ta) (hb : attributeBase e f X.env (eval e X.env) = eval e X.env) : PE X (.Attribute e f pos) (tFld X.K ta f):=by
 intro pins s σ H Q I h
 refine Jbm hb (thn (he pins s σ H _ I h) fun u s1 ⟨x,H1,I1,rx,a,C,dx,fs,v,ex,ea,c,n,l,q⟩=>?_)
 subst ex
 obtain rfl : u = Value.ref a:=rx
 exact JaP I1 ea c n l fun u' s2 I2 ru=>⟨v,H1,I2,ru,q⟩
theorem J0r (ha : PE X o ta) (hv : PE X value tv) (hs : swapsWith value (some (.Attribute o f pos')) pos.line X.env = pure false) : PS X (.Assign [.Attribute o f pos'] value pos) (sFld X.K ta tv f):=by
 intro pins s σ H D I h
 refine plainObj_wpAny_Assign_Attribute (thn (hv pins s σ H _ I h) fun u s1 ⟨y,H1,I1,ry,q⟩=>thn (ha pins s1 σ H1 _ I1 q) fun ov s2 ⟨x,H2,I2,rx,a,C,dx,fs,ex,ea,c,n,l,q2⟩=>?_) hs
 subst ex
 obtain rfl : ov = Value.ref a:=rx
 exact Jaw I2 ea c n l ry fun s3 I3=>⟨σ,_,I3,q2⟩
end
section
variable {X : Cx} {pins : List (Addr × Obj)} {σ : St} {H : Hp} {s : Shared} {A : Around} {E : Value → Shared → Prop} {Q : Value → Shared → Prop} {c : Value} {b : Bool}
end
end L2
namespace L2
open PySem PySem.Spec PyProof.Rows
structure Room (k : Nat) (A : Around) : Prop where
 hd : A.handled = none
 dp : A.depth + 3 * k + 5 < recursionLimit
 un : A.units + 16 * k + 200 < cLine
theorem Room.mono {j k : Nat} {A : Around} (r : Room k A) (h : j ≤ k) : Room j A:=⟨r.hd,by have:=r.dp; omega,by have:=r.un; omega⟩
theorem Room.deeper {k : Nat} {A : Around} (r : Room (k + 1) A) (env : Env) : Room k (A.deeper env) :=
 ⟨r.hd,by have:=r.dp; show A.depth + 1 + 3 * k + 5 < _; omega,by have:=r.un; show A.units + 3 + 16 * k + 200 < _; omega⟩
theorem Jaq {A : Around} {C : Addr} {us : List Value} {kw : List (Str × Value)} : (A.under (.builtin "type.__call__" ⟨.ref C :: us,kw⟩)).depth = A.depth + 1:=by
 first | rfl | simp [Around.under,Code.weight,Code.isCreation,Code.isGuard,Code.isCaller,Code.frames,Code.isFrame,guardIds]
theorem Jav {A : Around} {C : Addr} {us : List Value} {kw : List (Str × Value)} : (A.under (.builtin "type.__call__" ⟨.ref C :: us,kw⟩)).units = A.units + 1:=by
 first | rfl | simp [Around.under,Code.cUnits,Code.frames,Code.isFrame]
theorem Room.make {k : Nat} {A : Around} (r : Room (k + 1) A) (C : Addr) (us : List Value) (kw : List (Str × Value)) : Room k (A.under (.builtin "type.__call__" ⟨.ref C :: us,kw⟩)) :=
 ⟨r.hd,by have:=r.dp; rw [Jaq]; omega,by have:=r.un; rw [Jav]; omega⟩
theorem Room.depth {k : Nat} {A : Around} (r : Room k A) : A.depth < recursionLimit:=by have:=r.dp; omega
theorem Room.units {k : Nat} {A : Around} (r : Room k A) : A.units + 64 < cLine:=by have:=r.un; omega
theorem Room.units0 {k : Nat} {A : Around} (r : Room k A) : A.units < cLine:=by have:=r.un; omega
noncomputable def tNil : TA:=fun _ H Q=>Q [] H
noncomputable def JfP (ta : TE) (tr : TA) : TA:=fun σ H Q=>ta σ H fun x H1=>tr σ H1 fun xs H2=>Q (x :: xs) H2
section
variable {X : Cx} {e : Expr} {es : List Expr} {te : TE} {t : TA} {pos : Pos}
theorem J7 : PA X [] tNil:=fun _ _ _ _ H Q I h=>Calls.spliced_nil ⟨[],H,I,.nil,h⟩
theorem J0 (ha : PE X e te) (hr : PA X es t) (hs : starEach (e :: es) X.env = (false,eval e X.env) :: starEach es X.env:=by rfl) : PA X (e :: es) (JfP te t):=by
 intro pos pins s σ H Q I h
 rw [hs]
 show wpAny _ _ (spliced ((false,eval e X.env) :: backTo pos (starEach es X.env))) _ _ s
 refine Calls.spliced_cons (thn (ha pins s σ H _ I h) fun u s1 ⟨x,H1,I1,r1,q1⟩=>?_)
 exact thn (hr pos pins s1 σ H1 _ I1 q1) fun us s2 ⟨xs,H2,I2,r2,q2⟩=>⟨x :: xs,H2,I2,.cons r1 r2,q2⟩
noncomputable def tTup (t : TA) : TE:=fun σ H Q=>t σ H fun xs H1=>xs.length ≤ sizeLine ∧ ∀ p,H1 p = none → Q (.ref p) (upd H1 p (.tup xs))
noncomputable def tLst (t : TA) : TE:=fun σ H Q=>t σ H fun xs H1=>xs.length ≤ sizeLine ∧ ∀ p,H1 p = none → Q (.ref p) (upd H1 p (.lst xs))
theorem J02 {x1} (h : PA X es t) : PE X (.Tuple es x1 pos) (tTup t):=by
 intro pins s σ H Q I hq
 refine wpAny_Tuple_spliced (thn (h pos pins s σ H _ I hq) fun us s1 ⟨xs,H1,I1,r,z,q⟩=>⟨by rw [← r.length]; exact z,?_⟩)
 have hf : H1 s1.heap.objs.size = none:=I1.hok.fresh (Nat.le_refl _)
 refine ⟨.ref s1.heap.objs.size,upd H1 s1.heap.objs.size (.tup xs),I1.laid (t':=s1.toks) (fun b u e=>Heap.get?_push_of_some _ e) (Nat.le_refl _) ?_,rfl,q _ hf⟩
 exact ⟨z,us,r,⟨_,Heap.get?_push_size _ rfl,rfl,_,rfl⟩⟩
theorem J0f (h : PA X es t) : PE X (.List es pos) (tLst t):=by
 intro pins s σ H Q I hq
 refine wpAny_List_spliced (thn (h pos pins s σ H _ I hq) fun us s1 ⟨xs,H1,I1,r,z,q⟩=>⟨by rw [← r.length]; exact z,?_⟩)
 have hf : H1 s1.heap.objs.size = none:=I1.hok.fresh (Nat.le_refl _)
 refine ⟨.ref s1.heap.objs.size,upd H1 s1.heap.objs.size (.lst xs),I1.laid (t':=s1.toks) (fun b u e=>Heap.get?_push_of_some _ e) (Nat.le_refl _) ?_,rfl,q _ hf⟩
 exact ⟨z,us,0,r,Heap.get?_push_size _ rfl⟩
end
noncomputable abbrev Sp:=List V → Hp → VK → XK → Prop
noncomputable abbrev CXT:=List Env → Hp → Shared → XK → Value → Shared → Prop
structure Env0 (P : Program) (w : World) (K : PySem.W.Frag) (mg : Str → Option Value) (base : Heap) (A : Around) (outer : List Env) (s : Shared) (H : Hp) : Prop where
 frames : A.frames = some outer
 mod : Mod K mg base
 bs : ∀ b o,base.get? b = some o → s.heap.get? b = some o ∧ H b = none
 bsz : base.objs.size ≤ s.heap.objs.size
 funs : s.heap.FunFrames base outer
 frf : ∀ b ∈ frs outer,H b = none
 hok : HOk P w H s.heap
 bare : AllBare s.gens
noncomputable def CE (outer : List Env) (P : Program) (w : World) (H : Hp) (s : Shared) (Q : VK) (u : Value) (s' : Shared) : Prop :=
 ∃ v H',s'.os = s.os ∧ AllBare s'.gens ∧ Un (frs outer) [] H H' s.heap s'.heap ∧ HOk P w H' s'.heap ∧ RelV v u ∧ Q v H'
noncomputable def CR (CX : CXT) (outer : List Env) (P : Program) (w : World) (H : Hp) (s : Shared) (Q : VK) (E : XK) (r : Result) (s' : Shared) : Prop :=
 match r with
 | .ok (.ret u)=>CE outer P w H s Q u s'
 | .ok _=>False
 | .error e=>CX outer H s E e s'
structure FnOk (P : Program) (w : World) (K : PySem.W.Frag) (mg : Str → Option Value) (base : Heap) (CX : CXT) (k : Nat) (f : Addr) (fd : FuncData) (ps : List Str) (sp : Sp) : Prop where
 len : ∀ vs H Q E,sp vs H Q E → vs.length = ps.length
 run : ∀ (A : Around) (outer : List Env) (s : Shared) (H : Hp) (args : Args) (us : List Value) (vs : List V) (Q : VK) (E : XK),Room k A → Env0 P w K mg base A outer s H → BindsTo s fd args (ps.zip us) → Vals vs us → sp vs H Q E →
  codeAny (model P w) A (.call (.ref f) args) (CR CX outer P w H s Q E) s
theorem FnOk.mono {P : Program} {w : World} {K : PySem.W.Frag} {mg : Str → Option Value} {base : Heap} {CX : CXT} {j k : Nat} {f : Addr} {fd : FuncData} {ps : List Str} {sp : Sp} (F : FnOk P w K mg base CX j f fd ps sp) (h : j ≤ k) :
  FnOk P w K mg base CX k f fd ps sp:=⟨F.len,fun A outer s H args us vs Q E hr=>F.run A outer s H args us vs Q E (hr.mono h)⟩
theorem FnOk.imp {P : Program} {w : World} {K : PySem.W.Frag} {mg : Str → Option Value} {base : Heap} {CX : CXT} {k : Nat} {f : Addr} {fd : FuncData} {ps : List Str} {sp sp' : Sp} (F : FnOk P w K mg base CX k f fd ps sp)
  (h : ∀ vs H Q E,sp' vs H Q E → sp vs H Q E) : FnOk P w K mg base CX k f fd ps sp' :=
 ⟨fun vs H Q E q=>F.len vs H Q E (h _ _ _ _ q),fun A outer s H args us vs Q E hr he hb hv hs=>F.run A outer s H args us vs Q E hr he hb hv (h _ _ _ _ hs)⟩
theorem Env0.make {P : Program} {w : World} {K : PySem.W.Frag} {mg : Str → Option Value} {base : Heap} {A : Around} {outer : List Env} {s : Shared} {H : Hp} (e : Env0 P w K mg base A outer s H) (C : Addr) (us : List Value) (kw : List (Str × Value)) :
  Env0 P w K mg base (A.under (.builtin "type.__call__" ⟨.ref C :: us,kw⟩)) outer s H:=⟨by first | exact e.frames | (simpa [Around.under,Code.envs,Code.isFrame,pushEnvs] using e.frames),e.mod,e.bs,e.bsz,e.funs,e.frf,e.hok,e.bare⟩
section
variable {X : Cx} {pins : List (Addr × Obj)} {σ : St} {H : Hp} {s s' : Shared}
theorem Inv.env0 (I : Inv X pins σ H s) : Env0 X.prog X.w X.K X.mg X.base X.A X.stack s H :=
 ⟨I.ok.frames,I.ok.mod,I.bs,Nat.le_trans I.ok.bsz I.sz,I.stack,I.stkFree,I.hok,I.bare⟩
theorem Inv.after {Q : VK} {u : Value} (I : Inv X pins σ H s) (h : CE X.stack X.prog X.w H s Q u s') : EP X pins σ Q u s':=by
 obtain ⟨v,H',os,bare,un,hok,r,q⟩:=h
 obtain ⟨hh,g,d,t,os'⟩:=s'
 obtain rfl : os' = s.os:=os
 exact ⟨v,H',I.call (h':=hh) (g':=g) (d':=d) (t':=t) (ch:=[]) un hok bare (fun b z=>absurd z (by simp)),r,q⟩
end
noncomputable def Jb8 (sp : Sp) (dvs : List V) (E : XK) (t : TA) : TE:=fun σ H Q=>t σ H fun vs H1=>sp (vs ++ dvs) H1 Q E
noncomputable def JcR (C : Addr) (m : Str) (sp : Sp) (dvs : List V) (E : XK) (ta : TE) (t : TA) : TE:=fun σ H Q=>ta σ H fun x H1=>∃ a dx fs,x = .ref a ∧ H1 a = some (.ins C dx fs) ∧ fs.lookup m = none ∧
 t σ H1 fun vs H2=>sp (x :: (vs ++ dvs)) H2 Q E
noncomputable def J3o (K : PySem.W.Frag) (fd : FuncData) (ps : List Str) (ds : List Value) : Prop :=
 ∀ (s : Shared) (us : List Value),K.In s.heap → (us ++ ds).length = ps.length → BindsTo s fd ⟨us,[]⟩ (ps.zip (us ++ ds))
theorem J3o.all {K : PySem.W.Frag} {fd : FuncData} {ps : List Str} (h : ∀ us : List Value,us.length = ps.length → bindArgs fd ⟨us,[]⟩ = pure (ps.zip us)) : J3o K fd ps []:=fun s us _ hl=>by
 rw [List.append_nil] at hl ⊢
 exact .of_eq (h us hl)
noncomputable def J3S (CX : CXT) (X : Cx) (E : XK) : Prop:=∀ (pins : List (Addr × Obj)) (σ : St) (H : Hp) (s : Shared) (e : Value) (s' : Shared),Inv X pins σ H s → CX X.stack H s E e s' → X.xe e s'
section
variable {X : Cx} {CX : CXT} {k : Nat} {f C : Addr} {fd : FuncData} {ps : List Str} {sp : Sp} {dvs : List V} {ds : List Value} {E : XK} {x m : Str} {p pos apos : Pos} {e o : Expr} {es : List Expr} {ta : TE} {t : TA}
theorem JaM {pins : List (Addr × Obj)} {σ : St} {H : Hp} {s : Shared} {Q : VK} {us : List Value} {vs : List V} (F : FnOk X.prog X.w X.K X.mg X.base CX k f fd ps sp) (hr : Room k X.A) (hb : J3o X.K fd ps ds) (hd : Vals dvs ds) (hx : J3S CX X E)
  (I : Inv X pins σ H s) (r : Vals vs us) (h : sp (vs ++ dvs) H Q E) : wpAny (model X.prog X.w) X.A (call (.ref f) us) (EP X pins σ Q) X.xe s:=by
 have r2 : Vals (vs ++ dvs) (us ++ ds):=r.append hd
 have hl : (us ++ ds).length = ps.length:=by rw [← r2.length]; exact F.len _ _ _ _ h
 refine wpAny_call (codeAny_mono (F.run X.A X.stack s H ⟨us,[]⟩ (us ++ ds) (vs ++ dvs) Q E hr I.env0 (hb s us I.kIn hl) r2 h) fun r s' hq=>?_)
 cases r with
 | error e=>exact hx pins σ H s e s' I hq
 | ok fl =>
  cases fl with
  | ret u=>exact I.after hq
  | next=>exact False.elim hq
  | brk=>exact False.elim hq
  | cont=>exact False.elim hq
theorem Jbe (F : FnOk X.prog X.w X.K X.mg X.base CX k f fd ps sp) (hr : Room k X.A) (hg : Gl X x) (hm : X.mg x = some (.ref f)) (hk : PySem.W.keepIn X.K (.ref f) = true) (hb : J3o X.K fd ps ds) (hd : Vals dvs ds) (hx : J3S CX X E)
  (ha : PA X (e :: es) t) (hdb : (x == ("__debug__" : Str)) = false:=by decide) (he : starEach (e :: es) X.env = (false,eval e X.env) :: starEach es X.env:=by rfl) (hpl : (backTo pos (starEach es X.env)).any (·.1) = false:=by rfl) :
  PE X (.Call (.Name x p) (e :: es) [] pos) (Jb8 sp dvs E t):=by
 intro pins s σ H Q I h
 refine wpAny_Call_Name_kw (J3C I hg hm ?_ hdb)
 refine PySem.W.callWith_K (h₀:=X.base) I.ok.mod.kin hk (thn (ha pos pins s σ H _ I h) fun us s1 ⟨vs,H1,I1,r,q⟩=>⟨I1.kIn,?_⟩) he hpl
 exact JaM F hr hb hd hx I1 r q
theorem Jbr {pl : Sem Bool} (he : PE X o ta) (c : Cls X.K C) (hm : Meth X.K C m f) (F : FnOk X.prog X.w X.K X.mg X.base CX k f fd ps sp) (hr : Room k X.A) (hb : J3o X.K fd ps ds) (hd : Vals dvs ds) (hx : J3S CX X E) (ha : PA X (e :: es) t)
  (hst : starEach (e :: es) X.env = (false,eval e X.env) :: starEach es X.env:=by rfl) (hpl : (backTo pos (starEach es X.env)).any (·.1) = false:=by rfl)
  (ht : eval (.Call (.Attribute o m apos) (e :: es) [] pos) X.env = (do
   let ov ← eval o X.env
   standAt apos.atName
   let (f,first) ← holding [ov] (getMethod ov m pl)
   callWith pos f first (backTo pos (starEach (e :: es) X.env)) (backToKw pos (keywordEach [] X.env))):=by rfl) :
  PE X (.Call (.Attribute o m apos) (e :: es) [] pos) (JcR C m sp dvs E ta t):=by
 intro pins s σ H Q I h
 refine PySem.W.methodCall_KW (pl:=pl) (thn (he pins s σ H _ I h) fun u s1 ⟨x,H1,I1,rx,a,dx,fs,ex,ea,l,q⟩=>?_) ht
 subst ex
 obtain rfl : u = Value.ref a:=rx
 refine J6H I1 ea c hm l ?_
 refine PySem.W.callWith_K (first:=[.ref a]) (h₀:=X.base) I.ok.mod.kin hm.kp (thn (ha pos pins s1 σ H1 _ I1 q) fun us s2 ⟨vs,H2,I2,r,q2⟩=>⟨I2.kIn,?_⟩) hst hpl
 exact JaM (us:=.ref a :: us) (vs:=.ref a :: vs) F hr hb hd hx I2 (.cons rfl r) q2
structure Mk (K : PySem.W.Frag) (C f : Addr) : Prop where
 makes : PySem.W.makesIn K C = true
 init : PySem.W.findIn K (.ref C) "__init__" = some (some (.ref f))
 fn : PySem.W.isFn K (.ref f) = true
 kp : PySem.W.keepIn K (.ref C) = true
theorem JcO {pins : List (Addr × Obj)} {σ : St} {H : Hp} {s : Shared} {Q : VK} {us : List Value} {vs : List V} (M : Mk X.K C f) (F : FnOk X.prog X.w X.K X.mg X.base CX k f fd ps sp) (hr : Room (k + 1) X.A) (hb : J3o X.K fd ps ds) (hd : Vals dvs ds)
  (hx : J3S CX X E) (I : Inv X pins σ H s) (r : Vals vs us)
  (h : ∀ x dx,H x = none → H dx = none → dx ≠ x → sp (.ref x :: (vs ++ dvs)) (upd (upd H dx (.own x)) x (.ins C dx [])) (fun v H2=>v = .non ∧ Q (.ref x) H2) E) :
  wpAny (model X.prog X.w) X.A (call (.ref C) us) (EP X pins σ Q) X.xe s:=by
 have hq:=h (s.heap.objs.size + 1) s.heap.objs.size (I.hok.fresh (Nat.le_succ _)) (I.hok.fresh (Nat.le_refl _)) (Nat.ne_of_lt (Nat.lt_succ_self _))
 have I2:=Inv.made (C:=C) I
 have r2 : Vals (V.ref (s.heap.objs.size + 1) :: (vs ++ dvs)) (Value.ref (s.heap.objs.size + 1) :: (us ++ ds)):=.cons rfl (r.append hd)
 have hl : (Value.ref (s.heap.objs.size + 1) :: us ++ ds).length = ps.length:=by
  have e:=r2.length
  rw [F.len _ _ _ _ hq] at e
  exact e.symm
 refine wpAny_call (Jdk (f:=f) I.kIn M.makes M.init (beq_iff_eq.mp M.fn) (codeAny_mono (F.run _ X.stack _ _ ⟨Value.ref (s.heap.objs.size + 1) :: us,[]⟩ (Value.ref (s.heap.objs.size + 1) :: (us ++ ds)) _ _ E (hr.make C us [])
  (I2.env0.make C us []) (hb _ (Value.ref (s.heap.objs.size + 1) :: us) I2.kIn hl) r2 hq) fun r s' hq'=>?_))
 cases r with
 | error e=>exact hx pins σ _ _ e s' I2 hq'
 | ok fl =>
  cases fl with
  | ret u =>
   obtain ⟨v,H',I3,rv,ev,q3⟩:=I2.after hq'
   subst ev
   exact ⟨rv,⟨V.ref (s.heap.objs.size + 1),H',I3,rfl,q3⟩⟩
  | next=>exact False.elim hq'
  | brk=>exact False.elim hq'
  | cont=>exact False.elim hq'
end
section
variable {X : Cx} {CX : CXT} {k : Nat} {f C : Addr} {fd : FuncData} {ps ks : List Str} {sp : Sp} {E : XK} {x m : Str} {p pos apos kpos : Pos} {e o : Expr} {es : List Expr} {kws : List Keyword} {te ta : TE} {t tk : TA} {nm : Option Str}
variable {g : List Value → List Value → List Value} {gV : List V → List V → List V}
end
structure Jv (N P : List Str) (sc : Scope) : Prop where
 kind : sc.kind = .function
 co : sc.isCoroutine = false
 gen : sc.isGenerator = false
 nd : N.Nodup
 pre : N.take P.length = P
 par : ∀ x ∈ P,sc.names.lookup x = some .local ∨ sc.names.lookup x = some .cell
 nofree : ∀ y ∈ sc.names,y.2 ≠ .free
theorem J7I {kindOf : Str → Option NameKind} {x : Str} : ∀ {binds : List (Str × Value)} {m : Str → Option Value},(∀ v,(x,v) ∉ binds) → bindL kindOf binds m x = m x
 | [],_,_=>rfl
 | (n,v) :: r,m,h=>by
  unfold bindL
  rw [J7I fun w hw=>h w (List.mem_cons_of_mem _ hw)]
  split
  ·have : x ≠ n:=by rintro rfl; exact h v List.mem_cons_self
   simp [this]
  ·rfl
theorem J7B {kindOf : Str → Option NameKind} {x : Str} : ∀ {binds : List (Str × Value)} {m : Str → Option Value},(∀ v,(x,v) ∉ binds) → bindC kindOf binds m x = m x
 | [],_,_=>rfl
 | (n,v) :: r,m,h=>by
  unfold bindC
  rw [J7B fun w hw=>h w (List.mem_cons_of_mem _ hw)]
  split
  ·rfl
  ·have : x ≠ n:=by rintro rfl; exact h v List.mem_cons_self
   simp [this]
theorem J7F {kindOf : Str → Option NameKind} {x : Str} {v : Value} : ∀ {P : List Str} {vs : List Value} {i : Nat} {m : Str → Option Value},P.Nodup → P[i]? = some x → vs[i]? = some v → kindOf x = some .local →
  bindL kindOf (P.zip vs) m x = some v
 | [],_,_,_,_,h,_,_=>by simp at h
 | _ :: _,[],_,_,_,_,h,_=>by simp at h
 | p :: P,w :: vs,0,m,nd,h1,h2,hk=>by
  simp at h1 h2; subst h1; subst h2
  show bindL kindOf ((p,w) :: P.zip vs) m p = _
  unfold bindL
  rw [J7I fun v hv=>(List.nodup_cons.mp nd).1 (List.of_mem_zip hv).1,if_pos hk]
  simp
 | p :: P,w :: vs,i + 1,m,nd,h1,h2,hk=>by
  show bindL kindOf ((p,w) :: P.zip vs) m x = _
  unfold bindL
  exact J7F (i:=i) (List.nodup_cons.mp nd).2 (by simpa using h1) (by simpa using h2) hk
theorem J7A {kindOf : Str → Option NameKind} {x : Str} {v : Value} : ∀ {P : List Str} {vs : List Value} {i : Nat} {m : Str → Option Value},P.Nodup → P[i]? = some x → vs[i]? = some v → kindOf x ≠ some .local →
  bindC kindOf (P.zip vs) m x = some v
 | [],_,_,_,_,h,_,_=>by simp at h
 | _ :: _,[],_,_,_,_,h,_=>by simp at h
 | p :: P,w :: vs,0,m,nd,h1,h2,hk=>by
  simp at h1 h2; subst h1; subst h2
  show bindC kindOf ((p,w) :: P.zip vs) m p = _
  unfold bindC
  rw [J7B fun v hv=>(List.nodup_cons.mp nd).1 (List.of_mem_zip hv).1,if_neg hk]
  simp
 | p :: P,w :: vs,i + 1,m,nd,h1,h2,hk=>by
  show bindC kindOf ((p,w) :: P.zip vs) m x = _
  unfold bindC
  exact J7A (i:=i) (List.nodup_cons.mp nd).2 (by simpa using h1) (by simpa using h2) hk
noncomputable def start (N : List Str) (vs : List V) : St:=vs.map some ++ List.replicate (N.length - vs.length) none
noncomputable def cxOf (CX : CXT) (P : Program) (w : World) (K : PySem.W.Frag) (mg : Str → Option Value) (base : Heap) (N : List Str) (qual : Str) (scope : Scope) (f : Addr) (cd : Value) (A : Around) (outer : List Env) (s : Shared) (H : Hp) (E : XK) : Cx where
 prog:=P
 w:=w
 K:=K
 mg:=mg
 base:=base
 A:=A.deeper (envOfC qual scope s.heap.objs.size f cd)
 N:=N
 s₀:=s
 H₀:=H
 env:=envOfC qual scope s.heap.objs.size f cd
 outer:=outer
 stack:=envOfC qual scope s.heap.objs.size f cd :: outer
 ex:=[]
 calm:=true
 fn:=fun _=>true
 pn:=[]
 xe:=fun e s'=>wpAny (model P w) (A.deeper (envOfC qual scope s.heap.objs.size f cd)) (leaving (envOfC qual scope s.heap.objs.size f cd) e) (fun _ s''=>CX outer H s E e s'') (fun e' s''=>CX outer H s E e' s'') s'
theorem J9I {sc : Scope} {n : Nat} {x : Str} (h : sc.names.lookup x = some .cell) : ∃ c,(cellsFrom n sc.names []).lookup x = some c:=by
 have q:=PySem.W.cellsFrom_some sc.names n [] (.inl h)
 exact Option.isSome_iff_exists.mp q
theorem Jc4 {CX : CXT} {P : Program} {w : World} {K : PySem.W.Frag} {mg : Str → Option Value} {base : Heap} {N ps : List Str} {qual : Str} {scope : Scope} {f : Addr} {cd : Value} {A : Around} {outer : List Env} {s s1 : Shared} {H : Hp} {E : XK} {us : List Value} {vs : List V}
  (S : Jv N ps scope) (hd : A.handled = none) (e0 : Env0 P w K mg base A outer s H) (hl : vs.length = ps.length) (r : Vals vs us)
  (x : InCallC s s.heap.objs.size (bindL (envOfC qual scope s.heap.objs.size f cd).kindOf (ps.zip us) fun _=>none) (cellsFrom (s.heap.objs.size + 1) scope.names []) (bindC (envOfC qual scope s.heap.objs.size f cd).kindOf (ps.zip us) fun _=>none) s1) :
  Inv (cxOf CX P w K mg base N qual scope f cd A outer s H E) [] (start N vs) H s1:=by
 have hpl : ps.length ≤ N.length:=by have:=congrArg List.length S.pre; rw [List.length_take] at this; omega
 obtain ⟨h1,tk,rfl,hk⟩:=x.done
 have noA : ∀ b : Addr,b ∉ (cxOf CX P w K mg base N qual scope f cd A outer s H E).ex:=fun b z=>absurd (show b ∈ ([] : List Addr) from z) (by simp)
 refine ⟨⟨e0.mod,S.kind,rfl,rfl,Nat.le_refl _,fun y z c h1 h2=>?_,fun y hy=>?_,fun y c _ h=>?_,fun _=>hd,Around.frames_deeper e0.frames,.inr ⟨rfl,rfl⟩,fun b z=>absurd z (noA b),e0.bs,e0.bsz,fun b _ _=>noA b,fun b z=>absurd z (noA b),e0.funs,e0.frf⟩,
  rfl,e0.bare,Un.kept hk,⟨_,x.toInCall.ns,fun i y v h1 h2 h3=>?_⟩,fun y c h=>⟨_,x.cell y c h⟩,e0.hok.fresh (Nat.le_refl _),fun y c h=>?_,fun p hp=>absurd (show p ∈ ([] : List (Addr × Obj)) from hp) (by simp),e0.hok.kept hk,?_⟩
 ·exact name_of_addr x.apart (PySem.mem_of_lookup h1) (PySem.mem_of_lookup h2)
 ·have hy : scope.names.lookup y = some .cell ∨ scope.names.lookup y = some .free:=hy
  rcases hy with hy | hy
  ·exact J9I hy
  ·exact absurd rfl (S.nofree _ (PySem.mem_of_lookup hy))
 ·exact Nat.le_of_lt (x.above y c (PySem.mem_of_lookup h))
 ·have hi : i < vs.length:=by
   unfold start at h2
   by_cases hi : i < vs.length
   ·exact hi
   ·rw [List.getElem?_append_right (by simpa using hi)] at h2
    rw [List.getElem?_replicate] at h2
    split at h2 <;> cases h2
  have ha : vs[i]? = some v:=by
   unfold start at h2
   rw [List.getElem?_append_left (by simpa using hi),List.getElem?_map] at h2
   cases e : vs[i]? with
   | none=>rw [e] at h2; cases h2
   | some a=>rw [e] at h2; cases h2; rfl
  obtain ⟨u,hu,rv⟩:=r.get ha
  have hp : ps[i]? = some y:=by
   rw [← S.pre,List.getElem?_take_of_lt (by omega)]; exact h1
  have ndP : ps.Nodup:=by rw [← S.pre]; exact S.nd.sublist (List.take_sublist _ _)
  refine ⟨u,rv,?_⟩
  rcases S.par y (List.mem_of_getElem? hp) with k | k
  ·exact .inl ⟨k,J7F ndP hp hu k⟩
  ·obtain ⟨c,e⟩:=J9I (n:=s.heap.objs.size + 1) k
   refine .inr ⟨.inl k,c,e,?_⟩
   have q:=x.cell y c e
   rw [J7A ndP hp hu (by show scope.names.lookup y ≠ _; rw [k]; decide)] at q
   exact q
 ·exact e0.hok.fresh (Nat.le_of_lt (x.above y c (PySem.mem_of_lookup h)))
 ·unfold start
  show _ = N.length
  rw [List.length_append,List.length_map,List.length_replicate]
  omega
theorem Jd0 {CX : CXT} {P : Program} {w : World} {K : PySem.W.Frag} {mg : Str → Option Value} {base : Heap} {k : Nat} {f : Addr} {name qual : Str} {params : Arguments} {body : List Stmt} {scope : Scope} {dV kV doc pm cdv ct oc : Value} {an od : Option Addr}
  {osl : Array (Option Value)} {N ps : List Str} {sp : Sp} (lk : K.lookup f = some ⟨oc,od,.func (PySem.W.fnOf name qual params body scope dV kV doc pm an cdv ct),osl⟩) (hcd : PySem.W.codeIn K cdv qual = true) (S : Jv N ps scope)
  (len : ∀ vs H Q E,sp vs H Q E → vs.length = ps.length)
  (hbody : ∀ (A : Around) (outer : List Env) (s : Shared) (H : Hp) (vs : List V) (Q : VK) (E : XK),Room k (A.deeper (envOfC qual scope s.heap.objs.size f cdv)) → sp vs H Q E →
   ∃ t,PSs (cxOf CX P w K mg base N qual scope f cdv A outer s H E) body t ∧ t { nx:=fun _ H'=>Q .non H',rt:=Q } (start N vs) H) :
  FnOk P w K mg base CX (k + 1) f (PySem.W.fnOf name qual params body scope dV kV doc pm an cdv ct) ps sp:=by
 refine ⟨len,fun A outer s H args us vs Q E hr e0 hb r hsp=>?_⟩
 have hl:=len _ _ _ _ hsp
 have KX : K.In s.heap:=e0.mod.kin.keeps fun b o e=>(e0.bs b o e).1
 have lim : s.heap.NoLimit:=e0.mod.nolimit.keeps fun b o e=>(e0.bs b o e).1
 have hkind : ∀ y ∈ ps.zip us,scope.names.lookup y.1 = some .local ∨ (scope.names.lookup y.1 = some .cell ∧ ((cellsFrom (s.heap.objs.size + 1) scope.names []).lookup y.1).isSome = true):=fun ⟨n,v⟩ hy=>by
  rcases S.par n (List.of_mem_zip hy).1 with q | q
  ·exact .inl q
  ·exact .inr ⟨q,PySem.W.cellsFrom_some _ _ _ (.inl q)⟩
 refine codeAny_call_function hr.depth (KX _ _ lk) rfl S.co S.gen rfl (PySem.W.codeRec_of KX hcd) (hb _ _ _ _ ?_)
 refine wpAny_newFunctionEnv_cells S.kind hkind fun env he s1 x=>?_
 subst he
 refine ⟨lim.keeps x.toInCall.keep,codeAny_func ?_⟩
 obtain ⟨t,ht,hq⟩:=hbody A outer s H vs Q E (hr.deeper _) hsp
 have I : Inv (cxOf CX P w K mg base N qual scope f cdv A outer s H E) [] (start N vs) H s1:=Jc4 S hr.hd e0 hl r x
 refine wpAny_mono (ht [] s1 (start N vs) H _ I hq) (fun fl s' hs=>?_) fun e s' hs=>hs
 have fin : ∀ {σ' : St} {H' : Hp} {v : V} {u : Value},Inv (cxOf CX P w K mg base N qual scope f cdv A outer s H E) [] σ' H' s' → RelV v u → Q v H' → CE outer P w H s Q u s' :=
  fun {σ' H' v u} J rv q=>⟨v,H',J.os,J.bare,J.base,J.hok,rv,q⟩
 cases fl with
 | ret u =>
  obtain ⟨v,σ',H',J,rv,q⟩:=hs
  exact fin J rv q
 | next =>
  obtain ⟨σ',H',J,q⟩:=hs
  exact fin (v:=V.non) (u:=Value.none) J rfl q
 | brk =>
  obtain ⟨_,_,_,q⟩:=hs
  exact False.elim q
 | cont =>
  obtain ⟨_,_,_,q⟩:=hs
  exact False.elim q
end L2
namespace L2
open PySem PySem.Spec PyProof.Rows
section
variable {X : Cx} {x : Str} {p pos : Pos} {e : Expr} {es : List Expr} {t : TA} {id T : String} {r : List V → Hp → VK → Prop}
noncomputable def tCB (r : List V → Hp → VK → Prop) (t : TA) : TE:=fun σ H Q=>t σ H fun vs H1=>r vs H1 Q
theorem JB (hc : J2n X (.builtin id) r) (hg : Gl X x) (hm : X.mg x = none) (hv : bootBuiltins x = some (.builtin id)) (ha : PA X (e :: es) t) (hn : x ≠ "__name__":=by decide) (hdb : (x == ("__debug__" : Str)) = false:=by decide)
  (he : starEach (e :: es) X.env = (false,eval e X.env) :: starEach es X.env:=by rfl) (hpl : (backTo pos (starEach es X.env)).any (·.1) = false:=by rfl) : PE X (.Call (.Name x p) (e :: es) [] pos) (tCB r t):=by
 intro pins s σ H Q I h
 refine wpAny_Call_Name_kw (J4p I hg hm hv ?_ hn hdb)
 exact PyProof.Rows.callWith_builtin1 (thn (ha pos pins s σ H _ I h) fun us s1 ⟨vs,H1,I1,r1,q1⟩=>hc pins s1 σ H1 vs us Q I1 r1 q1) he hpl
theorem J0M (hc : J2n X (.type T) r) (hg : Gl X x) (hm : X.mg x = none) (hv : bootBuiltins x = some (.type T)) (ha : PA X (e :: es) t) (hn : x ≠ "__name__":=by decide) (hdb : (x == ("__debug__" : Str)) = false:=by decide)
  (he : starEach (e :: es) X.env = (false,eval e X.env) :: starEach es X.env:=by rfl) (hpl : (backTo pos (starEach es X.env)).any (·.1) = false:=by rfl) : PE X (.Call (.Name x p) (e :: es) [] pos) (tCB r t):=by
 intro pins s σ H Q I h
 refine wpAny_Call_Name_kw (J4p I hg hm hv ?_ hn hdb)
 exact PyProof.Rows.callWith_type1 (thn (ha pos pins s σ H _ I h) fun us s1 ⟨vs,H1,I1,r1,q1⟩=>hc pins s1 σ H1 vs us Q I1 r1 q1) he hpl
end
end L2
namespace HT
open PySem PyProof.Rows
section
open PySem.SeqAt
open PySem.AutoSeq1 (wpAny_loadPart')
open PySem.MeetsSeq PySem.MeetsSeq2 PySem.MeetsSeq3
end
section
variable {prog : Program} {w : World} {A : Around} {E : Value → Shared → Prop} {s : Shared}
noncomputable def sIx (n d : Nat) : Option Int → Nat
 | none=>d
 | some v=>if v < 0 then (v + (n : Int)).toNat else min v.toNat n
theorem sIx_none (n d : Nat) : sIx n d none = d:=rfl
theorem sIx_le (n d : Nat) (hd : d ≤ n) (o : Option Int) : sIx n d o ≤ n:=by
 cases o with
 | none=>exact hd
 | some v =>
  show (if v < 0 then (v + (n : Int)).toNat else min v.toNat n) ≤ n
  by_cases hv : v < 0
  ·rw [if_pos hv]; omega
  ·rw [if_neg hv]; exact Nat.min_le_right _ _
end
end HT
namespace L2
open PySem PySem.Spec PyProof.Rows
noncomputable abbrev TO:=St → Hp → (Option Int → Hp → Prop) → Prop
noncomputable def PO (X : Cx) (e : Option Expr) (t : TO) : Prop :=
 ∀ (pins : List (Addr × Obj)) (s : Shared) (σ : St) (H : Hp) (Q : Option Int → Hp → Prop),Inv X pins σ H s → t σ H Q →
  wpAny (model X.prog X.w) X.A (evalPart e X.env) (fun u s'=>∃ o H',Inv X pins σ H' s' ∧ IsPart u o ∧ Q o H') X.xe s
noncomputable def Jee : TO:=fun _ H Q=>Q none H
noncomputable def JfD (t : TE) : TO:=fun σ H Q=>t σ H fun x H1=>∃ i,x = .int i ∧ Q (some i) H1
section
variable {X : Cx} {e : Expr} {te : TE} {lo hi : Option Expr} {tl th : TO} {pos p2 : Pos}
theorem J18 : PO X none Jee:=by
 intro pins s σ H Q I h
 rw [evalPart_none]
 exact wpAny_pure ⟨none,H,I,.none,h⟩
theorem J0Q (h : PE X e te) : PO X (some e) (JfD te):=by
 intro pins s σ H Q I hw
 rw [evalPart_some]
 refine thn (h pins s σ H _ I hw) fun u s1 ⟨x,H1,I1,r1,q1⟩=>?_
 obtain ⟨i,rfl,q⟩:=q1
 obtain ⟨t,rfl⟩:=r1
 exact ⟨some i,H1,I1,.int i t,q⟩
noncomputable def SlR (X : Cx) (r : V → Option Int → Option Int → Hp → VK → Prop) : Prop :=
 ∀ (pins : List (Addr × Obj)) (s : Shared) (σ : St) (H : Hp) (x : V) (v vl vu : Value) (lo hi : Option Int) (sl : Addr) (Q : VK),Inv X pins σ H s → RelV x v → s.heap.IsSliceOf sl vl vu .none → IsPart vl lo → IsPart vu hi → r x lo hi H Q →
  ∃ T id,typeLookup (.type T) "__getitem__" = pure (some (.builtin id)) ∧ s.TypeIs v T ∧ wpAny (model X.prog X.w) X.A (getItem v (.ref sl)) (EP X pins σ Q) X.xe s
noncomputable def tSl (r : V → Option Int → Option Int → Hp → VK → Prop) (te : TE) (tl th : TO) : TE:=fun σ H Q=>te σ H fun x H1=>tl σ H1 fun l H2=>th σ H2 fun u H3=>r x l u H3 Q
theorem J0v {r : V → Option Int → Option Int → Hp → VK → Prop} (hr : SlR X r) (he : PE X e te) (hl : PO X lo tl) (hu : PO X hi th) : PE X (.Subscript e (.Slice lo hi none p2) pos) (tSl r te tl th):=by
 intro pins s σ H Q I h
 refine Subscript_ (thn (he pins s σ H _ I h) fun v s1 ⟨x,H1,I1,r1,q1⟩=>?_)
 refine wpAny_Slice (thn (hl pins s1 σ H1 _ I1 q1) fun vl s2 ⟨l,H2,I2,pl,q2⟩=>thn (hu pins s2 σ H2 _ I2 q2) fun vu s3 ⟨u,H3,I3,pu,q3⟩=>?_)
 rw [evalPart_none]
 refine wpAny_pure ?_
 have I4 : Inv X pins σ H3 { s3 with heap:=s3.heap.push { cls:=.type "slice",data:=.fields #[vl,vu,.none] } }:=I3.kept (t':=s3.toks) fun b ob q=>Heap.get?_push_of_some _ q
 obtain ⟨T,id,hT,ht,hg⟩:=hr pins { s3 with heap:=s3.heap.push { cls:=.type "slice",data:=.fields #[vl,vu,.none] } } σ H3 x v vl vu l u s3.heap.objs.size Q I4 r1 (Heap.IsSliceOf.new ..) pl pu q3
 show wpAny (model X.prog X.w) X.A (subscriptTail e (.Slice lo hi none p2) v (.ref s3.heap.objs.size)) (EP X pins σ Q) X.xe { s3 with heap:=s3.heap.push { cls:=.type "slice",data:=.fields #[vl,vu,.none] } }
 exact tail_any (ops:=[.ref s3.heap.objs.size,v]) ht hT hg (by with_unfolding_all rfl)
noncomputable def cutV (xs : List V) (lo hi : Option Int) : List V:=(xs.drop (HT.sIx xs.length 0 lo)).take (HT.sIx xs.length xs.length hi - HT.sIx xs.length 0 lo)
theorem J9o (xs : List V) (lo hi : Option Int) : (cutV xs lo hi).length ≤ xs.length:=by
 unfold cutV
 rw [List.length_take,List.length_drop]
 omega
end
end L2
namespace L2
open PySem PySem.Spec PyProof.Rows
noncomputable def ixN (n : Nat) (i : Int) : Option Nat:=if 0 ≤ i then (if i < n then some i.toNat else none) else if -(n : Int) ≤ i then some (i + n).toNat else none
noncomputable def atI {α : Type} (xs : List α) (i : Int) : Option α:=(ixN xs.length i).bind fun j=>xs[j]?
theorem Jb0 {n : Nat} {i : Int} {j : Nat} (h : ixN n i = some j) : seqIndex? i n = some j ∧ j < n ∧ -(n : Int) ≤ i ∧ i < n:=by
 unfold ixN at h
 by_cases h0 : 0 ≤ i
 ·rw [if_pos h0] at h
  by_cases h1 : i < n
  ·rw [if_pos h1] at h
   have e : i.toNat = j:=Option.some.inj h
   exact ⟨by rw [seqIndex_of h0 h1,e],by omega,by omega,h1⟩
  ·rw [if_neg h1] at h; cases h
 ·rw [if_neg h0] at h
  by_cases h1 : -(n : Int) ≤ i
  ·rw [if_pos h1] at h
   have e : (i + n).toNat = j:=Option.some.inj h
   exact ⟨by rw [seqIndex_neg (by omega) h1,e],by omega,h1,by omega⟩
  ·rw [if_neg h1] at h; cases h
theorem J8I {α : Type} {xs : List α} {i : Int} {v : α} (h : atI xs i = some v) : ∃ j,seqIndex? i xs.length = some j ∧ xs[j]? = some v ∧ j < xs.length ∧ -(xs.length : Int) ≤ i ∧ i < xs.length:=by
 unfold atI at h
 cases e : ixN xs.length i with
 | none=>rw [e] at h; cases h
 | some j =>
  rw [e] at h
  obtain ⟨h1,h2,h3,h4⟩:=Jb0 e
  exact ⟨j,h1,h,h2,h3,h4⟩
theorem J05 {α : Type} {xs : List α} {j : Nat} {v : α} (h : xs[j]? = some v) : atI xs (j : Int) = some v:=by
 have hj : j < xs.length:=(List.getElem?_eq_some_iff.mp h).1
 have e : ixN xs.length (j : Int) = some j:=by
  unfold ixN
  rw [if_pos (by omega),if_pos (by omega)]; simp
 unfold atI; rw [e]; exact h
noncomputable def Je5 (b : Expr) : Prop:=∀ o i,subscripted b false o i = operate [o,i] (getItem o i)
noncomputable def IxR (X : Cx) (r : R2) : Prop :=
 ∀ (value slice : Expr) (pins : List (Addr × Obj)) (s : Shared) (σ : St) (H : Hp) (x y : V) (v u : Value) (Q : VK),Inv X pins σ H s → RelV x v → RelV y u → r x y H Q →
  subscripted slice false v u = operate [v,u] (getItem v u) → wpAny (model X.prog X.w) X.A (subscriptTail value slice v u) (EP X pins σ Q) X.xe s
noncomputable def MtR (X : Cx) (id : String) (r : V → List V → Hp → VK → Prop) : Prop :=
 ∀ (pins : List (Addr × Obj)) (s : Shared) (σ : St) (H : Hp) (x : V) (xs : List V) (v : Value) (us : List Value) (Q : VK),Inv X pins σ H s → RelV x v → Vals xs us → r x xs H Q →
  wpAny (model X.prog X.w) X.A (call (.builtin id) (v :: us)) (EP X pins σ Q) X.xe s
section
variable {X : Cx} {a b : Expr} {ta tb : TE} {pos : Pos}
theorem JF {r : R2} (hr : IxR X r) (ha : PE X a ta) (hb : PE X b tb) (hs : Je5 b) : PE X (.Subscript a b pos) (tOp r ta tb):=by
 intro pins s σ H Q I h
 exact Subscript_ (binT ha hb I h fun v u s2 x y H2 I2 rx ry q=>hr a b pins s2 σ H2 x y v u Q I2 rx ry q (hs _ _))
noncomputable def rIxL (K : PySem.W.Frag) : R2:=fun x y H Q=>∃ p xs i v,x = .ref p ∧ y = .int i ∧ SqL K H p xs ∧ atI xs i = some v ∧ Q v H
noncomputable def rIxT (K : PySem.W.Frag) : R2:=fun x y H Q=>∃ p xs i v,x = .ref p ∧ y = .int i ∧ SqT K H p xs ∧ atI xs i = some v ∧ Q v H
noncomputable def rIxS : R2:=fun x y H Q=>∃ z i c,x = .str z ∧ y = .int i ∧ z.length ≤ sizeLine ∧ atI z.cps.toList i = some c ∧ Q (.str ⟨#[c]⟩) H
theorem JdN : IxR X (rIxL X.K):=by
 intro value slice pins s σ H x y v u Q I rx ry h hs
 obtain ⟨p,xs,i,z,rfl,rfl,hq,he,q⟩:=h
 cases rx
 obtain ⟨t,rfl⟩:=ry
 obtain ⟨its,r,pl,hz⟩:=I.list hq
 obtain ⟨j,h1,h2,h3,h4,h5⟩:=J8I he
 obtain ⟨w,ew,rw'⟩:=r.get h2
 have hl:=r.length
 have hn:=J4n
 have fin : EP X pins σ Q w s:=⟨z,H,I,rw',q⟩
 by_cases h0 : 0 ≤ i
 ·have hj : i.toNat = j:=by
   rw [seqIndex_of h0 h5] at h1
   exact Option.some.inj h1
  exact item_listR pl.isList h0 (by omega) (by rw [hj]; simpa using ew) fin hs
 ·have hj : (i + (its.toArray.size : Int)).toNat = j:=by
   rw [seqIndex_neg (by omega) h4] at h1
   rw [List.size_toArray,← hl]
   exact Option.some.inj h1
  exact subscriptTail_builtinR (x:=w) pl.isList.typeIs slot_list_getitem.lookup
   (wpAny_getItem_list_neg (Q:=fun r s'=>r = w ∧ EP X pins σ Q r s') pl.isList (by omega) (by rw [List.size_toArray] <;> omega) (by omega) (by rw [hj]; simpa using ew) ⟨rfl,fin⟩) hs
theorem JeM : IxR X (rIxT X.K):=by
 intro value slice pins s σ H x y v u Q I rx ry h hs
 obtain ⟨p,xs,i,z,rfl,rfl,hq,he,q⟩:=h
 cases rx
 obtain ⟨t,rfl⟩:=ry
 obtain ⟨its,r,pl,hz⟩:=I.tuple hq
 obtain ⟨j,h1,h2,h3,h4,h5⟩:=J8I he
 obtain ⟨w,ew,rw'⟩:=r.get h2
 have hl:=r.length
 have hn:=J4n
 have fin : EP X pins σ Q w s:=⟨z,H,I,rw',q⟩
 exact subscriptTail_builtinR (x:=w) pl.typeIs slot_tuple_getitem.lookup
  (getItem_tuple (j:=j) (Q:=fun r s'=>r = w ∧ EP X pins σ Q r s') pl (by omega) (by omega) (by rw [List.size_toArray,← hl]; exact h1) (by simpa using ew) ⟨rfl,fin⟩) hs
theorem JeZ : IxR X rIxS:=by
 intro value slice pins s σ H x y v u Q I rx ry h hs
 obtain ⟨z,i,c,rfl,rfl,hz,he,q⟩:=h
 obtain ⟨t,rfl⟩:=rx
 obtain ⟨t',rfl⟩:=ry
 obtain ⟨j,h1,h2,h3,h4,h5⟩:=J8I he
 have hl : z.cps.toList.length = z.length:=by simp [Str.length]
 rw [hl] at h1 h4 h5
 have hn:=J4n
 exact tail_any (typeIs_str s z t) slot_str_getitem.lookup (getItem_str (c:=c) (by
  have e1 : decide (i < -(2 ^ 63 : Int)) = false:=decide_eq_false (by omega)
  have e2 : decide (i ≥ 2 ^ 63) = false:=decide_eq_false (by omega)
  rw [e1,e2,Bool.or_false]) (by rw [h1]; simpa using h2) ⟨.str ⟨#[c]⟩,H,I.tok _,⟨_,rfl⟩,q⟩) hs
theorem JaF (its : List Value) (n j : Nat) (u : Value) : Obj.mapSeq (·.setIfInBounds j u) { cls:=.type "list",data:=.seq its.toArray n } = { cls:=.type "list",data:=.seq (its.set j u).toArray n }:=by
 simp [Obj.mapSeq]
theorem Inv.lst {pins : List (Addr × Obj)} {σ : St} {H : Hp} {s : Shared} {p : Addr} {xs : List V} (I : Inv X pins σ H s) (h : H p = some (.lst xs)) :
  ∃ (its : List Value) (n : Nat),Vals xs its ∧ s.heap.get? p = some { cls:=.type "list",data:=.seq its.toArray n } ∧ xs.length ≤ sizeLine:=by
 obtain ⟨z,its,n,r,e⟩:=I.hok p _ h
 exact ⟨its,n,r,e,z⟩
theorem Inv.lstUpd {pins : List (Addr × Obj)} {σ : St} {H : Hp} {s : Shared} {p : Addr} {xs ys : List V} {its its' : List Value} {n n' : Nat} {f : Obj → Obj} (I : Inv X pins σ H s) (h : H p = some (.lst xs))
  (ho : s.heap.get? p = some { cls:=.type "list",data:=.seq its.toArray n }) (hf : f { cls:=.type "list",data:=.seq its.toArray n } = { cls:=.type "list",data:=.seq its'.toArray n' }) (r : Vals ys its') (hz : ys.length ≤ sizeLine) (t : Nat) :
  Inv X pins σ (upd H p (.lst ys)) { s with heap:=s.heap.update p f,toks:=t }:=by
 have e : (s.heap.update p f).get? p = some { cls:=.type "list",data:=.seq its'.toArray n' }:=by
  rw [Heap.get?_update_self f ho (by rw [hf] <;> rfl),hf]
 refine I.write (x:=p) (e:=p) (by rw [h]; trivial) (.inl rfl) (fun b u hb q=>(Heap.get?_update_other _ _ (Ne.symm hb)).trans q) ⟨_,e⟩ ?_
 exact ⟨hz,its',n',r,e⟩
noncomputable def JfI : V → V → V → Hp → (Hp → Prop) → Prop:=fun o i v H Q=>∃ p xs k j,o = .ref p ∧ i = .int k ∧ H p = some (.lst xs) ∧ ixN xs.length k = some j ∧ Q (upd H p (.lst (xs.set j v)))
theorem J3Q : PSet X JfI:=by
 intro pins s σ H o i v ov iv u Q I ro ri rv h
 obtain ⟨p,xs,k,j,rfl,rfl,hp,hj,q⟩:=h
 cases ro
 obtain ⟨t,rfl⟩:=ri
 obtain ⟨its,n,r,ho,hz⟩:=I.lst hp
 obtain ⟨h1,h2,h3,h4⟩:=Jb0 hj
 have hl:=r.length
 have hn:=J4n
 have I' : Inv X pins σ (upd H p (.lst (xs.set j v))) { s with heap:=s.heap.update p (Obj.mapSeq (·.setIfInBounds j u)) } :=
  I.lstUpd hp ho (JaF its n j u) (r.set rv j) (by rw [List.length_set]; exact hz) s.toks
 by_cases h0 : 0 ≤ k
 ·have hk : k.toNat = j:=by
   rw [seqIndex_of h0 h4] at h1
   exact Option.some.inj h1
  exact PySem.W.ki_setAt ho h0 (by omega) (by rw [List.size_toArray,← hl]; exact h4) (by rw [hk]; exact ⟨_,I',q⟩)
 ·have hk : (k + (its.toArray.size : Int)).toNat = j:=by
   rw [seqIndex_neg (by omega) h3] at h1
   rw [List.size_toArray,← hl]
   exact Option.some.inj h1
  exact PySem.W.ki_setBack ho (by omega) (by rw [List.size_toArray,← hl]; exact h3) (by omega) (by rw [hk]; exact ⟨_,I',q⟩)
theorem J8x (lo hi : Option Int) (n : Nat) : (sliceBounds lo hi none n).1 = ((HT.sIx n 0 lo : Nat) : Int) ∧ (sliceBounds lo hi none n).2.1 = ((HT.sIx n n hi : Nat) : Int) ∧ (sliceBounds lo hi none n).2.2 = 1:=by
 refine ⟨?_,?_,rfl⟩
 ·cases lo with
  | none=>simp [sliceBounds,HT.sIx]
  | some i =>
   simp only [sliceBounds,HT.sIx,Option.getD_none,show (1 : Int) > 0 by decide,if_true]
   by_cases h : i < 0
   ·simp only [h,if_true] <;> omega
   ·simp only [h,if_false] <;> omega
 ·cases hi with
  | none=>simp [sliceBounds,HT.sIx]
  | some i =>
   simp only [sliceBounds,HT.sIx,Option.getD_none,show (1 : Int) > 0 by decide,if_true]
   by_cases h : i < 0
   ·simp only [h,if_true] <;> omega
   ·simp only [h,if_false] <;> omega
theorem J7s (its : List Value) (lo hi : Option Int) : slicePick its.toArray lo hi none = ((its.drop (HT.sIx its.length 0 lo)).take (HT.sIx its.length its.length hi - HT.sIx its.length 0 lo)).toArray:=by
 obtain ⟨h1,h2,h3⟩:=J8x lo hi its.toArray.size
 unfold slicePick
 rw [h1,h2,h3]
 simp only [sliceRange_one,pick_run,List.size_toArray] <;> rfl
noncomputable def rSlL (K : PySem.W.Frag) : V → Option Int → Option Int → Hp → VK → Prop:=fun x lo hi H Q=>∃ a xs,x = .ref a ∧ SqL K H a xs ∧ ∀ p,H p = none → Q (.ref p) (upd H p (.lst (cutV xs lo hi)))
theorem Je3 : SlR X (rSlL X.K):=by
 intro pins s σ H x v vl vu lo hi sl Q I rx hs pl pu h
 obtain ⟨a,xs,rfl,hx,q⟩:=h
 cases rx
 obtain ⟨its,r,ht,hz⟩:=I.list hx
 have hlen:=r.length
 refine ⟨"list",_,slot_list_getitem.lookup,ht.isList.typeIs,?_⟩
 refine wpAny_getItem_list_slice ht.isList hs pl pu .none (by simp) ?_ (by rw [List.size_toArray] <;> omega)
 rw [J7s,← hlen]
 refine ⟨.ref s.heap.objs.size,_,I.laid (t':=s.toks) (o:=.lst (cutV xs lo hi)) (fun b ob q=>Heap.get?_push_of_some _ q) (Nat.le_refl _) ?_,rfl,q _ (I.hok.fresh (Nat.le_refl _))⟩
 exact ⟨Nat.le_trans (J9o xs lo hi) hz,_,0,(r.drop (HT.sIx xs.length 0 lo)).take (HT.sIx xs.length xs.length hi - HT.sIx xs.length 0 lo),Heap.get?_push_size _ rfl⟩
noncomputable def J09 : V → Bool
 | .non=>true
 | .bl _=>true
 | .int _=>true
 | .str _=>true
 | _=>false
noncomputable def eqV : V → V → Bool
 | .non,.non=>true
 | .bl a,.bl b=>a == b
 | .bl a,.int b=>(if a then 1 else 0) == b
 | .int a,.bl b=>a == (if b then 1 else 0)
 | .int a,.int b=>a == b
 | .str a,.str b=>a == b
 | _,_=>false
theorem Jdl {A : Around} {s : Shared} {y x : V} {u v : Value} (ry : RelV y u) (rx : RelV x v) (fy : J09 y = true) (fx : J09 x = true) : SeqAt.EqAt A s u v (eqV y x):=by
 cases y with
 | non =>
  cases ry
  cases x with
  | non=>cases rx; exact SeqAt.EqAt.same _
  | bl b=>cases rx; exact SeqAt.EqAt.none_bool b
  | int b=>obtain ⟨t,rfl⟩:=rx; exact SeqAt.EqAt.none_int b t
  | str b=>obtain ⟨t,rfl⟩:=rx; exact SeqAt.EqAt.none_str b t
  | _=>exact absurd (show false = true from fx) Bool.false_ne_true
 | bl a =>
  cases ry
  cases x with
  | non=>cases rx; exact SeqAt.EqAt.bool_none a
  | bl b=>cases rx; exact SeqAt.EqAt.bool_bool a b
  | int b=>obtain ⟨t,rfl⟩:=rx; exact SeqAt.EqAt.bool_int a b t
  | str b=>obtain ⟨t,rfl⟩:=rx; exact SeqAt.EqAt.bool_str a b t
  | _=>exact absurd (show false = true from fx) Bool.false_ne_true
 | int a =>
  obtain ⟨t',rfl⟩:=ry
  cases x with
  | non=>cases rx; exact SeqAt.EqAt.int_none a t'
  | bl b=>cases rx; exact SeqAt.EqAt.int_bool a t' b
  | int b=>obtain ⟨t,rfl⟩:=rx; exact SeqAt.EqAt.int_int a t' b t
  | str b=>obtain ⟨t,rfl⟩:=rx; exact SeqAt.EqAt.int_str a t' b t
  | _=>exact absurd (show false = true from fx) Bool.false_ne_true
 | str a =>
  obtain ⟨t',rfl⟩:=ry
  cases x with
  | non=>cases rx; exact SeqAt.EqAt.str_none a t'
  | bl b=>cases rx; exact SeqAt.EqAt.str_bool a t' b
  | int b=>obtain ⟨t,rfl⟩:=rx; exact SeqAt.EqAt.str_int a t' b t
  | str b=>obtain ⟨t,rfl⟩:=rx; exact SeqAt.EqAt.str_str a t' b t
  | _=>exact absurd (show false = true from fx) Bool.false_ne_true
 | _=>exact absurd (show false = true from fy) Bool.false_ne_true
noncomputable def eqU (x : V) (u : Value) : Bool:=match u with
 | .none=>eqV .non x
 | .bool b=>eqV (.bl b) x
 | .int i _=>eqV (.int i) x
 | .str z _=>eqV (.str z) x
 | _=>false
theorem JcQ {x y : V} {u : Value} (r : RelV y u) (f : J09 y = true) : eqU x u = eqV y x:=by
 cases y with
 | non=>cases r; rfl
 | bl b=>cases r; rfl
 | int i=>obtain ⟨t,rfl⟩:=r; rfl
 | str z=>obtain ⟨t,rfl⟩:=r; rfl
 | _=>exact absurd (show false = true from f) Bool.false_ne_true
theorem J8R {x : V} : ∀ {xs : List V} {us : List Value},Vals xs us → xs.all J09 = true → us.any (eqU x) = xs.any fun y=>eqV y x
 | _,_,.nil,_=>rfl
 | y :: xs,u :: us,.cons r t,f=>by
  rw [List.all_cons,Bool.and_eq_true] at f
  rw [List.any_cons,List.any_cons,JcQ r f.1,J8R t f.2]
theorem J6L {A : Around} {s : Shared} {x : V} {v : Value} (rx : RelV x v) (fx : J09 x = true) : ∀ {xs : List V} {us : List Value},Vals xs us → xs.all J09 = true → ∀ u ∈ us,SeqAt.EqAt A s u v (eqU x u)
 | _,_,.nil,_=>fun u hu=>by cases hu
 | y :: xs,u :: us,.cons r t,f=>fun u' hu=>by
  rw [List.all_cons,Bool.and_eq_true] at f
  rcases List.mem_cons.mp hu with rfl | hu
  ·rw [JcQ r f.1]; exact Jdl r rx f.1 fx
  ·exact J6L rx fx t f.2 u' hu
noncomputable def inV (x : V) (xs : List V) : Bool:=xs.any fun y=>eqV y x
noncomputable def rIn (K : PySem.W.Frag) (neg : Bool) : R2:=fun x y H Q=>∃ p xs,y = .ref p ∧ (SqL K H p xs ∨ SqT K H p xs) ∧ J09 x = true ∧ xs.all J09 = true ∧ Q (.bl (if neg then !inV x xs else inV x xs)) H
theorem JbJ : OpR X (compareOp .In) (rIn X.K false):=by
 intro pins s σ H x y v u Q I rx ry h
 obtain ⟨p,xs,rfl,hq,fx,fs,q⟩:=h
 cases ry
 rcases hq with hq | hq
 ·obtain ⟨its,r,pl,hz⟩:=I.list hq
  refine SeqAt.in_listAt (eqU x) pl.isList (fun w hw=>J6L rx fx r fs w (by simpa using hw)) ⟨.bl _,H,I,rfl,?_⟩
  rw [show its.toArray.any (eqU x) = its.any (eqU x) by simp,J8R r fs]
  exact q
 ·obtain ⟨its,r,pl,hz⟩:=I.tuple hq
  refine SeqAt.in_tupleAt (eqU x) pl (fun w hw=>J6L rx fx r fs w (by simpa using hw)) ⟨.bl _,H,I,rfl,?_⟩
  rw [show its.toArray.any (eqU x) = its.any (eqU x) by simp,J8R r fs]
  exact q
theorem J8u : J2n X (.builtin "len") (fun xs H Q=>∃ p ys,xs = [.ref p] ∧ (SqL X.K H p ys ∨ SqT X.K H p ys) ∧ Q (.int ys.length) H):=by
 intro pins s σ H xs us Q I r h
 obtain ⟨p,ys,rfl,hq,q⟩:=h
 obtain ⟨u,rfl,rx⟩:=J9C r
 cases rx
 have hn:=J4n
 rcases hq with hq | hq
 ·obtain ⟨its,r',pl,hz⟩:=I.list hq
  have hlen:=r'.length
  exact Calls.call_len_list pl.isList (by simp only [List.size_toArray] <;> omega) ⟨.int ys.length,H,I.tok _,⟨s.toks + 1,by rw [List.size_toArray,hlen]⟩,q⟩
 ·obtain ⟨its,r',pl,hz⟩:=I.tuple hq
  have hlen:=r'.length
  exact len_tuple pl (by simp only [List.size_toArray] <;> omega) ⟨.int ys.length,H,I.tok _,⟨s.toks + 1,by rw [List.size_toArray,hlen]⟩,q⟩
theorem J8O : J2n X (.builtin "len") (fun xs H Q=>∃ z,xs = [.str z] ∧ z.length ≤ sizeLine ∧ Q (.int z.length) H):=by
 intro pins s σ H xs us Q I r h
 obtain ⟨z,rfl,hz,q⟩:=h
 obtain ⟨u,rfl,t,rfl⟩:=J9C r
 have hn:=J4n
 exact len_str (by omega) ⟨.int z.length,H,I.tok _,⟨_,rfl⟩,q⟩
theorem J0g : J2n X (.type "list") (fun xs H Q=>∃ p ys,xs = [.ref p] ∧ (SqL X.K H p ys ∨ SqT X.K H p ys) ∧ ∀ l,H l = none → Q (.ref l) (upd H l (.lst ys))):=by
 intro pins s σ H xs us Q I r h
 obtain ⟨p,ys,rfl,hq,q⟩:=h
 obtain ⟨u,rfl,rx⟩:=J9C r
 cases rx
 have fin : ∀ (its : List Value),Vals ys its → ys.length ≤ sizeLine → ∀ (h' : Heap) (c' : Nat),(∀ b o',s.heap.get? b = some o' → h'.get? b = some o') →
   h'.get? s.heap.objs.size = some { cls:=.type "list",dict:=none,data:=.seq its.toArray c',slots:=#[] } → EP X pins σ Q (.ref s.heap.objs.size) { s with heap:=h' }:=fun its r' hz h' c' kp e =>
  ⟨.ref s.heap.objs.size,_,I.laid (t':=s.toks) kp (Nat.le_refl _) (show J1X X.prog X.w _ h' _ (.lst ys) from ⟨hz,its,c',r',e⟩),rfl,q _ (I.hok.fresh (Nat.le_refl _))⟩
 rcases hq with hq | hq
 ·obtain ⟨its,r',pl,hz⟩:=I.list hq
  have hlen:=r'.length
  obtain ⟨o,ho,hc,n,hd⟩:=pl.isList
  exact call_list_seq p (.inl rfl) ho hc hd (fun h' c' kp e=>fin its r' hz h' c' kp e) (by simp only [List.size_toArray] <;> omega)
 ·obtain ⟨its,r',pl,hz⟩:=I.tuple hq
  have hlen:=r'.length
  obtain ⟨o,ho,hc,n,hd⟩:=pl
  exact call_list_seq p (.inr rfl) ho hc hd (fun h' c' kp e=>fin its r' hz h' c' kp e) (by simp only [List.size_toArray] <;> omega)
noncomputable def tyV (K : PySem.W.Frag) (T : String) (x : V) (H : Hp) : Prop:=match x with
 | .str _=>T = "str"
 | .int _=>T = "int"
 | .ref p=>(T = "list" ∧ ∃ xs,SqL K H p xs) ∨ (T = "tuple" ∧ ∃ o,K.lookup p = some o ∧ o.cls = .type "tuple" ∧ o.dict = none) ∨
   (T = "dict" ∧ ((∃ kvs,H p = some (.dK kvs)) ∨ ∃ kvs,H p = some (.dT kvs))) ∨ (T = "set" ∧ ∃ S n,H p = some (.set S n))
 | _=>False
theorem JeR {pins : List (Addr × Obj)} {σ : St} {H : Hp} {s : Shared} {T : String} {x : V} {v : Value} (I : Inv X pins σ H s) (r : RelV x v) (ty : tyV X.K T x H) :
  s.TypeIs v T ∧ ∀ a,v = .ref a → ∃ ob,s.heap.get? a = some ob ∧ ob.dict = none:=by
 cases x with
 | str z =>
  obtain ⟨t,rfl⟩:=r
  cases (show T = "str" from ty)
  exact ⟨typeIs_str s z t,fun _ e=>nomatch e⟩
 | int i =>
  obtain ⟨t,rfl⟩:=r
  cases (show T = "int" from ty)
  exact ⟨typeIs_int s i t,fun _ e=>nomatch e⟩
 | ref p =>
  cases r
  rcases ty with ⟨rfl,xs,hq⟩ | ⟨rfl,o,hk,hc,hd⟩ | ⟨rfl,hk⟩ | ⟨rfl,S,n,hk⟩
  ·obtain ⟨its,_,pl,_⟩:=I.list hq
   refine ⟨pl.isList.typeIs,fun a e=>?_⟩
   cases e
   obtain ⟨o,n,e,c,hd,_⟩:=pl
   exact ⟨o,e,hd⟩
  ·refine ⟨⟨o,I.kIn p o hk,hc⟩,fun a e=>?_⟩
   cases e
   exact ⟨o,I.kIn _ o hk,hd⟩
  ·have z : ∃ o,s.heap.get? p = some o ∧ o.ExactDict:=by
    rcases hk with ⟨kvs,hk⟩ | ⟨kvs,hk⟩
    ·obtain ⟨_,_,_,_,o,_,_,e,ex,_⟩:=I.hok p _ hk
     exact ⟨o,e,ex⟩
    ·obtain ⟨_,_,_,_,o,_,_,e,ex,_⟩:=I.hok p _ hk
     exact ⟨o,e,ex⟩
   obtain ⟨o,e,ex⟩:=z
   refine ⟨⟨o,e,ex.1⟩,fun a e2=>?_⟩
   cases e2
   exact ⟨o,e,ex.2.1⟩
  ·obtain ⟨o,_,_,_,e,ex,_⟩:=I.hok p _ hk
   refine ⟨⟨o,e,ex.1⟩,fun a e2=>?_⟩
   cases e2
   exact ⟨o,e,ex.2.1⟩
 | _=>exact False.elim ty
noncomputable def tBM (K : PySem.W.Frag) (T : String) (r : V → List V → Hp → VK → Prop) (to : TE) (t : TA) : TE:=fun σ H Q=>to σ H fun x H1=>tyV K T x H1 ∧ t σ H1 fun xs H2=>r x xs H2 Q
variable {o e : Expr} {es : List Expr} {to : TE} {t : TA} {name : Str} {apos cpos : Pos} {T id : String} {r : V → List V → Hp → VK → Prop}
theorem J3H (pa : PlainAttrs T) (slot : Slot T name id) (hty : typeOf (.builtin id) = pure (.type "method_descriptor")) (hm : MtR X id r) (ho : PE X o to) (ha : PA X (e :: es) t)
  (hbase : attributeBase o name X.env (eval o X.env) = eval o X.env:=by rfl)
  (hfew : ((backTo cpos (starEach (e :: es) X.env)).all (fun x=>!x.1) && (backToKw cpos (keywordEach [] X.env)).all (fun x=>x.1.isSome)
   && decide ((e :: es).length + ([] : List Keyword).length + (if ([] : List Keyword).isEmpty then 0 else 1) < 30)) = true:=by rfl)
  (hline : (apos.endLine == cpos.line) = true:=by rfl) (hs : starEach (e :: es) X.env = (false,eval e X.env) :: starEach es X.env:=by rfl) (hplain : (backTo cpos (starEach es X.env)).any (·.1) = false:=by rfl) :
  PE X (.Call (.Attribute o name apos) (e :: es) [] cpos) (tBM X.K T r to t):=by
 intro pins s σ H Q I h
 refine wpAny_Call_method_late hbase hfew hline rfl (thn (ho pins s σ H _ I h) fun v s1 ⟨x,H1,I1,r1,ty,q1⟩=>?_)
 obtain ⟨h1,h2⟩:=JeR I1 r1 ty
 refine ⟨T,id,pa,slot,hty,h1,h2,?_⟩
 have hA:=ha cpos pins s1 σ H1 _ I1 q1
 rw [hs] at hA ⊢
 refine Calls.callWith_builtin (by show (false || (backTo cpos (starEach es X.env)).any (·.1)) = false; rw [hplain] <;> rfl) (Calls.evalArgs_plain ?_)
 exact thn hA fun us s2 ⟨vs,H2,I2,r2,q2⟩=>hm pins s2 σ H2 x vs v us Q I2 r1 r2 q2
end
end L2
namespace L2
open PySem PySem.Spec PyProof.Rows
noncomputable def MtM (X : Cx) (id : String) (r : V → List V → Hp → VK → Prop) : Prop :=
 ∀ (pins : List (Addr × Obj)) (s : Shared) (σ : St) (H : Hp) (x : V) (xs : List V) (v : Value) (us : List Value) (Q : VK),Inv X pins σ H s → RelV x v → Vals xs us → r x xs H Q →
  wpAny (model X.prog X.w) X.A (call (.builtin id) (v :: us)) (EP X pins σ Q) X.xe s
theorem Vals.one : ∀ {x : V} {us : List Value},Vals [x] us → ∃ u,us = [u] ∧ RelV x u
 | _,_,.cons r .nil=>⟨_,rfl,r⟩
theorem Vals.two : ∀ {x y : V} {us : List Value},Vals [x,y] us → ∃ u v,us = [u,v] ∧ RelV x u ∧ RelV y v
 | _,_,_,.cons r (.cons q .nil)=>⟨_,_,rfl,r,q⟩
section
variable {X : Cx} {pins : List (Addr × Obj)} {σ : St} {H : Hp} {s : Shared} {l b : Addr} {xs ys zs : List V}
theorem Inv.lset {its its' : List Value} {n : Nat} {f : Array Value → Array Value} {t' : Nat} (I : Inv X pins σ H s) (hH : H l = some (.lst xs))
  (e : s.heap.get? l = some { cls:=.type "list",data:=.seq its.toArray n }) (hf : f its.toArray = its'.toArray) (hv : Vals ys its') (hz : ys.length ≤ sizeLine) :
  Inv X pins σ (upd H l (.lst ys)) { s with heap:=s.heap.update l (Obj.mapSeq f),toks:=t' }:=by
 have q:=PySem.IsL.update e f
 rw [hf] at q
 refine I.write (x:=l) (e:=l) (by rw [hH]; exact trivial) (.inl rfl) (fun b' u hb hu=>(Heap.get?_update_other s.heap (Obj.mapSeq f) (Ne.symm hb)).trans hu) ⟨_,q⟩ ?_
 exact ⟨hz,its',_,hv,q⟩
theorem Inv.lnew {its : List Value} {t' : Nat} (I : Inv X pins σ H s) (hv : Vals ys its) (hz : ys.length ≤ sizeLine) :
  Inv X pins σ (upd H s.heap.objs.size (.lst ys)) { s with heap:=s.heap.push { cls:=.type "list",data:=.seq its.toArray },toks:=t' } :=
 I.laid (fun _ _ q=>Heap.get?_push_of_some _ q) (Nat.le_refl _) ⟨hz,its,0,hv,Heap.get?_push_size _ rfl⟩
theorem Inv.lstM (I : Inv X pins σ H s) (hH : H l = some (.lst xs)) : xs.length ≤ sizeLine ∧ ∃ (its : List Value) (n : Nat),Vals xs its ∧ xs.length = its.length ∧ s.heap.get? l = some { cls:=.type "list",data:=.seq its.toArray n }:=by
 obtain ⟨z,its,n,r,e⟩:=I.hok l _ hH
 exact ⟨z,its,n,r,r.length,e⟩
theorem JcM {n : Nat} (h : n ≤ sizeLine) : Builtin.List.listTooLong n = false:=by
 unfold Builtin.List.listTooLong
 exact decide_eq_false (by omega)
end
section
variable {X : Cx}
noncomputable def JdV : V → List V → Hp → VK → Prop:=fun x vs H Q=>∃ l xs y,x = .ref l ∧ vs = [y] ∧ H l = some (.lst xs) ∧ xs.length < sizeLine ∧ Q .non (upd H l (.lst (xs ++ [y])))
theorem J0L : MtM X "list.append" JdV:=by
 intro pins s σ H x vs v us Q I rx rv h
 obtain ⟨l,xs,y,rfl,rfl,hH,hz,q⟩:=h
 cases rx
 obtain ⟨u,rfl,ru⟩:=rv.one
 obtain ⟨z,its,n,r,hl,e⟩:=I.lstM hH
 refine call_meets F.slot_list_append ⟨_,e,rfl⟩ F.entry_list_append (F.args_list_append_2 _ _) (PySem.list_append l its.toArray n u (by rw [List.size_toArray]; omega)) ⟨e,?_⟩
 refine ⟨.non,_,I.lset (its':=its ++ [u]) hH e (by simp) (r.append (.cons ru .nil)) ?_,rfl,q⟩
 rw [List.length_append,List.length_singleton]
 omega
end
section
variable {prog : Program} {w : World} {A : Around} {E : Value → Shared → Prop} {s : Shared}
end
section
variable {X : Cx}
end
end L2
namespace Att
open PySem PySem.W PySem.Calls PyProof.Rows
theorem J5L {P : Params} {h : Heap} : ∀ (ns : List Int) (vs : List Value),WellAll P h vs (ns.map WData.int) → IntsAre vs ns:=by
 intro ns
 induction ns with
 | nil =>
  intro vs w
  rw [List.map_nil] at w
  cases w
  exact .nil
 | cons n ns ih =>
  intro vs w
  rw [List.map_cons] at w
  cases w with
  | cons a b =>
   cases a
   exact .cons _ _ (ih _ b)
theorem Jc1 {l : OpenLaw} {n : Nat} (hn : l.most = some n) {P : Params} {h : Heap} {args : List WData} {vals : List Value}
  (hpre : l.row.toRowW.claim.pre args = true) (hwl : WellAll P h vals args) :
  ∃ a vs ns,vals = [Value.ref a] ∧ args = [WData.list (ns.map WData.int)] ∧ h.get? a = some { cls:=.type "list",data:=.seq vs.toArray } ∧ IntsAre vs ns ∧ ns.length ≤ n:=by
 have hsh : WShape.hasAll [] args [.list .int] = true:=(pre_splitW hpre).1
 have hc : l.pre.holds [] { args:=args } = true:=(pre_splitW hpre).2
 obtain ⟨d,r,rfl,h1,h2⟩:=hasAllW_cons hsh
 obtain rfl:=hasAllW_nil h2
 obtain ⟨xs,rfl,h3⟩:=hasW_list h1
 obtain ⟨ns,rfl⟩:=items_int h3
 have hlen : ns.length ≤ n:=by
  unfold OpenLaw.pre at hc
  have h4 : (WTm.not (.lt (.lit (.int (n : Int))) (.len (.arg 0)))).holds [] { args:=[.list (ns.map .int)] } = true:=by
   have h4:=(holds_andW hc).1
   rw [hn] at h4
   exact h4
  have h5:=condW_of h4 (w_not (w_lt w_lit (w_len_list (w_arg rfl))))
  rw [List.length_map] at h5
  refine Nat.le_of_not_lt fun q=>?_
  have q' : (n : Int) < ((ns.length : Nat) : Int):=by omega
  first
   | (rw [decide_eq_true q'] at h5; exact absurd h5 (by decide))
   | (simp at h5; omega)
 cases hwl with
 | cons w1 w2 =>
  cases w2
  cases w1 with
  | list ho hall=>exact ⟨_,_,ns,rfl,rfl,ho,J5L ns _ hall,hlen⟩
theorem Jc7 (l : OpenLaw) (args : List WData) : l.row.toRowW.claim.post args (.bool true) args = true :=
 postW_of (r:=l.row.toRowW) (X:=(true == true))
  (show WShape.has [] (.bool true) .bool = true by first | rfl | decide | simp [WShape.has,WShape.arms,WShape.armsAll])
  (show (WTm.eq .res (.lit (.bool true))).value [] { args:=args,res:=some (.bool true),after:=args } = some (.bool (true == true)) from w_eq_bool (w_res rfl) w_lit) rfl
theorem attach_call {l : OpenLaw} {n : Nat} {q : Program} {loose : List Str} {XP : (Str → Option Value) → Heap → Prop} {YP : World → Heap → Prop} {d : DefRec}
  (hn : l.most = some n) (hdf : d.params.defaults = [])
  (call : ∀ (w : World) (s₀ s₁ : Shared) (mg mb : Str → Option Value) (fa : Addr) (o : Obj) (pm cd doc : Value) (a : Addr) (vs : List Value) (ns : List Int),
   Ground q loose [] XP w s₀ mg mb s₁.heap → YP w s₁.heap →
   s₁.heap.get? fa = some o → o.data = .func (docDef d.name d.params d.body d.scope pm cd doc) → s₁.heap.CodeRec cd d.name → mg d.name = some (.ref fa) →
   s₁.heap.get? a = some { cls:=.type "list",data:=.seq vs.toArray } → IntsAre vs ns → ns.length ≤ n → s₁.gens = #[] →
   codeAny (model l.prog w) callerA (.call (.ref fa) ⟨[.ref a],[]⟩) (fun r s'=>r = .ok (.ret (.bool true)) ∧ OldK s₁.heap s'.heap ∧ s'.os = s₁.os ∧ AllBare s'.gens) s₁) :
  WalkO q loose XP YP l.row.toRowW d [] (fun f vs=>PySem.call f vs):=by
 intro w s₀ s₁ mg mb G Y fa o pm cd doc dV kV ho hd hcd hD hmg hg args vals as hpre hlay hrd hwl hlo
 obtain rfl : dV = .none:=Dflts.none hD hdf
 obtain rfl : kV = .none:=Dflts.noKw hD
 obtain ⟨a,vs,ns,rfl,rfl,hobj,hints,hlen⟩:=Jc1 hn hpre hwl
 refine enter_call (codeAny_mono (call w s₀ s₁ mg mb fa o pm cd doc a vs ns G Y ho (fd_plain hd) hcd hmg hobj hints hlen hg) fun r s' hq=>?_)
 obtain ⟨rfl,h2,h3,h4⟩:=hq
 exact ⟨.inl ⟨.bool true,.bool true,[],rfl,fun _=>rfl,.bool true,Jc7 l _,fun _=>⟨List.Pairwise.nil,fun _ hm=>(nomatch hm)⟩⟩,h2,h3,h4⟩
section
variable {prog : Program} {w : World} {A : Around} {E : Value → Shared → Prop} {s : Shared} {K : Frag}
end
end Att
namespace L2
open PySem PySem.Spec PyProof.Rows
theorem J7y : ∀ {vs : List Value} {ns : List Int},IntsAre vs ns → Vals (ns.map V.int) vs
 | _,_,.nil=>.nil
 | _,_,.cons n t h=>.cons ⟨t,rfl⟩ (J7y h)
noncomputable def Only (H : Hp) : Prop:=∀ b,H b = none ∨ ∃ o xs,H b = some (.frz o (.lst xs))
theorem Jd2 {P : Program} {w : World} {K : PySem.W.Frag} {mg mb : Str → Option Value} {CX : CXT} {k : Nat} {fa a : Addr} {fd : FuncData} {x : Str} {sp : Sp} {s₁ : Shared} {vs : List Value} {ns : List Int}
  (KX : K.In s₁.heap) (hns : s₁.heap.Ns mainGlobals mg) (hb : s₁.heap.Ns builtinsNs mb) (hbb : ∀ x : Str,x ≠ "__name__" → mb x = bootBuiltins x) (hlim : s₁.heap.NoLimit) (hg : s₁.gens = #[])
  (ha : s₁.heap.get? a = some { cls:=.type "list",data:=.seq vs.toArray }) (hi : IntsAre vs ns) (hl : ns.length ≤ sizeLine) (hr : Room k callerA)
  (F : ∀ base : Heap,K.In base → base.Ns mainGlobals mg → FnOk P w K mg base CX k fa fd [x] sp) (hbind : ∀ (s : Shared) (u : Value),BindsTo s fd ⟨[u],[]⟩ [(x,u)])
  (hsp : ∀ H : Hp,Only H → SqL K H a (ns.map V.int) → sp [.ref a] H (fun v _=>v = .bl true) fun _ _ _=>False)
  (hCX : ∀ H e s',CX [] H s₁ (fun _ _ _=>False) e s' → False) :
  codeAny (model P w) callerA (.call (.ref fa) ⟨[.ref a],[]⟩) (fun r s'=>r = .ok (.ret (.bool true)) ∧ OldK s₁.heap s'.heap ∧ s'.os = s₁.os ∧ AllBare s'.gens) s₁:=by
 have rv:=J7y hi
 have lenV:=hi.length
 have core : ∀ H : Hp,Only H → SqL K H a (ns.map V.int) → HOk P w H s₁.heap → (∀ b,H b ≠ none → b = a) → (H a ≠ none → K.lookup a = none) →
   codeAny (model P w) callerA (.call (.ref fa) ⟨[.ref a],[]⟩) (fun r s'=>r = .ok (.ret (.bool true)) ∧ OldK s₁.heap s'.heap ∧ s'.os = s₁.os ∧ AllBare s'.gens) s₁:=by
  intro H hO hS hok hA hK
  have base_of : ∀ {b : Addr} {o : Obj},s₁.heap.get? b = some o → H b = none → (hidT s₁.heap H).get? b = some o:=fun e n=>JcV e n
  have noA : ∀ {b : Addr} {o : Obj} {es : Array DictEntry} {ep : Nat},s₁.heap.get? b = some o → o.data = .dict es ep → H b = none:=fun {b o es ep} e d=>by
   cases q : H b with
   | none=>rfl
   | some u =>
    have e' : b = a:=hA b (by rw [q]; simp)
    subst e'
    rw [ha] at e; cases e
    have d' : Data.seq vs.toArray _ = Data.dict es ep:=d
    cases d'
  have nsK : ∀ {b : Addr} {m : Str → Option Value},s₁.heap.Ns b m → (hidT s₁.heap H).Ns b m:=fun {b m} ⟨o,es,ep,e,d,r⟩=>⟨o,es,ep,base_of e (noA e d),d,r⟩
  have hKb : K.In (hidT s₁.heap H):=fun b o e=>base_of (KX b o e) (by
   cases q : H b with
   | none=>rfl
   | some u =>
    have e' : b = a:=hA b (by rw [q]; simp)
    subst e'
    rw [hK (by rw [q]; simp)] at e; cases e)
  have hM : Mod K mg (hidT s₁.heap H):=⟨hKb,nsK hns,⟨mb,nsK hb,hbb⟩,let ⟨mc,h1,h2⟩:=hlim; ⟨mc,nsK h1,h2⟩⟩
  have e0 : Env0 P w K mg (hidT s₁.heap H) callerA [] s₁ H:=⟨rfl,hM,fun b o e=>Je0 e,Nat.le_of_eq (Jc6 _ _),trivial,fun b hb=>absurd (show b ∈ ([] : List Addr) from hb) (by simp),hok,.of_eq hg⟩
  refine codeAny_mono ((F _ hKb (nsK hns)).run callerA [] s₁ H ⟨[.ref a],[]⟩ [.ref a] [.ref a] _ _ hr e0 (hbind s₁ (.ref a)) (.cons rfl .nil) (hsp H hO hS)) fun r s' h=>?_
  cases r with
  | error e=>exact (hCX H e s' h).elim
  | ok fl =>
   cases fl with
   | next=>exact False.elim h
   | brk=>exact False.elim h
   | cont=>exact False.elim h
   | ret u =>
    obtain ⟨v,H',os,bare,un,hok',r',q⟩:=h
    have q' : v = .bl true:=q
    subst q'
    obtain rfl : u = Value.bool true:=r'
    refine ⟨rfl,OldK.of_keep fun b o e=>?_,os,bare⟩
    cases q : H b with
    | none=>exact un.keep b o e q (by intro z; exact absurd (show b ∈ ([] : List Addr) from z) (by simp)) (by simp)
    | some u =>
     rcases hO b with z | ⟨ob,xs,z⟩
     ·rw [q] at z; cases z
     ·have z2:=un.frzs b ob _ z
      obtain ⟨e1,_⟩:=hok b _ z
      obtain ⟨e2,_⟩:=hok' b _ z2
      rw [e] at e1; cases e1
      exact e2
 cases hk : K.lookup a with
 | some o =>
  have e:=KX a o hk
  rw [ha] at e
  cases e
  refine core (fun _=>none) (fun _=>.inl rfl) (.inr ⟨_,vs.toArray,_,hk,rfl,rfl,rfl,by rw [List.size_toArray,lenV]; exact hl,by simpa using rv⟩) (fun b u z=>by have z' : (none : Option HO) = some u:=z; cases z') (fun b z=>absurd rfl z) fun z=>absurd rfl z
 | none =>
  refine core (fun b=>if b = a then some (.frz { cls:=.type "list",data:=.seq vs.toArray } (.lst (ns.map V.int))) else none) (fun b=>?_) (.inl (.inr ⟨{ cls:=.type "list",data:=.seq vs.toArray },if_pos rfl⟩)) (fun b u z=>?_) (fun b z=>?_) fun _=>hk
  ·by_cases hb : b = a
   ·exact .inr ⟨_,_,if_pos hb⟩
   ·exact .inl (if_neg hb)
  ·by_cases hb : b = a
   ·have z':=(if_pos hb).symm.trans z
    cases z'
    subst hb
    exact ⟨ha,by rw [List.length_map]; exact hl,vs,_,rv,ha⟩
   ·have z':=(if_neg hb).symm.trans z
    cases z'
  ·by_cases hb : b = a
   ·exact hb
   ·exact absurd (if_neg hb) z
end L2
namespace L2
open PySem PySem.Spec PyProof.Rows
theorem walk_of {l : PySem.W.OpenLaw} {n k : Nat} {q : Program} {loose : List Str} {XP : (Str → Option Value) → Heap → Prop} {YP : World → Heap → Prop} {d : DefRec} {K : Params → PySem.W.Frag} {CX : World → CXT} {sp : World → Sp} {x : Str}
  (hn : l.most = some n) (hn2 : n ≤ sizeLine) (hdf : d.params.defaults = []) (hr : Room k callerA)
  (hY : ∀ (w : World) (h : Heap),YP w h → (K w.params).In h)
  (F : ∀ (w : World) (mg : Str → Option Value) (fa : Addr) (h : Heap),(K w.params).In h → h.Ns mainGlobals mg → mg d.name = some (.ref fa) →
   ∃ fd : FuncData,(∀ (s : Shared) (u : Value),BindsTo s fd ⟨[u],[]⟩ [(x,u)]) ∧
    ∀ base : Heap,(K w.params).In base → base.Ns mainGlobals mg → FnOk l.prog w (K w.params) mg base (CX w) k fa fd [x] (sp w))
  (hsp : ∀ (w : World) (H : Hp) (a : Addr) (ns : List Int),ns.length ≤ n → Only H → SqL (K w.params) H a (ns.map V.int) → sp w [.ref a] H (fun v _=>v = .bl true) fun _ _ _=>False)
  (hCX : ∀ (w : World) (H : Hp) (s : Shared) (e : Value) (s' : Shared),CX w [] H s (fun _ _ _=>False) e s' → False) :
  PySem.W.WalkO q loose XP YP l.row.toRowW d [] (fun f vs=>PySem.call f vs):=by
 refine Att.attach_call hn hdf fun w s₀ s₁ mg mb fa o pm cd doc a vs ns G Y ho hd hcd hmg hobj hints hlen hg=>?_
 have KX:=hY w _ Y
 obtain ⟨fd,hb,hF⟩:=F w mg fa _ KX G.T.g hmg
 exact Jd2 KX G.T.g G.T.b G.T.builtins G.T.nolimit hg hobj hints (Nat.le_trans hlen hn2) hr hF hb (fun H hO hS=>hsp w H a ns hlen hO hS) fun H e s'=>hCX w H s₁ e s'
end L2
namespace L2
open PySem PySem.Spec PyProof.Rows
noncomputable def J0G (s : Stmt) (j : Nat) : Stmt:=match s with
 | .ClassDef _ _ _ body _ _ _ _ _ _ _=>body.getD j (.Pass ⟨0,0,0,0⟩)
 | _=>.Pass ⟨0,0,0,0⟩
noncomputable def Ju (s : Stmt) : Arguments:=match s with
 | .FunctionDef _ a _ _ _ _ _ _ _ _=>a
 | _=>{ posonlyargs:=[],args:=[],vararg:=none,kwonlyargs:=[],kw_defaults:=[],kwarg:=none,defaults:=[] }
noncomputable def Jt (s : Stmt) : List Stmt:=match s with
 | .FunctionDef _ _ b _ _ _ _ _ _ _=>b
 | _=>[]
noncomputable def J9 (s : Stmt) : Scope:=match s with
 | .FunctionDef _ _ _ _ _ _ sc _ _ _=>sc
 | _=>{ kind:=.function,names:=[],isGenerator:=false,isCoroutine:=false }
noncomputable abbrev CX0 : CXT:=fun _ _ _ _ _ _=>False
noncomputable abbrev E0 : XK:=fun _ _ _=>False
theorem Jbo {X : Cx} : J3S CX0 X E0:=fun _ _ _ _ _ _ _ h=>h.elim
structure Fun (K : PySem.W.Frag) (x qual : Str) (st : Stmt) (f : Addr) (fd : FuncData) : Prop where
 ex : ∃ (oc : Value) (od : Option Addr) (kV doc pm : Value) (an : Option Addr) (cdv ct : Value) (osl : Array (Option Value)),
  fd = PySem.W.fnOf x qual (Ju st) (Jt st) (J9 st) .none kV doc pm an cdv ct ∧ K.lookup f = some ⟨oc,od,.func fd,osl⟩ ∧ PySem.W.codeIn K cdv qual = true
 kp : PySem.W.keepIn K (.ref f) = true
section
variable {P : Program} {w : World} {K : PySem.W.Frag} {mg : Str → Option Value} {base : Heap}
theorem Fun.ok {x qual : Str} {st : Stmt} {f : Addr} {fd : FuncData} {N ps : List Str} {k : Nat} {sp : Sp} (F : Fun K x qual st f fd) (S : Jv N ps (J9 st)) (len : ∀ vs H Q E,sp vs H Q E → vs.length = ps.length)
  (hbody : ∀ (cdv : Value) (A : Around) (outer : List Env) (s : Shared) (H : Hp) (vs : List V) (Q : VK) (E : XK),Room k (A.deeper (envOfC qual (J9 st) s.heap.objs.size f cdv)) → sp vs H Q E →
   ∃ t,PSs (cxOf CX0 P w K mg base N qual (J9 st) f cdv A outer s H E).nox (Jt st) t ∧ t { nx:=fun _ H'=>Q .non H',rt:=Q } (start N vs) H) : FnOk P w K mg base CX0 (k + 1) f fd ps sp:=by
 obtain ⟨oc,od,kV,doc,pm,an,cdv,ct,osl,rfl,lk,hcd⟩:=F.ex
 refine Jd0 lk hcd S len fun A outer s H vs Q E hr hsp=>?_
 obtain ⟨t,h,q⟩:=hbody cdv A outer s H vs Q E hr hsp
 exact ⟨t,h.nox,q⟩
theorem Fun.binds {x qual : Str} {st : Stmt} {f : Addr} {fd : FuncData} {ps : List Str} (F : Fun K x qual st f fd)
  (h : ∀ (kV doc pm : Value) (an : Option Addr) (cdv ct : Value) (us : List Value),us.length = ps.length → bindArgs (PySem.W.fnOf x qual (Ju st) (Jt st) (J9 st) .none kV doc pm an cdv ct) ⟨us,[]⟩ = pure (ps.zip us)) : J3o K fd ps []:=by
 obtain ⟨oc,od,kV,doc,pm,an,cdv,ct,osl,rfl,lk,hcd⟩:=F.ex
 exact .all (h kV doc pm an cdv ct)
theorem JG {x qual : Str} {st : Stmt} {f : Addr} {oc : Value} {od an : Option Addr} {osl : Array (Option Value)} {kV doc pm cdv ct : Value} (l : K.lookup f = some ⟨oc,od,.func (PySem.W.fnOf x qual (Ju st) (Jt st) (J9 st) .none kV doc pm an cdv ct),osl⟩)
  (c : PySem.W.codeIn K cdv qual = true) (k : PySem.W.keepIn K (.ref f) = true) : Fun K x qual st f (PySem.W.fnOf x qual (Ju st) (Jt st) (J9 st) .none kV doc pm an cdv ct):=⟨⟨oc,od,kV,doc,pm,an,cdv,ct,osl,rfl,l,c⟩,k⟩
end
theorem JfN {A : Around} {k : Nat} (hr : Room k A) : A.units + 1 < cLine:=Nat.lt_of_le_of_lt (Nat.add_le_add_left (by decide : 1 ≤ 64) _) hr.units
section
variable {X : Cx}
theorem pv (i : Nat) {x : Str} {pos : Pos} (hN : X.N[i]? = some x:=by rfl) (hv : Vis X.env.scope x:=by first | exact Or.inl rfl | exact Or.inr (Or.inl rfl) | exact Or.inr (Or.inr rfl)) (hd : (x == ("__debug__" : Str)) = false:=by decide)
  (hcd : (x == ("__classdict__" : Str)) = false:=by decide) : PE X (.Name x pos) (tVar i):=Jfi hN hv hd hcd
end
theorem iteF {A B : Prop} (h : B) : if false = true then A else B:=by
 rw [if_neg Bool.false_ne_true]
 exact h
theorem iteT {A B : Prop} (h : A) : if true = true then A else B:=by
 rw [if_pos rfl]
 exact h
theorem ite2 {c A B : Prop} [Decidable c] (h1 : c → A) (h2 : ¬ c → B) : if c then A else B:=by
 by_cases h : c
 ·rw [if_pos h]
  exact h1 h
 ·rw [if_neg h]
  exact h2 h
noncomputable def Same (H H' : Hp) : Prop:=∀ b o,H b = some o → H' b = some o
theorem Same.refl (H : Hp) : Same H H:=fun _ _ h=>h
theorem Same.trans {H H1 H2 : Hp} (a : Same H H1) (b : Same H1 H2) : Same H H2:=fun c o h=>b c o (a c o h)
theorem Same.free {H H' : Hp} (e : Same H H') {l : Addr} (h : H' l = Option.none) : H l = Option.none:=by
 cases q : H l with
 | none=>rfl
 | some o =>
  rw [e l o q] at h
  cases h
theorem Same.seq {K : PySem.W.Frag} {H H' : Hp} {a : Addr} {xs : List V} (e : Same H H') (h : SqL K H a xs) : SqL K H' a xs:=by
 rcases h with (h | ⟨o,h⟩) | h
 ·exact .inl (.inl (e _ _ h))
 ·exact .inl (.inr ⟨o,e _ _ h⟩)
 ·exact .inr h
end L2
set_option linter.all false
set_option maxRecDepth 100000
set_option maxHeartbeats 4000000
namespace L2
open PySem PySem.Spec PyProof.Rows
theorem J7q {scope : Scope} {env : Env} (h : ∀ y ∈ scope.names,y.2 = .free → ∃ c,env.cells.lookup y.1 = some c) :
  ∃ cl,closureFor scope env = pure cl ∧ (∀ y ∈ scope.names,y.2 = NameKind.free → cl.lookup y.1 = env.cells.lookup y.1) ∧ (∀ x c,cl.lookup x = some c → env.cells.lookup x = some c):=by
 have key : ∀ (names : List (Str × NameKind)) (acc : List (Str × Addr)) (f : Str × NameKind → List (Str × Addr) → Sem (ForInStep (List (Str × Addr)))),
   (∀ x cs,f x cs = if (x.2 == NameKind.free) = true then (cellOf env x.1 >>= fun a=>pure (ForInStep.yield ((x.1,a) :: cs))) else pure (ForInStep.yield cs)) →
   (∀ y ∈ names,y.2 = .free → ∃ c,env.cells.lookup y.1 = some c) → (∀ x c,acc.lookup x = some c → env.cells.lookup x = some c) →
   ∃ cl,forIn names acc f = pure cl ∧ (∀ x c,acc.lookup x = some c → cl.lookup x = env.cells.lookup x) ∧ (∀ y ∈ names,y.2 = NameKind.free → cl.lookup y.1 = env.cells.lookup y.1) ∧ (∀ x c,cl.lookup x = some c → env.cells.lookup x = some c):=by
  intro names
  induction names with
  | nil =>
   intro acc f _ _ ha
   exact ⟨acc,rfl,fun x c e=>by rw [e,ha x c e],fun _ h=>(nomatch h),ha⟩
  | cons y r ih =>
   intro acc f hf hn ha
   obtain ⟨n,k⟩:=y
   rw [List.forIn_cons,hf]
   by_cases hk : k = .free
   ·subst hk
    obtain ⟨c,hc⟩:=hn (n,.free) List.mem_cons_self rfl
    have hc' : cellOf env n = pure c:=by unfold cellOf; rw [hc]
    have ha' : ∀ x d,((n,c) :: acc).lookup x = some d → env.cells.lookup x = some d:=fun x d e=>by
     rw [List.lookup_cons] at e
     cases hx : x == n with
     | true =>
      rw [hx] at e
      have e' : c = d:=Option.some.inj e
      have hx' : x = n:=by simpa using hx
      rw [hx',hc,e']
     | false =>
      rw [hx] at e
      exact ha x d e
    obtain ⟨cl,e,h1,h2,h3⟩:=ih ((n,c) :: acc) f hf (fun y hy=>hn y (List.mem_cons_of_mem _ hy)) ha'
    refine ⟨cl,?_,fun x d ex=>?_,fun y hy hyf=>?_,h3⟩
    ·rw [if_pos (by rfl)]
     show ((cellOf env n >>= fun a=>pure (ForInStep.yield ((n,a) :: acc))) >>= _) = pure cl
     rw [hc',pure_bind,pure_bind]
     exact e
    ·by_cases hxn : x = n
     ·subst hxn
      exact h1 x c (by rw [List.lookup_cons,beq_self_eq_true])
     ·refine h1 x d ?_
      rw [List.lookup_cons,beq_eq_false_iff_ne.mpr hxn]
      exact ex
    ·rcases List.mem_cons.mp hy with rfl | hy
     ·exact h1 _ c (by rw [List.lookup_cons,beq_self_eq_true])
     ·exact h2 y hy hyf
   ·have hb : (k == NameKind.free) = false:=by simpa using hk
    obtain ⟨cl,e,h1,h2,h3⟩:=ih acc f hf (fun y hy=>hn y (List.mem_cons_of_mem _ hy)) ha
    refine ⟨cl,?_,h1,fun y hy hyf=>?_,h3⟩
    ·show ((if (k == NameKind.free) = true then _ else pure (ForInStep.yield acc)) >>= _) = pure cl
     rw [if_neg (by rw [hb]; exact Bool.false_ne_true),pure_bind]
     exact e
    ·rcases List.mem_cons.mp hy with rfl | hy
     ·exact absurd hyf hk
     ·exact h2 y hy hyf
 have z:=key scope.names [] (fun x cs=>if (x.2 == NameKind.free) = true then (cellOf env x.1 >>= fun a=>pure (ForInStep.yield ((x.1,a) :: cs))) else pure (ForInStep.yield cs)) (fun _ _=>rfl) h (fun _ _ e=>(nomatch e))
 obtain ⟨cl,e,_,h2,h3⟩:=z
 refine ⟨cl,?_,h2,h3⟩
 show (forIn scope.names [] _ >>= pure) = pure cl
 exact (congrArg (· >>= pure) e).trans (pure_bind _ _)
noncomputable abbrev J3G (X : Cx) (scope : Scope) (N : List Str) (s₀ : Shared) (H₀ : Hp) (cl : List (Str × Addr)) (C : Addr) (ex : List Addr) : Cx :=
 {prog:=X.prog,w:=X.w,K:=X.K,mg:=X.mg,base:=X.base,A:=X.A,N:=N,s₀:=s₀,H₀:=H₀,env:=compEnvC scope cl C X.env,
  outer:=X.stack,stack:=X.stack,ex:=ex,fn:=fun _=>false,calm:=X.calm,pn:=[],xe:=fun _ _=>False }
theorem J8v {prog : Program} {w : World} {A : Around} {R : Result → Shared → Prop} {s : Shared} {elt target iter : Expr} {ifs : List Expr} {scope : Scope} {pos : Pos} {it acc : Value} {env : Env} (I : Nat → Shared → Prop)
  (turn : ∀ n s,I n s → wpAny (model prog w) A (pyNext it) (fun r s₁=>match r with
   | none=>R (.ok .next) s₁
   | some v=>wpAny (model prog w) A (letOwnedTupleGo target it v) (fun _ s₁'=>wpAny (model prog w) A (assign target env v) (fun _ s₂ =>
     wpAny (model prog w) A (forIn ifs true fun c r=>if r = true then do let ok ← isTrue c env (eval c env); pure (ForInStep.yield ok) else pure (ForInStep.yield r)) (fun ok s₃ =>
      if ok = true then wpAny (model prog w) A (eval elt env) (fun x s₄ =>
       wpAny (model prog w) A (call (.builtin "list.append") [acc,x]) (fun _ s₅=>∃ m,m < n ∧ I m s₅) (fun _ _=>False) s₄) (fun _ _=>False) s₃
      else ∃ m,m < n ∧ I m s₃) (fun _ _=>False) s₂) (fun _ _=>False) s₁') (fun _ _=>False) s₁) (fun _ _=>False) s)
  (n : Nat) (h : I n s) :
  codeAny (model prog w) A (.compLoop (.ListComp elt [⟨target,iter,ifs,0⟩] scope pos) 0 it acc env) R s:=by
 refine codeAny_loop rfl I (fun n s hI=>?_) n h
 show wpAny _ A ((compTurn (.ListComp elt [⟨target,iter,ifs,0⟩] scope pos) 0 it acc env).onRaise (fun x=>do noteFrame x env; theTreesLotGoes x)) _ _ s
 refine wpAny_noted ?_
 rw [compTurn_list]
 refine wpAny_bind (wpAny_standAt (wpAny_bind (wpAny_mono (turn n s hI) (fun r s₁ h₁=>?_) fun _ _ z=>z.elim)))
 cases r with
 | none=>exact wpAny_pure h₁
 | some v =>
  refine wpAny_bind (wpAny_mono h₁ (fun _ s₁' h₁'=>?_) fun _ _ z=>z.elim)
  refine wpAny_bind (wpAny_mono h₁' (fun _ s₂ h₂=>wpAny_bind (wpAny_mono h₂ (fun ok s₃ h₃=>?_) fun _ _ z=>z.elim)) fun _ _ z=>z.elim)
  cases ok with
  | false=>exact wpAny_pure ⟨rfl,h₃⟩
  | true =>
   exact wpAny_bind (wpAny_bind (wpAny_mono h₃ (fun x s₄ h₄=>wpAny_bind (wpAny_mono h₄ (fun _ s₅ h₅=>wpAny_pure (wpAny_pure ⟨rfl,h₅⟩)) fun _ _ z=>z.elim)) fun _ _ z=>z.elim))
noncomputable def PIfs (X : Cx) (ifs : List Expr) (t : TT) : Prop :=
 ∀ (pins : List (Addr × Obj)) (s : Shared) (σ : St) (H : Hp) (Q : Bool → Hp → Prop),Inv X pins σ H s → t σ H Q →
  wpAny (model X.prog X.w) X.A (forIn ifs true fun c r=>if r = true then do let ok ← isTrue c X.env (eval c X.env); pure (ForInStep.yield ok) else pure (ForInStep.yield r)) (TP X pins σ Q) X.xe s
noncomputable def tYes : TT:=fun _ H Q=>Q true H
theorem J3P {X : Cx} : PIfs X [] tYes:=fun _ _ _ H _ I h=>wpAny_tests_nil ⟨H,I,h⟩
theorem J1E {X : Cx} {c : Expr} {t : TT} (hc : PT X c t) : PIfs X [c] t:=fun pins s σ H Q I h=>wpAny_tests_one (hc pins s σ H Q I h)
noncomputable def J4Q (J : It) (H1 : Hp) (σ0 : St) (g : TG) (tc : TT) (te : TE) (Q : VK) : Prop:=∀ D,H1 D = none →
  ∃ W : Nat → Nat → St → List V → Hp → Prop,(∃ m,W 0 m σ0 [] (upd H1 D (.lst []))) ∧ ∀ i m σ1 ys H,W i m σ1 ys H →
    (J.stop i H ∧ Q (.ref D) H) ∨ (J.go i H ∧ ∀ x H',J.yld i H x H' → g x σ1 H' fun σ2 H2=>tc σ2 H2 fun b H3 =>
       if b = true then te σ2 H3 fun y H4=>H4 D = some (.lst ys) ∧ ys.length < sizeLine ∧ ∃ m',m' < m ∧ W (i + 1) m' σ2 (ys ++ [y]) (upd H4 D (.lst (ys ++ [y])))
       else ∃ m',m' < m ∧ W (i + 1) m' σ2 ys H3)
noncomputable def JfH (wi : TI) (sub : St → St) (g : TG) (tc : TT) (te : TE) : TE:=fun σ H Q=>wi σ H fun J H1=>J4Q J H1 (sub σ) g tc te Q
noncomputable def subσ (js : List (Option Nat)) (σ : St) : St:=js.map fun o=>o.bind fun j=>(σ[j]?).join
theorem J2L {env : Env} : ∀ {names : List (Str × NameKind)} {x : Str},names.lookup x = some .free →
  (names.map fun (n,k)=>if (k == NameKind.free && env.scope.kind == .function && env.kindOf n == some .cell) then (n,NameKind.cell) else (n,k)).lookup x = some .cell ∨
  (names.map fun (n,k)=>if (k == NameKind.free && env.scope.kind == .function && env.kindOf n == some .cell) then (n,NameKind.cell) else (n,k)).lookup x = some .free
 | [],_,h=>by simp at h
 | (n,k) :: r,x,h=>by
  have ih:=@J2L env r x
  show List.lookup x ((if (k == NameKind.free && env.scope.kind == .function && env.kindOf n == some .cell) = true then (n,NameKind.cell) else (n,k)) :: _) = _ ∨ List.lookup x ((if (k == NameKind.free && env.scope.kind == .function && env.kindOf n == some .cell) = true then (n,NameKind.cell) else (n,k)) :: _) = _
  cases hx : x == n with
  | true =>
   simp only [List.lookup_cons,hx] at h
   cases h
   by_cases hc : (NameKind.free == NameKind.free && env.scope.kind == .function && env.kindOf n == some .cell) = true
   ·rw [if_pos hc]; left; simp only [List.lookup_cons,hx]
   ·rw [if_neg hc]; right; simp only [List.lookup_cons,hx]
  | false =>
   simp only [List.lookup_cons,hx] at h
   by_cases hc : (k == NameKind.free && env.scope.kind == .function && env.kindOf n == some .cell) = true
   ·rw [if_pos hc]; simp only [List.lookup_cons,hx]; exact ih h
   ·rw [if_neg hc]; simp only [List.lookup_cons,hx]; exact ih h
theorem J4V {env : Env} : ∀ {names : List (Str × NameKind)} {x : Str},(∀ y ∈ names,y.2 ≠ NameKind.cell) →
  ((names.map fun (n,k)=>if (k == NameKind.free && env.scope.kind == .function && env.kindOf n == some .cell) then (n,NameKind.cell) else (n,k)).lookup x = some .cell ∨
  (names.map fun (n,k)=>if (k == NameKind.free && env.scope.kind == .function && env.kindOf n == some .cell) then (n,NameKind.cell) else (n,k)).lookup x = some .free) → (x,NameKind.free) ∈ names
 | [],_,_,h=>by simp at h
 | (n,k) :: r,x,hn,h=>by
  have ih:=@J4V env r x fun y hy=>hn y (List.mem_cons_of_mem _ hy)
  have hk : k ≠ .cell:=hn (n,k) List.mem_cons_self
  change List.lookup x ((if (k == NameKind.free && env.scope.kind == .function && env.kindOf n == some .cell) = true then (n,NameKind.cell) else (n,k)) :: _) = _ ∨ List.lookup x ((if (k == NameKind.free && env.scope.kind == .function && env.kindOf n == some .cell) = true then (n,NameKind.cell) else (n,k)) :: _) = _ at h
  cases hx : x == n with
  | true =>
   have hx' : x = n:=by simpa using hx
   subst hx'
   by_cases hc : (k == NameKind.free && env.scope.kind == .function && env.kindOf x == some .cell) = true
   ·have : k = .free:=by
     have:=(Bool.and_eq_true _ _).mp ((Bool.and_eq_true _ _).mp hc).1
     simpa using this.1
    subst this
    exact List.mem_cons_self
   ·rw [if_neg hc] at h
    simp only [List.lookup_cons,beq_self_eq_true] at h
    rcases h with h | h
    ·exact absurd (Option.some.inj h) hk
    ·have:=Option.some.inj h
     subst this
     exact List.mem_cons_self
  | false =>
   by_cases hc : (k == NameKind.free && env.scope.kind == .function && env.kindOf n == some .cell) = true
   ·rw [if_pos hc] at h; simp only [List.lookup_cons,hx] at h; exact List.mem_cons_of_mem _ (ih h)
   ·rw [if_neg hc] at h; simp only [List.lookup_cons,hx] at h; exact List.mem_cons_of_mem _ (ih h)
section
variable {X : Cx} {elt tg iter : Expr} {ifs : List Expr} {scope : Scope} {pos : Pos} {N : List Str} {js : List (Option Nat)} {wi : TI} {g : TG} {tc : TT} {te : TE}
structure J5r (osc : Scope) (ON : List Str) (scope : Scope) (N : List Str) (js : List (Option Nat)) : Prop where
 kind : scope.kind = .function
 cell : ∀ y ∈ scope.names,y.2 ≠ .cell
 names : ∀ y ∈ scope.names,y.2 = .local → scope.names.lookup y.1 = some .local
 free : ∀ y ∈ scope.names,y.2 = .free → osc.names.lookup y.1 = some .cell ∨ osc.names.lookup y.1 = some .free
 len : js.length = N.length
 slots : (js.zip N).all (fun p=>match p.1 with | none=>true | some j=>decide (ON[j]? = some p.2) && decide (scope.names.lookup p.2 = some .free)) = true
theorem J5r.sub {osc : Scope} {ON : List Str} {scope : Scope} {N : List Str} {js : List (Option Nat)} (cs : J5r osc ON scope N js) : ∀ (i j : Nat),js[i]? = some (some j) → ∃ x,N[i]? = some x ∧ ON[j]? = some x ∧ scope.names.lookup x = some .free:=by
 intro i j h
 have hi : i < js.length:=(List.getElem?_eq_some_iff.mp h).1
 have hN : N[i]? = some (N[i]'(by rw [← cs.len]; exact hi)):=List.getElem?_eq_getElem _
 have hz : (js.zip N)[i]? = some (some j,N[i]'(by rw [← cs.len]; exact hi)):=by
  rw [List.getElem?_zip_eq_some]
  exact ⟨h,hN⟩
 have hm:=List.all_eq_true.mp cs.slots _ (List.mem_of_getElem? hz)
 have hm2:=(Bool.and_eq_true _ _).mp hm
 exact ⟨_,hN,of_decide_eq_true hm2.1,of_decide_eq_true hm2.2⟩
theorem mem_of_lookup {α : Type} : ∀ {l : List (Str × α)} {x : Str} {k : α},l.lookup x = some k → (x,k) ∈ l
 | [],_,_,h=>by simp at h
 | (n,v) :: r,x,k,h=>by
  rw [List.lookup_cons] at h
  cases hx : x == n with
  | true =>
   rw [hx] at h
   have hx' : x = n:=by simpa using hx
   have : v = k:=Option.some.inj h
   subst hx' this
   exact List.mem_cons_self
  | false =>
   rw [hx] at h
   exact List.mem_cons_of_mem _ (mem_of_lookup h)
theorem J0W {osc : Scope} {ON : List Str} (cs : J5r osc ON scope N js) (ho : X.env.scope = osc) (hON : X.N = ON) (hc : X.calm = true) (hi : PI X tg iter wi)
    (hg : ∀ s₀ H₀ cl C ex,PG (J3G X scope N s₀ H₀ cl C ex) tg g) (hif : ∀ s₀ H₀ cl C ex,PIfs (J3G X scope N s₀ H₀ cl C ex) ifs tc) (he : ∀ s₀ H₀ cl C ex,PE (J3G X scope N s₀ H₀ cl C ex) elt te)
    (hs : ∀ x,foldedSetIterable iter X.env x = pure x:=by intro _; rfl) : PE X (.ListComp elt [⟨tg,iter,ifs,0⟩] scope pos) (JfH wi (subσ js) g tc te):=by
  intro pins s σ H Q I h
  subst ho hON
  obtain ⟨cl,hcl,cl1,cl2⟩:=J7q (scope:=scope) (env:=X.env) fun y hy hf=>I.ok.has y.1 (cs.free y hy hf)
  rw [eval_ListComp]
  refine wpAny_comprehension_free (use:=none) rfl hs hcl cs.kind cs.names ?_
  refine thn (hi pins s σ H _ I h) fun v s1 h1=>thn h1 fun itv s2 h2=>?_
  obtain ⟨it,fp,tn,J,H2,e,I2,T,st2,f2,hW⟩:=h2
  subst e
  have hD0 : H2 s2.heap.objs.size = none:=I2.hok.fresh (Nat.le_refl _)
  obtain ⟨W,⟨m0,w0⟩,turn⟩:=hW s2.heap.objs.size hD0
  have I3:=I2.lnew (t':=s2.toks) (ys:=[]) (its:=[]) .nil (Nat.zero_le _)
  refine wpAny_newObj_type (wpAny_newFunctionEnv cs.cell (by intro y hy; simp at hy) (fun h₁ hns₁ hsb₁=>?_) cs.kind)
  dsimp only at hns₁ hsb₁ ⊢
  obtain ⟨s3,hs3⟩ : ∃ s3 : Shared,s3 = { s2 with heap:=s2.heap.push { cls:=.type "list",data:=.seq ([] : List Value).toArray },toks:=s2.toks }:=⟨_,rfl⟩
  rw [← hs3] at I3
  have e3 : s3.heap = s2.heap.push { cls:=.type "list",dict:=none,data:=.seq ([] : List Value).toArray }:=by rw [hs3]
  have e3o : s3.os = s2.os:=by rw [hs3]
  have e3g : s3.gens = s2.gens:=by rw [hs3]
  rw [← e3] at hns₁ hsb₁ ⊢
  obtain ⟨H3,hH3⟩ : ∃ H3 : Hp,H3 = upd H2 s2.heap.objs.size (.lst []):=⟨_,rfl⟩
  rw [← hH3] at I3 w0
  have up1 : ∀ b o,s2.heap.get? b = some o → s3.heap.get? b = some o:=fun b o q=>by rw [e3]; exact Heap.get?_push_of_some _ q
  have up2 : ∀ b o,s3.heap.get? b = some o → h₁.get? b = some o:=fun b o q=>hsb₁.extBut b o (Nat.ne_of_lt (Heap.lt_size q)) (Heap.get?_push_of_some _ q)
  have fpo : ∀ b ∈ fp,∃ o,s3.heap.get? b = some o:=fun b hb=>by
    obtain ⟨o,ho,_⟩:=T.obj 0 _ st2 b hb
    exact ⟨o,up1 b o ho⟩
  have fr3 : ∀ b ∈ fp,H3 b = none:=fun b hb=>by
    obtain ⟨o,ho,_⟩:=T.obj 0 _ st2 b hb
    rw [hH3,Jn (Nat.ne_of_lt (Heap.lt_size ho))]
    exact (f2 b hb).1
  have fpC : ∀ b ∈ fp,b ≠ s3.heap.objs.size:=fun b hb=>by
    obtain ⟨o,ho⟩:=fpo b hb
    exact Nat.ne_of_lt (Heap.lt_size ho)
  have fpS : ∀ b ∈ fp,b ∉ frs X.stack:=fun b hb hs'=>by
    rcases List.mem_cons.mp (I2.stkSub b hs') with z | z
    · exact (f2 b hb).2.1 z
    · exact (f2 b hb).2.2.1 z
  have ok' : (J3G X scope N s3 H3 cl s3.heap.objs.size fp).Ok:=by
    refine ⟨I.ok.mod,cs.kind,I.ok.glob,I.ok.blt,Nat.le_refl _,fun x y c e1 e2=>I.ok.inj x y c (cl2 x c e1) (cl2 y c e2),fun x hx=>?_,fun x c hf=>(nomatch hf),I.ok.hd,I.ok.frames,.inl rfl,fun b hb=>⟨fpC b hb,fun x c e=>(f2 b hb).2.2.2.2.1 x c (cl2 x c e)⟩,
      I3.bs,Nat.le_trans I.ok.bsz I3.sz,fun b o e hb=>?_,fun b hb=>fpS b hb,I3.stack,I3.stkFree⟩
    · have hm : (x,NameKind.free) ∈ scope.names:=J4V cs.cell hx
      obtain ⟨c,hc⟩:=I.ok.has x (cs.free _ hm rfl)
      exact ⟨c,(cl1 _ hm rfl).trans hc⟩
    · rcases (f2 b hb).2.2.2.1 with z | z
      · exact I.ok.noex b o e z
      · exact absurd (Nat.lt_of_lt_of_le (Heap.lt_size e) (Nat.le_trans I.ok.bsz z)) (Nat.lt_irrefl _)
  have cellK : ∀ c v,s3.heap.IsCell c v → h₁.IsCell c v:=fun c v ⟨o,ho,hd⟩=>⟨o,up2 c o ho,hd⟩
  have I4 : ∀ t : Nat,Inv (J3G X scope N s3 H3 cl s3.heap.objs.size fp) [] (subσ js σ) H3 { s2 with heap:=h₁,toks:=t }:=fun t=>by
    refine ⟨ok',e3o.symm,I2.bare,Un.kept up2,⟨_,hns₁,fun i x v hi hv hx=>?_⟩,fun x c e=>?_,I3.hok.fresh (Nat.le_refl _),fun x c e=>I3.freeC x c (cl2 x c e),fun p hp=>(nomatch hp),I3.hok.kept up2,?_⟩
    ·
      have hv' : ∃ j,js[i]? = some (some j) ∧ σ[j]? = some (some v):=by
        unfold subσ at hv
        rw [List.getElem?_map] at hv
        cases hj : js[i]? with
        | none=>rw [hj] at hv; cases hv
        | some o =>
          rw [hj] at hv
          cases o with
          | none=>cases hv
          | some j =>
            refine ⟨j,rfl,?_⟩
            have hv2 : (σ[j]?).join = some v:=Option.some.inj hv
            cases hs2 : σ[j]? with
            | none=>rw [hs2] at hv2; cases hv2
            | some u=>rw [hs2] at hv2; exact congrArg some hv2
      obtain ⟨j,hj,hσ⟩:=hv'
      obtain ⟨x',h1',h2',h3'⟩:=cs.sub i j hj
      have hxx : x = x':=Option.some.inj (hi.symm.trans h1')
      subst hxx
      have hm : (x,NameKind.free) ∈ scope.names:=mem_of_lookup h3'
      have hk:=cs.free _ hm rfl
      obtain ⟨m,hn,hl⟩:=id I3.loc
      obtain ⟨u,ru,lk⟩:=hl j x v h2' hσ (by rcases hk with z | z; exact .inr (.inl z); exact .inr (.inr z))
      refine ⟨u,ru,?_⟩
      rcases lk with ⟨k1,_⟩ | ⟨k1,c,e1,z⟩
      · rcases hk with z | z <;> (rw [show X.env.kindOf x = _ from z] at k1; cases k1)
      · exact .inr ⟨J2L h3',c,(cl1 _ hm rfl).trans e1,cellK c _ z⟩
    · obtain ⟨v,z⟩:=I3.cell x c (cl2 x c e)
      exact ⟨v,cellK c v z⟩
    · unfold subσ
      rw [List.length_map]
      exact cs.len
  have hst₁ : tn 0 h₁:=T.keep 0 _ _ st2 fun b hb o q=>up2 b o (up1 b o q)
  have stat : ∀ {H' : Hp},(∀ b ∈ fp,H' b = none) → ∀ b ∈ fp,FpOk (J3G X scope N s3 H3 cl s3.heap.objs.size fp) [] H' b:=fun hn b hb =>
    ⟨hn b hb,fpC b hb,fpS b hb,.inl hb,fun x c e=>(f2 b hb).2.2.2.2.1 x c (cl2 x c e),fun p hp=>(nomatch hp)⟩
  have loop : ∀ s4 : Shared,(∃ t,s4 = { s2 with heap:=h₁,toks:=t }) →
      codeAny (model X.prog X.w) X.A (.compLoop (.ListComp elt [⟨tg,iter,ifs,0⟩] scope pos) 0 (.ref it) (.ref s2.heap.objs.size) (compEnvC scope cl s3.heap.objs.size X.env))
        (compPost (model X.prog X.w) X.A X.xe none (EP X pins σ Q) (.ref s2.heap.objs.size) s3.heap.objs.size) s4:=by
    rintro s4 ⟨t,rfl⟩
    refine J8v (fun n s'=>∃ i σ' ys H',Inv (J3G X scope N s3 H3 cl s3.heap.objs.size fp) [] σ' H' s' ∧ tn i s'.heap ∧ (∀ b ∈ fp,H' b = none) ∧ W i n σ' ys H') ?_ m0 ⟨0,_,[],H3,I4 t,hst₁,fr3,w0⟩
    rintro n s5 ⟨i,σ5,ys,H5,I5,st5,fr5,w5⟩
    rcases turn i n σ5 ys H5 w5 with ⟨stop,qn⟩ | ⟨go,step⟩
    · refine thn (T.done (J3G X scope N s3 H3 cl s3.heap.objs.size fp) rfl rfl rfl hc i [] s5 σ5 H5 _ I5 (stat fr5) st5 stop) fun r s6 ⟨hr,I6⟩=>?_
      subst hr
      obtain ⟨m,hn,_⟩:=id I6.loc
      refine ⟨m,hn,fun h' hs'=>⟨.ref s2.heap.objs.size,H5,?_,rfl,qn⟩⟩
      have neC : ∀ b o,s3.heap.get? b = some o → b ≠ s3.heap.objs.size:=fun b o q=>Nat.ne_of_lt (Heap.lt_size q)
      have un : Un (frs X.stack) fp H3 H5 s3.heap h' :=
        ⟨fun b o q n1 hb hx=>(hs'.2 b (neC b o q)).trans (I6.base.keep b o q n1 hb hx),
         fun b o q n1 hb hx=>by
           obtain ⟨sl,e⟩:=I6.base.slot b o q n1 hb hx
           exact ⟨sl,(hs'.2 b (neC b o q)).trans e⟩,
         fun b o q n1 hx=>I6.base.free b o q n1 hx,
         fun b o q hx=>by
           obtain ⟨o',e⟩:=I6.base.there b o q hx
           exact ⟨o',(hs'.2 b (neC b o q)).trans e⟩,
         I6.base.tups,I6.base.frzs,I6.base.tbls⟩
      refine I3.call' (ch:=fp) (s':={ s6 with heap:=h' }) I6.os un (fun b ob e=>?_) I6.bare (fun b hb=>⟨(f2 b hb).2.2.2.1,(f2 b hb).2.1,(f2 b hb).2.2.2.2.1,(f2 b hb).2.2.2.2.2⟩)
      refine (I6.hok b ob e).stay (fun c w' hc' q=>(hs'.2 c ?_).trans q) (fun _ q=>q) fun _ _ q=>q
      rintro rfl
      have fC : H5 s3.heap.objs.size = none:=I6.free
      rcases hc' with z | z
      · rw [← z,fC] at e; cases e
      · rw [fC] at z; cases z
    · refine thn (T.item (J3G X scope N s3 H3 cl s3.heap.objs.size fp) rfl rfl rfl hc i [] s5 σ5 H5 _ I5 (stat fr5) st5 go) fun r s6 ⟨u,hr,h6⟩=>?_
      subst hr
      refine thn h6 fun _ s7 ⟨x,H7,I7,r7,y7,st7,fr7⟩=>?_
      have I7':=I7.pinned (stat fr7) (T.obj _ _ st7)
      refine thn (hg _ _ _ _ _ _ s7 σ5 H7 x u _ I7' r7 (step x H7 y7)) fun _ s8 ⟨σ8,H8,I8,q8⟩=>?_
      refine thn (hif _ _ _ _ _ _ s8 σ8 H8 _ I8 q8) fun ok s9 ⟨H9,I9,q9⟩=>?_
      have again : ∀ {σ' : St} {H' : Hp} {s' : Shared},Inv (J3G X scope N s3 H3 cl s3.heap.objs.size fp) ([] ++ J6y fp s7.heap) σ' H' s' →
          Inv (J3G X scope N s3 H3 cl s3.heap.objs.size fp) [] σ' H' s' ∧ tn (i + 1) s'.heap ∧ ∀ b ∈ fp,H' b = none:=fun {σ' H' s'} I'=>by
        refine ⟨I'.unpinned,T.keep _ _ _ st7 fun b hb o e=>(I'.pin (b,o) (List.mem_append_right _ (List.mem_append_right _ (J3z hb e)))).1,fun b hb=>?_⟩
        obtain ⟨o,e,d⟩:=T.obj _ _ st7 b hb
        exact (I'.pin (b,o) (List.mem_append_right _ (List.mem_append_right _ (J3z hb e)))).2.1
      cases ok with
      | false =>
        rw [if_neg Bool.false_ne_true] at q9 ⊢
        obtain ⟨m',hm,w9⟩:=q9
        obtain ⟨a1,a2,a3⟩:=again I9
        exact ⟨m',hm,i + 1,σ8,ys,H9,a1,a2,a3,w9⟩
      | true =>
        rw [if_pos rfl] at q9 ⊢
        refine thn (he _ _ _ _ _ _ s9 σ8 H9 _ I9 q9) fun yv s10 ⟨y,H10,I10,r10,q10⟩=>?_
        obtain ⟨hD,hz,m',hm,w10⟩:=q10
        refine thn (J0L (X:=J3G X scope N s3 H3 cl s3.heap.objs.size fp) _ s10 σ8 H10 (.ref s2.heap.objs.size) [y] (.ref s2.heap.objs.size) [yv] (fun v H'=>H' = upd H10 s2.heap.objs.size (.lst (ys ++ [y]))) I10 rfl (.cons r10 .nil)
          ⟨s2.heap.objs.size,ys,y,rfl,rfl,hD,hz,rfl⟩) fun _ s11 ⟨v11,H11,I11,_,e11⟩=>?_
        have e11' : H11 = upd H10 s2.heap.objs.size (.lst (ys ++ [y])):=e11
        subst e11'
        obtain ⟨a1,a2,a3⟩:=again I11
        exact ⟨m',hm,i + 1,σ8,ys ++ [y],_,a1,a2,a3,w10⟩
  exact codeAny_compStart_list (loop _ ⟨_,rfl⟩) (T.self X.A 0 _ _ _ hst₁ (loop _ ⟨_,rfl⟩))
end
structure J6U (J : It) (H0 : Hp) (xs : List V) : Prop where
 go : ∀ i H,Same H0 H → i < xs.length → J.go i H
 yld : ∀ i H x H',Same H0 H → i < xs.length → J.yld i H x H' → H' = H ∧ xs[i]? = some x
 stop : ∀ H,Same H0 H → J.stop xs.length H
theorem J30 {K : PySem.W.Frag} {a : Addr} {H : Hp} {xs : List V} (h : SqL K H a xs) : J6U (Itl K a) H xs where
 go:=fun i H' s hi=>⟨xs,xs[i],s.seq h,by simp [hi]⟩
 yld:=fun i H' x H'' s hi y=>⟨y.1,y.2 xs (s.seq h)⟩
 stop:=fun H' s=>⟨xs,s.seq h,Nat.le_refl _⟩
theorem J3d {H : Hp} (lo : Int) (n : Nat) : J6U (Itr lo n) H ((List.range n).map fun i=>.int (lo + (i : Nat))) where
 go:=fun i H' s hi=>by rw [List.length_map,List.length_range] at hi; exact hi
 yld:=fun i H' x H'' s hi y=>by
  rw [List.length_map,List.length_range] at hi
  refine ⟨y.1,?_⟩
  rw [List.getElem?_map,List.getElem?_range hi]
  exact congrArg some y.2.symm
 stop:=fun H' s=>by rw [List.length_map,List.length_range]; exact Nat.le_refl _
theorem Jy {H : Hp} {p : Addr} (h : H p = none) (o : HO) : Same H (upd H p o):=fun b u q=>by rw [Jn (Jj q h)]; exact q
theorem Same.upd {H H' : Hp} {p : Addr} {o : HO} (s : Same H H') (h : H p = none) : Same H (upd H' p o):=fun b u q=>by rw [Jn (Jj q h)]; exact s b u q
theorem J4H {J : It} {H : Hp} {xs : List V} {σ0 : St} {k : Nat} {tc : TT} {te : TE} {Q : VK} (p : V → Bool) (f : V → V) (hJ : J6U J H xs) (hx : xs.length ≤ 1000000)
  (hc : ∀ x ∈ xs,∀ H',Same H H' → ∀ R : Bool → Hp → Prop,(∀ H'',Same H' H'' → R (p x) H'') → tc (σ0.set k (some x)) H' R)
  (he : ∀ x ∈ xs,p x = true → ∀ H',Same H H' → ∀ R : VK,(∀ H'',Same H' H'' → R (f x) H'') → te (σ0.set k (some x)) H' R)
  (hQ : ∀ D H',H D = none → Same H H' → H' D = some (.lst ((xs.filter p).map f)) → Q (.ref D) H') :
  J4Q J H σ0 (J3n k) tc te Q:=by
 intro D hD
 refine ⟨fun i m σ1 ys H'=>m = xs.length - i ∧ i ≤ xs.length ∧ (σ1 = σ0 ∨ ∃ v,σ1 = σ0.set k v) ∧ ys = ((xs.take i).filter p).map f ∧ H' D = some (.lst ys) ∧ Same H H',⟨xs.length,by simp,Nat.zero_le _,.inl rfl,rfl,Jd,Jy hD _⟩,?_⟩
 rintro i m σ1 ys H' ⟨rfl,hi,hσ,rfl,hDD,hs⟩
 by_cases hlt : i < xs.length
 ·refine .inr ⟨hJ.go i H' hs hlt,fun x H'' hy=>?_⟩
  obtain ⟨e1,hx1⟩:=hJ.yld i H' x H'' hs hlt hy
  subst e1
  have hm : x ∈ xs:=List.mem_of_getElem? hx1
  have hset : σ1.set k (some x) = σ0.set k (some x):=by
   rcases hσ with rfl | ⟨v,rfl⟩
   ·rfl
   ·rw [List.set_set]
  show tc (σ1.set k (some x)) H'' _
  rw [hset]
  have tk : ((xs.take (i + 1)).filter p).map f = ((xs.take i).filter p).map f ++ (if p x = true then [f x] else []):=by
   rw [List.take_add_one,hx1,List.filter_append,List.map_append]
   cases hp : p x <;> simp [hp]
  refine hc x hm H'' hs _ fun H3 s3=>?_
  have s03 : Same H H3:=hs.trans s3
  have lenk : (((xs.take i).filter p).map f).length < sizeLine:=by
   have h1:=List.length_filter_le p (xs.take i)
   rw [List.length_take] at h1
   rw [List.length_map]
   have : (1000001 : Nat) ≤ sizeLine:=by decide
   omega
  refine ite2 (fun hp=>?_) (fun hp=>?_)
  ·refine he x hm hp H3 s03 _ fun H4 s4=>⟨s4 _ _ (s3 _ _ hDD),lenk,xs.length - (i + 1),by omega,rfl,hlt,.inr ⟨_,rfl⟩,?_,?_,?_⟩
   ·rw [tk,if_pos hp]
   ·exact Jd
   ·exact (s03.trans s4).upd hD
  ·refine ⟨xs.length - (i + 1),by omega,rfl,hlt,.inr ⟨_,rfl⟩,?_,s3 _ _ hDD,s03⟩
   rw [tk,if_neg hp,List.append_nil]
 ·have e : i = xs.length:=by omega
  subst e
  refine .inl ⟨hJ.stop H' hs,hQ D H' hD hs ?_⟩
  rw [hDD,List.take_length]
theorem J6C {J : It} {H : Hp} {xs : List V} {σ0 : St} {k : Nat} {te : TE} {Q : VK} (f : V → V) (hJ : J6U J H xs) (hx : xs.length ≤ 1000000)
  (he : ∀ x ∈ xs,∀ H',Same H H' → ∀ R : VK,(∀ H'',Same H' H'' → R (f x) H'') → te (σ0.set k (some x)) H' R)
  (hQ : ∀ D H',H D = none → Same H H' → H' D = some (.lst (xs.map f)) → Q (.ref D) H') :
  J4Q J H σ0 (J3n k) tYes te Q :=
 J4H (fun _=>true) f hJ hx (fun x _ H' _ R hR=>hR H' (Same.refl _)) (fun x hm _=>he x hm) (fun D H' h1 h2 h3=>hQ D H' h1 h2 (by rw [h3,List.filter_eq_self.mpr fun _ _=>rfl]))
end L2
set_option linter.all false
set_option maxRecDepth 100000
set_option maxHeartbeats 4000000
namespace L2
open PySem PySem.Spec PyProof.Rows
noncomputable abbrev T (l : List Nat) : V:=.str ⟨l.toArray⟩
theorem J2N {a b : List Nat} (h : T a = T b) : a = b:=by
 have h1 : (⟨a.toArray⟩ : Str) = ⟨b.toArray⟩:=V.str.inj h
 have h2 : a.toArray = b.toArray:=congrArg Str.cps h1
 simpa using h2
theorem J4T (l : List Nat) : (⟨l.toArray⟩ : Str).length = l.length:=by simp [Str.length]
theorem Jd5 (a b : List Nat) : (⟨a.toArray⟩ : Str) ++ ⟨b.toArray⟩ = ⟨(a ++ b).toArray⟩:=by
 show (⟨a.toArray ++ b.toArray⟩ : Str) = _
 simp
section
variable {X : Cx}
theorem JE {x : Str} {l : List Nat} {j pos} (h : x = ⟨l.toArray⟩) : PE X (.Constant (.str x) j pos) (tC (T l)):=by subst h; exact Jfe
noncomputable def JfF : R2:=fun x y H Q=>∃ a b,x = T a ∧ y = T b ∧ a.length + b.length ≤ sizeLine ∧ Q (T (a ++ b)) H
theorem J0c : OpR X (binaryOp .Add) JfF:=by
 intro pins s σ H x y v u Q I rx ry h
 obtain ⟨a,b,rfl,rfl,hz,q⟩:=h
 exact Jar pins s σ H _ _ v u Q I rx ry ⟨_,_,rfl,rfl,by rw [J4T,J4T]; exact hz,by rw [Jd5]; exact q⟩
noncomputable def JfJ : R2:=fun x y H Q=>∃ l i c,x = T l ∧ y = .int i ∧ l.length ≤ sizeLine ∧ atI l i = some c ∧ Q (T [c]) H
theorem J0x : IxR X JfJ:=by
 intro value slice pins s σ H x y v u Q I rx ry h hs
 obtain ⟨l,i,c,rfl,rfl,hz,he,q⟩:=h
 exact JeZ value slice pins s σ H _ _ v u Q I rx ry ⟨_,i,c,rfl,rfl,by rw [J4T]; exact hz,by simpa using he,q⟩ hs
theorem Jf0 : OpR X (compareOp .In) (fun x y H Q=>∃ c m,x = T [c] ∧ y = T m ∧ Q (.bl (decide (c ∈ m))) H):=by
 intro pins s σ H x y v u Q I rx ry h
 obtain ⟨c,m,rfl,rfl,q⟩:=h
 refine Jc9 pins s σ H _ _ v u Q I rx ry ⟨_,_,rfl,rfl,?_⟩
 have e:=StrLaws.found_one ⟨m.toArray⟩ c
 rw [show (!(Builtin.Str.occurrences ⟨m.toArray⟩ ⟨[c].toArray⟩ 0 (⟨m.toArray⟩ : Str).length 1).isEmpty) = decide (c ∈ m) from by simpa using e]
 exact q
theorem JbM : OpR X (compareOp .NotIn) (fun x y H Q=>∃ c m,x = T [c] ∧ y = T m ∧ Q (.bl (!decide (c ∈ m))) H):=by
 intro pins s σ H x y v u Q I rx ry h
 obtain ⟨c,m,rfl,rfl,q⟩:=h
 refine J8K pins s σ H _ _ v u Q I rx ry ⟨_,_,rfl,rfl,?_⟩
 have e:=StrLaws.found_one ⟨m.toArray⟩ c
 rw [show (!(Builtin.Str.occurrences ⟨m.toArray⟩ ⟨[c].toArray⟩ 0 (⟨m.toArray⟩ : Str).length 1).isEmpty) = decide (c ∈ m) from by simpa using e]
 exact q
theorem J0p : J2n X (.builtin "len") (fun xs H Q=>∃ l,xs = [T l] ∧ l.length ≤ sizeLine ∧ Q (.int l.length) H):=by
 intro pins s σ H xs us Q I r h
 obtain ⟨l,rfl,hz,q⟩:=h
 exact J8O pins s σ H _ us Q I r ⟨_,rfl,by rw [J4T]; exact hz,by rw [J4T]; exact q⟩
end
noncomputable def cutN {α : Type} (xs : List α) (lo hi : Option Int) : List α:=(xs.drop (HT.sIx xs.length 0 lo)).take (HT.sIx xs.length xs.length hi - HT.sIx xs.length 0 lo)
noncomputable def JcN (n : Nat) (d : Int) : Option Int → Int
 | none=>d
 | some i=>max 0 (min (if i < 0 then i + (n : Int) else i) (n : Int))
theorem J9P (n d : Nat) (o : Option Int) : JcN n (d : Int) o = ((HT.sIx n d o : Nat) : Int):=by
 cases o with
 | none=>rfl
 | some i =>
  show max 0 (min (if i < 0 then i + (n : Int) else i) (n : Int)) = (((if i < 0 then (i + (n : Int)).toNat else min i.toNat n) : Nat) : Int)
  by_cases hi : i < 0
  ·rw [if_pos hi,if_pos hi]; omega
  ·rw [if_neg hi,if_neg hi]; omega
theorem Jf3 (a b : Nat) : sliceRange (a : Int) (b : Int) 1 = (List.range (b - a)).map fun k=>a + k:=by
 unfold sliceRange
 simp only [show (1 : Int) > 0 by decide,if_true]
 have e1 : (if (a : Int) < (b : Int) then ((b : Int) - (a : Int) + 1 - 1) / 1 else 0).toNat = b - a:=by
  split <;> simp <;> omega
 rw [e1]
 refine List.map_congr_left fun k _=>?_
 omega
theorem J8z (lo hi : Option Int) (n : Nat) : Builtin.Str.strSliceIndices lo hi 1 n = (List.range (HT.sIx n n hi - HT.sIx n 0 lo)).map fun k=>HT.sIx n 0 lo + k:=by
 have e : Builtin.Str.strSliceIndices lo hi 1 n = sliceRange (JcN n ((0 : Nat) : Int) lo) (JcN n ((n : Nat) : Int) hi) 1:=by
  cases lo <;> cases hi <;> rfl
 rw [e,J9P,J9P,Jf3]
theorem JfU (l : List Nat) (i k : Nat) : ((List.range k).map fun m=>i + m).filterMap (fun j=>l.toArray[j]?) = (l.drop i).take k:=by
 induction k generalizing i with
 | zero=>simp
 | succ k ih =>
  rw [List.range_succ_eq_map,List.map_cons,List.filterMap_cons,List.map_map]
  have e : ((fun m=>i + m) ∘ Nat.succ) = fun m=>(i + 1) + m:=by funext m; simp; omega
  rw [e,ih (i + 1)]
  by_cases h : i < l.length
  ·have : l.toArray[i + 0]? = some l[i]:=by simp [h]
   rw [this,List.drop_eq_getElem_cons h,List.take_succ_cons]
  ·have : l.toArray[i + 0]? = none:=by simp; omega
   rw [this,List.drop_eq_nil_of_le (by omega),List.drop_eq_nil_of_le (by omega)]
   simp
theorem JbI {α : Type} {l : List α} {lo hi : Option Int} (h : (cutN l lo hi).length = l.length) : cutN l lo hi = l:=by
 unfold cutN at h ⊢
 rw [List.length_take,List.length_drop] at h
 have h2:=HT.sIx_le l.length l.length (Nat.le_refl _) hi
 by_cases h0 : l.length = 0
 ·have : l = []:=List.length_eq_zero_iff.mp h0
  subst this; simp
 ·have e0 : HT.sIx l.length 0 lo = 0:=by omega
  rw [e0,List.drop_zero]
  exact List.take_of_length_le (by omega)
theorem JbH (l : List Nat) (lo hi : Option Int) : Txt.slice ⟨l.toArray⟩ lo hi = ⟨(cutN l lo hi).toArray⟩:=by
 unfold Txt.slice
 rw [J4T,J8z]
 have e:=JfU l (HT.sIx l.length 0 lo) (HT.sIx l.length l.length hi - HT.sIx l.length 0 lo)
 have e2 : ((List.range (HT.sIx l.length l.length hi - HT.sIx l.length 0 lo)).map fun k=>HT.sIx l.length 0 lo + k).filterMap (fun x=>(⟨l.toArray⟩ : Str).cps[x]?) = cutN l lo hi:=e
 by_cases h : ((1 : Int) == 1 && ((List.range (HT.sIx l.length l.length hi - HT.sIx l.length 0 lo)).map fun k=>HT.sIx l.length 0 lo + k).length == l.length) = true
 ·rw [if_pos h]
  have h' : HT.sIx l.length l.length hi - HT.sIx l.length 0 lo = l.length:=by
   have:=((Bool.and_eq_true _ _).mp h).2
   simpa using this
  have : (cutN l lo hi).length = l.length:=by
   unfold cutN
   rw [List.length_take,List.length_drop]
   have:=HT.sIx_le l.length l.length (Nat.le_refl _) hi
   omega
  rw [JbI this]
 ·rw [if_neg h,e2]
section
variable {X : Cx}
noncomputable def rSlS : V → Option Int → Option Int → Hp → VK → Prop:=fun x lo hi H Q=>∃ l,x = T l ∧ l.length ≤ sizeLine ∧ Q (T (cutN l lo hi)) H
theorem J2m : SlR X rSlS:=by
 intro pins s σ H x v vl vu lo hi sl Q I rx hs pl pu h
 obtain ⟨l,rfl,hz,q⟩:=h
 obtain ⟨t,rfl⟩:=rx
 refine ⟨"str",_,F.slot_str_getitem.lookup,typeIs_str _ _ _,?_⟩
 have fin : ∀ t' k,EP X pins σ Q (.str (Txt.slice ⟨l.toArray⟩ lo hi) t') { s with toks:=k }:=fun t' k=>⟨T (cutN l lo hi),H,I.tok _,⟨t',by rw [JbH]⟩,q⟩
 have hlen : (Txt.slice ⟨l.toArray⟩ lo hi).length ≤ sizeLine:=Nat.le_trans (Txt.slice_le _ _ _) (by rw [J4T]; exact hz)
 cases pl with
 | none =>
  cases pu with
  | none=>exact wpAny_getItem_str_slice (l:=none) (u:=none) (st:=none) hs rfl (post_val_or_str ⟨hlen,fin⟩)
  | int j uj=>exact wpAny_getItem_str_slice (l:=none) (u:=some (j,uj)) (st:=none) hs rfl (post_val_or_str ⟨hlen,fin⟩)
 | int i ui =>
  cases pu with
  | none=>exact wpAny_getItem_str_slice (l:=some (i,ui)) (u:=none) (st:=none) hs rfl (post_val_or_str ⟨hlen,fin⟩)
  | int j uj=>exact wpAny_getItem_str_slice (l:=some (i,ui)) (u:=some (j,uj)) (st:=none) hs rfl (post_val_or_str ⟨hlen,fin⟩)
end
noncomputable def Its (l : List Nat) : It:=⟨fun i _=>i < l.length,fun i H x H'=>H' = H ∧ ∃ c,l[i]? = some c ∧ x = T [c],fun i _=>l.length ≤ i⟩
theorem JcZ {P : Program} {w : World} {K : PySem.W.Frag} {tg : Expr} {it : Addr} {l : List Nat} {t : Tok} {nm : String} (hn : nm = "str_ascii_iterator" ∨ nm = "str_iterator") :
  Turn P w K tg (Its l) [it] it (fun i h=>h.IsStrIter it nm ⟨l.toArray⟩ t i) where
 mem:=by simp
 obj:=fun i h st b hb=>by
  have e : b = it:=by simpa using hb
  subst e
  obtain ⟨o,e,c,d⟩:=st
  exact ⟨o,e,fun v z=>by rw [d] at z; cases z⟩
 keep:=fun i h h' st k=>by
  obtain ⟨o,e,r⟩:=st
  exact ⟨o,k it (by simp) o e,r⟩
 item:=by
  intro X hP hw hK hc i pins s σ H E I hf st hg
  subst hP hw hK
  obtain ⟨f0,f1,f2,f3,f4,f5⟩:=hf it (by simp)
  have hi : i < l.length:=hg
  have hx : (⟨l.toArray⟩ : Str).cps[i]? = some l[i]:=by simp [hi]
  have fin : ∀ h',h'.IsStrIter it nm ⟨l.toArray⟩ t (i + 1) → Heap.SameBut it s.heap h' → ∃ u,(some (Value.str ⟨#[l[i]]⟩ s.toks) : Option Value) = some u ∧
    wpAny (model X.prog X.w) X.A (letOwnedTupleGo tg (.ref it) u) (fun _ s2=>∃ x H',Inv X pins σ H' s2 ∧ RelV x u ∧ (Its l).yld i H x H' ∧ s2.heap.IsStrIter it nm ⟨l.toArray⟩ t (i + 1) ∧ ∀ b ∈ [it],H' b = none) E { s with heap:=h',toks:=s.toks + 1 }:=fun h' st' sb=>by
   have I1 : Inv X pins σ H { s with heap:=h',toks:=s.toks + 1 }:=I.turned (t':=s.toks + 1) (fun b o hb e=>(sb.2 b hb).trans e) f0 f1 f3 f4 f5
   obtain ⟨o,e,c,d⟩:=id st'
   refine ⟨_,rfl,Jdt (s:={ s with heap:=h',toks:=s.toks + 1 }) e c d (by rcases hn with rfl | rfl <;> decide) ⟨T [l[i]],H,I1,⟨_,rfl⟩,⟨rfl,l[i],by simp [hi],rfl⟩,st',fun b hb=>(hf b hb).1⟩⟩
  rcases hn with rfl | rfl
  ·exact wpAny_pyNext_ascii_item st hx fin
  ·exact wpAny_pyNext_wide_item st hx fin
 done:=by
  intro X hP hw hK hc i pins s σ H E I hf st hg
  subst hP hw hK
  obtain ⟨f0,f1,f2,f3,f4,f5⟩:=hf it (by simp)
  have hi : l.length ≤ i:=hg
  have hx : (⟨l.toArray⟩ : Str).cps[i]? = none:=by simp; exact hi
  have fin : ∀ h',Heap.ExtBut it s.heap h' → (none : Option Value) = none ∧ Inv X pins σ H { s with heap:=h' }:=fun h' eb=>⟨rfl,I.turned (t':=s.toks) (fun b o hb e=>eb b o hb e) f0 f1 f3 f4 f5⟩
  rcases hn with rfl | rfl
  ·exact wpAny_pyNext_ascii_end (I.ok.hd hc) st hx fin
  ·exact wpAny_pyNext_wide_end (I.ok.hd hc) st hx fin
 self:=fun _ _ _ _ _ st h=>by
  rcases hn with rfl | rfl
  ·exact wpAny_pyIter_striter_ascii st h
  ·exact wpAny_pyIter_striter_wide st h
section
variable {X : Cx} {tg : Expr}
noncomputable def iTxt (tl : TE) : TI:=fun σ H R=>tl σ H fun x H1=>∃ l,x = T l ∧ R (Its l) H1
theorem J6J {e : Expr} {tl : TE} (hl : PE X e tl) : PI X tg e (iTxt tl):=by
 intro pins s σ H R I h
 refine thn (hl pins s σ H _ I h) fun v s1 ⟨x,H1,I1,r1,q1⟩=>?_
 obtain ⟨l,e,q⟩:=q1
 subst e
 obtain ⟨t,rfl⟩:=r1
 have fin : ∀ nm : String,(nm = "str_ascii_iterator" ∨ nm = "str_iterator") → PIE X pins σ tg R (.ref s1.heap.objs.size) { s1 with heap:=s1.heap.push { cls:=.type nm,data:=.fields #[.str ⟨l.toArray⟩ t,.int 0 0] } }:=fun nm hn=>by
  refine ⟨s1.heap.objs.size,[s1.heap.objs.size],_,_,H1,rfl,I1.kept (t':=s1.toks) fun b o e=>Heap.get?_push_of_some _ e,JcZ (t:=t) hn,⟨_,Heap.get?_push_size _ rfl,rfl,rfl⟩,fun b hb=>?_,q⟩
  have e : b = s1.heap.objs.size:=by simpa using hb
  subst e
  exact I1.fpOk (Nat.le_refl _) (I1.hok.fresh (Nat.le_refl _))
 cases ha : (⟨l.toArray⟩ : Str).cps.all (· < 128) with
 | true=>exact wpAny_pyIter_ascii ha (fin _ (.inl rfl))
 | false=>exact wpAny_pyIter_wide ha (fin _ (.inr rfl))
end
theorem J3Z {H : Hp} (l : List Nat) : J6U (Its l) H (l.map fun c=>T [c]) where
 go:=fun i H' s hi=>by rw [List.length_map] at hi; exact hi
 yld:=fun i H' x H'' s hi y=>by
  obtain ⟨e,c,hc,rfl⟩:=y
  exact ⟨e,by rw [List.getElem?_map,hc]; rfl⟩
 stop:=fun H' s=>by rw [List.length_map]; exact Nat.le_refl _
theorem JdP {l : List Nat} {g : TG} {tb : TS} {D : Ends} {σ : St} {H : Hp} (Pv : Nat → St → Hp → Prop) (h0 : Pv 0 σ H)
  (hs : ∀ i c σ H,l[i]? = some c → Pv i σ H → g (T [c]) σ H fun σ2 H2=>tb { D with nx:=Pv (i + 1),ct:=Pv (i + 1),bk:=D.nx } σ2 H2) (hd : ∀ σ H,Pv l.length σ H → D.nx σ H) :
  ∃ W : Nat → Nat → St → Hp → Prop,(∃ m,W 0 m σ H) ∧ ∀ i m σ H,W i m σ H →
   ((Its l).stop i H ∧ D.nx σ H) ∨ ((Its l).go i H ∧ ∃ N : St → Hp → Prop,(∀ σ' H',N σ' H' → ∃ m',m' < m ∧ W (i + 1) m' σ' H') ∧ ∀ x H',(Its l).yld i H x H' → g x σ H' fun σ2 H2=>tb { D with nx:=N,ct:=N,bk:=D.nx } σ2 H2):=by
 refine ⟨fun i m σ H=>m = l.length - i ∧ i ≤ l.length ∧ Pv i σ H,⟨l.length,by simp,Nat.zero_le _,h0⟩,?_⟩
 rintro i m σ H ⟨rfl,hi,p⟩
 by_cases hlt : i < l.length
 ·refine .inr ⟨hlt,Pv (i + 1),fun σ' H' p'=>⟨l.length - (i + 1),by omega,rfl,hlt,p'⟩,fun x H' y=>?_⟩
  obtain ⟨e,c,hc,rfl⟩:=y
  subst e
  exact hs i c σ _ hc p
 ·have e : i = l.length:=by omega
  subst e
  exact .inl ⟨Nat.le_refl _,hd σ H p⟩
theorem J7w : ∀ {ts : List (List Nat)} {us : List Value},Vals (ts.map T) us → PyProof.Rows.StrsAre us (ts.map fun l=>⟨l.toArray⟩)
 | [],_,h=>by cases h; exact .nil
 | l :: r,_,h=>by
  cases h with
  | cons r1 r2 =>
   obtain ⟨t,rfl⟩:=r1
   exact .cons _ t (J7w r2)
noncomputable def J6B (sep : List Nat) : List (List Nat) → List Nat
 | []=>[]
 | [x]=>x
 | x :: y :: r=>x ++ sep ++ J6B sep (y :: r)
theorem J9p (sep : List Nat) : ∀ ts : List (List Nat),Str.join ⟨sep.toArray⟩ (ts.map fun l=>⟨l.toArray⟩) = ⟨(J6B sep ts).toArray⟩
 | []=>rfl
 | [x]=>rfl
 | x :: y :: r=>by
  show (⟨x.toArray⟩ : Str) ++ ⟨sep.toArray⟩ ++ Str.join ⟨sep.toArray⟩ ((y :: r).map fun l=>⟨l.toArray⟩) = _
  rw [J9p sep (y :: r),Jd5,Jd5]
  rfl
theorem J43 : ∀ ts : List (List Nat),J6B [] ts = ts.flatten
 | []=>rfl
 | [x]=>by simp [J6B]
 | x :: y :: r=>by
  show x ++ [] ++ J6B [] (y :: r) = _
  rw [J43 (y :: r),List.append_nil]
  rfl
theorem J4S : ∀ cs : List Nat,(((cs.map fun c=>[c]).map List.length).sum) = cs.length
 | []=>rfl
 | c :: r=>by
  rw [List.map_cons,List.map_cons,List.sum_cons,J4S r]
  simp
  omega
theorem J41 : ∀ cs : List Nat,(cs.map fun c=>[c]).flatten = cs
 | []=>rfl
 | c :: r=>by
  rw [List.map_cons,List.flatten_cons,J41 r]
  rfl
section
variable {X : Cx}
noncomputable def Jd9 (K : PySem.W.Frag) : V → List V → Hp → VK → Prop:=fun x vs H Q=>∃ sep ts D,x = T sep ∧ vs = [.ref D] ∧ SqL K H D (ts.map T) ∧ (ts.map List.length).sum + ts.length * sep.length ≤ 16777216 ∧ Q (T (J6B sep ts)) H
theorem Jea : MtR X "str.join" (Jd9 X.K):=by
 intro pins s σ H x vs v us Q I rx rv h
 obtain ⟨sep,ts,D,rfl,rfl,hq,hz,q⟩:=h
 obtain ⟨t,rfl⟩:=rx
 obtain ⟨u,rfl,ru⟩:=rv.one
 cases ru
 obtain ⟨its,r,pl,_⟩:=I.list hq
 refine join_list (ys:=ts.map fun l=>⟨l.toArray⟩) pl.isList (by simpa using J7w r) ?_ fun t' k=>⟨T (J6B sep ts),H,I.tok _,⟨t',?_⟩,q⟩
 ·rw [List.map_map,List.length_map,J4T]
  have e : ((fun x=>x.length) ∘ fun l : List Nat=>(⟨l.toArray⟩ : Str)) = List.length:=by funext l; exact J4T l
  rw [e]
  exact hz
 ·rw [← J9p]
  show Value.str (Builtin.Str.glued _ _) t' = _
  rw [StrLaws.glued_eq_join]
end
theorem JdL {X : Cx} {o e : Expr} {to : TE} {t : TA} {apos cpos : Pos} (ho : PE X o to) (ha : PA X [e] t)
  (hbase : attributeBase o "join" X.env (eval o X.env) = eval o X.env:=by rfl)
  (hfew : ((backTo cpos (starEach [e] X.env)).all (fun x=>!x.1) && (backToKw cpos (keywordEach [] X.env)).all (fun x=>x.1.isSome)
   && decide ([e].length + ([] : List Keyword).length + (if ([] : List Keyword).isEmpty then 0 else 1) < 30)) = true:=by rfl)
  (hline : (apos.endLine == cpos.line) = true:=by rfl) (hs : starEach [e] X.env = (false,eval e X.env) :: starEach [] X.env:=by rfl) (hplain : (backTo cpos (starEach [] X.env)).any (·.1) = false:=by rfl) :
  PE X (.Call (.Attribute o "join" apos) [e] [] cpos) (tBM X.K "str" (Jd9 X.K) to t) :=
 J3H F.plainAttrs_str F.slot_str_join F.type_str_join Jea ho ha hbase hfew hline hs hplain
theorem J9B {bs : List Bool} {us : List Value} (h : Vals (bs.map V.bl) us) : us = bs.map Value.bool:=by
 induction bs generalizing us with
 | nil=>cases h; rfl
 | cons b r ih =>
  cases h with
  | cons r1 r2 =>
   cases r1
   rw [ih r2]; rfl
theorem JbY (bs : List Bool) : (List.range bs.length).all (fun i=>bs.getD i false) = bs.all id:=by
 rw [Bool.eq_iff_iff,List.all_eq_true,List.all_eq_true]
 constructor
 ·intro h b hb
  obtain ⟨i,hi,rfl⟩:=List.mem_iff_getElem.mp hb
  have:=h i (List.mem_range.mpr hi)
  simpa [List.getD_eq_getElem?_getD,hi] using this
 ·intro h i hi
  have hi:=List.mem_range.mp hi
  have:=h bs[i] (List.getElem_mem hi)
  simpa [List.getD_eq_getElem?_getD,hi] using this
theorem JbU (bs : List Bool) : (List.range bs.length).any (fun i=>bs.getD i false) = bs.any id:=by
 rw [Bool.eq_iff_iff,List.any_eq_true,List.any_eq_true]
 constructor
 ·rintro ⟨i,hi,h⟩
  have hi:=List.mem_range.mp hi
  refine ⟨bs[i],List.getElem_mem hi,?_⟩
  simpa [List.getD_eq_getElem?_getD,hi] using h
 ·rintro ⟨b,hb,h⟩
  obtain ⟨i,hi,rfl⟩:=List.mem_iff_getElem.mp hb
  refine ⟨i,List.mem_range.mpr hi,?_⟩
  simpa [List.getD_eq_getElem?_getD,hi] using h
section
variable {X : Cx}
theorem J7H (bs : List Bool) {A : Around} : TruthOf X.prog X.w A (fun i v=>(bs.map Value.bool).toArray[i]? = some v) (fun i=>bs.getD i false):=fun i v s Q E hP hQ=>by
 have : ∃ b,bs[i]? = some b ∧ v = .bool b:=by
  have hP' : (bs.map Value.bool).toArray[i]? = some v:=hP
  rw [List.getElem?_toArray,List.getElem?_map] at hP'
  cases hb : bs[i]? with
  | none=>rw [hb] at hP'; cases hP'
  | some b=>rw [hb] at hP'; exact ⟨b,rfl,(Option.some.inj hP').symm⟩
 obtain ⟨b,hb,rfl⟩:=this
 refine wpAny_truthy_bool ?_
 simpa [List.getD_eq_getElem?_getD,hb] using hQ
theorem Jc8 (hc : X.calm = true) : J2n X (.builtin "all") (fun xs H Q=>∃ (D : Addr) (bs : List Bool),xs = [.ref D] ∧ SqL X.K H D (bs.map V.bl) ∧ Q (.bl (bs.all id)) H):=by
 intro pins s σ H xs us Q I r h
 obtain ⟨D,bs,rfl,hq,q⟩:=h
 obtain ⟨u,rfl,ru⟩:=r.one
 cases ru
 obtain ⟨its,rv,pl,_⟩:=I.list hq
 obtain rfl:=J9B rv
 have hD : D < s.heap.objs.size:=by obtain ⟨o,n,e,_⟩:=pl; exact Heap.lt_size e
 refine call_all_walk (wpAny_pyIter_list pl.isList ⟨s.heap.objs.size,_,_,_,_,_,fun i=>bs.getD i false,rfl,Walks.list (A:=X.A.in1) (I.ok.hd hc) _ D (Nat.ne_of_lt hD) (bs.map Value.bool).toArray,
  ⟨⟨_,Heap.get?_push_size _ rfl,rfl,rfl⟩,pl.isList.push _⟩,J7H bs,fun h' tk hk=>?_⟩)
 rw [List.size_toArray,List.length_map,JbY]
 exact ⟨.bl (bs.all id),H,I.kept fun b o e=>hk b o (by simpa using Nat.ne_of_lt (Heap.lt_size e)) (Heap.get?_push_of_some _ e),rfl,q⟩
theorem JbK (hc : X.calm = true) : J2n X (.builtin "any") (fun xs H Q=>∃ (D : Addr) (bs : List Bool),xs = [.ref D] ∧ SqL X.K H D (bs.map V.bl) ∧ Q (.bl (bs.any id)) H):=by
 intro pins s σ H xs us Q I r h
 obtain ⟨D,bs,rfl,hq,q⟩:=h
 obtain ⟨u,rfl,ru⟩:=r.one
 cases ru
 obtain ⟨its,rv,pl,_⟩:=I.list hq
 obtain rfl:=J9B rv
 have hD : D < s.heap.objs.size:=by obtain ⟨o,n,e,_⟩:=pl; exact Heap.lt_size e
 refine call_any_walk (wpAny_pyIter_list pl.isList ⟨s.heap.objs.size,_,_,_,_,_,fun i=>bs.getD i false,rfl,Walks.list (A:=X.A.in1) (I.ok.hd hc) _ D (Nat.ne_of_lt hD) (bs.map Value.bool).toArray,
  ⟨⟨_,Heap.get?_push_size _ rfl,rfl,rfl⟩,pl.isList.push _⟩,J7H bs,fun h' tk hk=>?_⟩)
 rw [List.size_toArray,List.length_map,JbU]
 exact ⟨.bl (bs.any id),H,I.kept fun b o e=>hk b o (by simpa using Nat.ne_of_lt (Heap.lt_size e)) (Heap.get?_push_of_some _ e),rfl,q⟩
end
end L2
set_option linter.all false
set_option maxRecDepth 100000
set_option maxHeartbeats 4000000
namespace L2
open PySem PySem.Spec PyProof.Rows
open Builtin Builtin.Str
section
variable {prog : Program} {w : World} {A : Around} {E : Value → Shared → Prop} {s : Shared}
structure J3R (z TI TO i1 i2 : Addr) : Prop where
 TIz : TI ≠ z
 TOz : TO ≠ z
 i1z : i1 ≠ z
 i2z : i2 ≠ z
 TITO : TI ≠ TO
 TIi1 : TI ≠ i1
 TIi2 : TI ≠ i2
 TOi1 : TO ≠ i1
 TOi2 : TO ≠ i2
 i12 : i1 ≠ i2
theorem J6O (n : Nat) : J3R (n + 4) (n + 2) (n + 3) n (n + 1) :=
 ⟨Nat.ne_of_lt (by omega),Nat.ne_of_lt (by omega),Nat.ne_of_lt (by omega),Nat.ne_of_lt (by omega),Nat.ne_of_lt (by omega),Nat.ne_of_gt (by omega),Nat.ne_of_gt (by omega),Nat.ne_of_gt (by omega),Nat.ne_of_gt (by omega),Nat.ne_of_lt (by omega)⟩
theorem JbZ {z TI TO i1 i2 : Addr} {k n1 n2 : Nat} {P1 P2 : Nat → Value → Prop} {St1 St2 : Nat → Heap → Prop} {a b : Value} {Q : Value → Shared → Prop} (F : J3R z TI TO i1 i2)
  (D1 : Draws prog w A i1 [i1] n1 P1 St1) (D2 : Draws prog w A i2 [i2] n2 P2 St2)
  (hz : IsZip s.heap z TI TO .none) (hTI : IsPair s.heap TI (.ref i1) (.ref i2)) (hTO : IsPair s.heap TO a b)
  (h1 : St1 k s.heap) (h2 : St2 k s.heap) (hk1 : k < n1) (hk2 : k < n2)
  (hQ : ∀ x y h' tk,P1 k x → P2 k y → IsZip h' z TI TO (rawInt s.heap.objs.size) → IsPair h' TO x y → St1 (k + 1) h' → St2 (k + 1) h' → IsPair h' s.heap.objs.size x y → h'.objs.size = s.heap.objs.size + 1 →
   (∀ c o,c ≠ z → c ≠ TO → c ≠ i1 → c ≠ i2 → s.heap.get? c = some o → h'.get? c = some o) → Q (.ref s.heap.objs.size) { s with heap:=h',toks:=tk }) :
  wpAny (model prog w) A (Builtin.«zip.__next__» ⟨[.ref z],[]⟩) (fun fin s'=>∃ v,fin = .done (.ret v) ∧ Q v s') E s:=by
 have fr1 : ∀ i h h',St1 i h → (∀ o,h.get? i1 = some o → h'.get? i1 = some o) → St1 i h':=fun i h h' st hk=>D1.frame i h h' st fun b hb o e=>by
  have : b = i1:=by simpa using hb
  subst this; exact hk o e
 have fr2 : ∀ i h h',St2 i h → (∀ o,h.get? i2 = some o → h'.get? i2 = some o) → St2 i h':=fun i h h' st hk=>D2.frame i h h' st fun b hb o e=>by
  have : b = i2:=by simpa using hb
  subst this; exact hk o e
 show wpAny _ _ (field (.ref z) 2 >>= _) _ _ _
 refine wpAny_bind (wpAny_field hz rfl (x:=.bool false) rfl ?_)
 show wpAny _ _ (field (.ref z) 3 >>= _) _ _ _
 refine wpAny_bind (wpAny_field hz rfl (x:=.ref TI) rfl ?_)
 refine wpAny_bind (wpAny_seqItems hTI rfl ?_)
 show wpAny _ _ (Builtin.SmallTypes.ownedTupleIsFree (.ref z) >>= _) _ _ _
 refine wpAny_bind ?_
 unfold Builtin.SmallTypes.ownedTupleIsFree
 refine wpAny_bind (wpAny_field hz rfl (x:=.none) rfl (wpAny_pure ?_))
 simp only [if_true]
 refine wpAny_bind (wpAny_rule ?_)
 refine wpAny_bind (wpAny_field hz rfl (x:=.ref TO) rfl ?_)
 refine wpAny_bind (wpAny_setField_rec hz (by simp) fun h₁ hz₁ hs₁=>?_)
 replace hz₁ : IsZip h₁ z TI TO .ellipsis:=hz₁
 refine wpAny_bind ?_
 simp only [List.zipIdx_cons,List.zipIdx_nil,List.forIn_cons,List.forIn_nil]
 refine wpAny_bind (wpAny_bind (wpAny_onRaise ?_))
 show wpAny _ _ (Builtin.SmallTypes.nextOf (.ref i1) >>= _) _ _ _
 refine wpAny_bind (D1.item k _ _ _ hk1 (fr1 _ _ _ h1 fun o e=>hs₁.extBut _ _ F.i1z e) fun x h₂ tk₂ hx h1₂ hs₂=>wpAny_pure ?_)
 replace hs₂ : Heap.SameBut i1 h₁ h₂:=hs₂
 have hTO₂ : IsPair h₂ TO a b:=hs₂.extBut _ _ F.TOi1 (hs₁.extBut _ _ F.TOz hTO)
 refine wpAny_bind (wpAny_seqItems hTO₂ rfl ?_)
 refine wpAny_bind (wpAny_updateSeq_pair hTO₂ fun h₃ hTO₃ hs₃=>?_)
 replace hTO₃ : IsPair h₃ TO x b:=hTO₃
 replace hs₃ : Heap.SameBut TO h₂ h₃:=hs₃
 refine wpAny_bind (wpAny_letGo (wpAny_pure ?_))
 refine wpAny_bind (wpAny_bind (wpAny_onRaise ?_))
 show wpAny _ _ (Builtin.SmallTypes.nextOf (.ref i2) >>= _) _ _ _
 refine wpAny_bind (D2.item k _ _ _ hk2 (fr2 _ _ _ h2 fun o e=>hs₃.extBut _ _ F.TOi2.symm (hs₂.extBut _ _ F.i12.symm (hs₁.extBut _ _ F.i2z e))) fun y h₄ tk₄ hy h2₄ hs₄=>wpAny_pure ?_)
 replace hs₄ : Heap.SameBut i2 h₃ h₄:=hs₄
 have hTO₄ : IsPair h₄ TO x b:=hs₄.extBut _ _ F.TOi2 hTO₃
 refine wpAny_bind (wpAny_seqItems hTO₄ rfl ?_)
 refine wpAny_bind (wpAny_updateSeq_pair hTO₄ fun h₅ hTO₅ hs₅=>?_)
 replace hTO₅ : IsPair h₅ TO x y:=hTO₅
 replace hs₅ : Heap.SameBut TO h₄ h₅:=hs₅
 refine wpAny_bind (wpAny_letGo (wpAny_pure (wpAny_pure ?_)))
 refine wpAny_bind (wpAny_seqItems hTO₅ rfl ?_)
 refine wpAny_bind (wpAny_newTuple ?_)
 have hsz : h₅.objs.size = s.heap.objs.size:=by rw [hs₅.1,hs₄.1,hs₃.1,hs₂.1,hs₁.1]
 have hz₅ : IsZip h₅ z TI TO .ellipsis:=hs₅.extBut _ _ F.TOz.symm (hs₄.extBut _ _ F.i2z.symm (hs₃.extBut _ _ F.TOz.symm (hs₂.extBut _ _ F.i1z.symm hz₁)))
 have hk₅ : ∀ c o,c ≠ z → c ≠ TO → c ≠ i1 → c ≠ i2 → s.heap.get? c = some o → h₅.get? c = some o:=fun c o c1 c2 c3 c4 e =>
  hs₅.extBut _ _ c2 (hs₄.extBut _ _ c4 (hs₃.extBut _ _ c2 (hs₂.extBut _ _ c3 (hs₁.extBut _ _ c1 e))))
 have h1₅ : St1 (k + 1) h₅:=fr1 _ _ _ h1₂ fun o e=>hs₅.extBut _ _ F.TOi1.symm (hs₄.extBut _ _ F.i12 (hs₃.extBut _ _ F.TOi1.symm e))
 have h2₅ : St2 (k + 1) h₅:=fr2 _ _ _ h2₄ fun o e=>hs₅.extBut _ _ F.TOi2.symm e
 have hzlt : z < h₅.objs.size:=Heap.lt_size hz₅
 show wpAny _ _ (Builtin.SmallTypes.ownedTupleHandOut (.ref z) (.ref h₅.objs.size) >>= _) _ _ _
 refine wpAny_bind ?_
 unfold Builtin.SmallTypes.ownedTupleHandOut
 have hz₆ : IsZip (h₅.push { cls:=.type "tuple",data:=.seq #[x,y] }) z TI TO .ellipsis:=Heap.get?_push_of_some _ hz₅
 refine wpAny_bind (wpAny_setField_rec hz₆ (by simp) fun h₇ hz₇ hs₇=>?_)
 replace hz₇ : IsZip h₇ z TI TO (rawInt h₅.objs.size):=hz₇
 replace hs₇ : Heap.SameBut z (h₅.push { cls:=.type "tuple",data:=.seq #[x,y] }) h₇:=hs₇
 refine wpAny_setField_rec hz₇ (by simp) fun h₈ hz₈ hs₈=>?_
 replace hz₈ : IsZip h₈ z TI TO (rawInt h₅.objs.size):=hz₈
 replace hs₈ : Heap.SameBut z h₇ h₈:=hs₈
 have up : ∀ c o,c ≠ z → h₅.get? c = some o → h₈.get? c = some o:=fun c o c1 e=>hs₈.extBut _ _ c1 (hs₇.extBut _ _ c1 (Heap.get?_push_of_some _ e))
 have hT₈ : IsPair h₈ h₅.objs.size x y:=hs₈.extBut _ _ (Nat.ne_of_gt hzlt) (hs₇.extBut _ _ (Nat.ne_of_gt hzlt) (Heap.get?_push_size _ rfl))
 have hz8 : h₈.objs.size = h₅.objs.size + 1:=by rw [hs₈.1,hs₇.1,Heap.size_push]
 rw [hsz] at hz₈ hT₈ hz8
 refine wpAny_pure ⟨_,rfl,?_⟩
 show Q (.ref h₅.objs.size) _
 rw [hsz]
 exact hQ x y h₈ tk₄ hx hy hz₈ (up _ _ F.TOz hTO₅) (fr1 _ _ _ h1₅ fun o e=>up _ o F.i1z e) (fr2 _ _ _ h2₅ fun o e=>up _ o F.i2z e) hT₈ hz8 fun c o c1 c2 c3 c4 e=>up c o c1 (hk₅ c o c1 c2 c3 c4 e)
theorem Jdp {z TI TO i1 i2 : Addr} {k n1 n2 : Nat} {P1 P2 : Nat → Value → Prop} {St1 St2 : Nat → Heap → Prop} {a b : Value} {Q : Fin → Shared → Prop} (F : J3R z TI TO i1 i2)
  (D1 : Draws prog w A i1 [i1] n1 P1 St1) (D2 : Draws prog w A i2 [i2] n2 P2 St2)
  (hz : IsZip s.heap z TI TO .none) (hTI : IsPair s.heap TI (.ref i1) (.ref i2)) (hTO : IsPair s.heap TO a b)
  (h1 : St1 k s.heap) (h2 : St2 k s.heap) (hend : k = n1 ∨ (k < n1 ∧ k = n2))
  (hE : ∀ h' tk e,(∀ c o,c ≠ z → c ≠ TO → c ≠ i1 → c ≠ i2 → s.heap.get? c = some o → h'.get? c = some o) → (∃ o,h'.get? e = some o ∧ o.cls = .type "StopIteration") → E (.ref e) { s with heap:=h',toks:=tk }) :
  wpAny (model prog w) A (Builtin.«zip.__next__» ⟨[.ref z],[]⟩) Q E s:=by
 have fr1 : ∀ i h h',St1 i h → (∀ o,h.get? i1 = some o → h'.get? i1 = some o) → St1 i h':=fun i h h' st hk=>D1.frame i h h' st fun b hb o e=>by
  have : b = i1:=by simpa using hb
  subst this; exact hk o e
 have fr2 : ∀ i h h',St2 i h → (∀ o,h.get? i2 = some o → h'.get? i2 = some o) → St2 i h':=fun i h h' st hk=>D2.frame i h h' st fun b hb o e=>by
  have : b = i2:=by simpa using hb
  subst this; exact hk o e
 show wpAny _ _ (field (.ref z) 2 >>= _) _ _ _
 refine wpAny_bind (wpAny_field hz rfl (x:=.bool false) rfl ?_)
 show wpAny _ _ (field (.ref z) 3 >>= _) _ _ _
 refine wpAny_bind (wpAny_field hz rfl (x:=.ref TI) rfl ?_)
 refine wpAny_bind (wpAny_seqItems hTI rfl ?_)
 show wpAny _ _ (Builtin.SmallTypes.ownedTupleIsFree (.ref z) >>= _) _ _ _
 refine wpAny_bind ?_
 unfold Builtin.SmallTypes.ownedTupleIsFree
 refine wpAny_bind (wpAny_field hz rfl (x:=.none) rfl (wpAny_pure ?_))
 simp only [if_true]
 refine wpAny_bind (wpAny_rule ?_)
 refine wpAny_bind (wpAny_field hz rfl (x:=.ref TO) rfl ?_)
 refine wpAny_bind (wpAny_setField_rec hz (by simp) fun h₁ hz₁ hs₁=>?_)
 replace hz₁ : IsZip h₁ z TI TO .ellipsis:=hz₁
 refine wpAny_bind ?_
 simp only [List.zipIdx_cons,List.zipIdx_nil,List.forIn_cons,List.forIn_nil]
 refine wpAny_bind (wpAny_bind (wpAny_onRaise ?_))
 show wpAny _ _ (Builtin.SmallTypes.nextOf (.ref i1) >>= _) _ _ _
 rcases hend with hk | ⟨hk1,hk⟩
 ·subst hk
  refine wpAny_bind (D1.done _ _ _ (fr1 _ _ _ h1 fun o e=>hs₁.extBut _ _ F.i1z e) fun h₂ e hs₂ he=>?_)
  obtain ⟨oe,hoe,hce⟩:=he
  replace hs₂ : Heap.ExtBut i1 h₁ h₂:=hs₂
  have hz₂ : IsZip h₂ z TI TO .ellipsis:=hs₂ _ _ F.i1z.symm hz₁
  have hez : e ≠ z:=fun x=>by subst x; rw [hz₂] at hoe; cases hoe; simp at hce
  exact wpAny_setField_rec hz₂ (by simp) fun h₃ _ hs₃=>hE h₃ _ e (fun c o c1 _ c3 _ x=>hs₃.extBut _ _ c1 (hs₂ _ _ c3 (hs₁.extBut _ _ c1 x))) ⟨oe,hs₃.extBut _ _ hez hoe,hce⟩
 ·subst hk
  refine wpAny_bind (D1.item k _ _ _ hk1 (fr1 _ _ _ h1 fun o e=>hs₁.extBut _ _ F.i1z e) fun x h₂ tk₂ hx h1₂ hs₂=>wpAny_pure ?_)
  replace hs₂ : Heap.SameBut i1 h₁ h₂:=hs₂
  have hTO₂ : IsPair h₂ TO a b:=hs₂.extBut _ _ F.TOi1 (hs₁.extBut _ _ F.TOz hTO)
  refine wpAny_bind (wpAny_seqItems hTO₂ rfl ?_)
  refine wpAny_bind (wpAny_updateSeq_pair hTO₂ fun h₃ hTO₃ hs₃=>?_)
  replace hs₃ : Heap.SameBut TO h₂ h₃:=hs₃
  refine wpAny_bind (wpAny_letGo (wpAny_pure ?_))
  refine wpAny_bind (wpAny_bind (wpAny_onRaise ?_))
  show wpAny _ _ (Builtin.SmallTypes.nextOf (.ref i2) >>= _) _ _ _
  refine wpAny_bind (D2.done _ _ _ (fr2 _ _ _ h2 fun o e=>hs₃.extBut _ _ F.TOi2.symm (hs₂.extBut _ _ F.i12.symm (hs₁.extBut _ _ F.i2z e))) fun h₄ e hs₄ he=>?_)
  obtain ⟨oe,hoe,hce⟩:=he
  replace hs₄ : Heap.ExtBut i2 h₃ h₄:=hs₄
  have hz₄ : IsZip h₄ z TI TO .ellipsis:=hs₄ _ _ F.i2z.symm (hs₃.extBut _ _ F.TOz.symm (hs₂.extBut _ _ F.i1z.symm hz₁))
  have hez : e ≠ z:=fun x=>by subst x; rw [hz₄] at hoe; cases hoe; simp at hce
  exact wpAny_setField_rec hz₄ (by simp) fun h₅ _ hs₅=>hE h₅ _ e (fun c o c1 c2 c3 c4 x=>hs₅.extBut _ _ c1 (hs₄ _ _ c4 (hs₃.extBut _ _ c2 (hs₂.extBut _ _ c3 (hs₁.extBut _ _ c1 x))))) ⟨oe,hs₅.extBut _ _ hez hoe,hce⟩
theorem J4U {it : Addr} {l : List Nat} {t : Tok} {nm : String} (hh : A.handled = none) (hn : nm = "str_ascii_iterator" ∨ nm = "str_iterator") :
  Draws prog w A it [it] l.length (fun i v=>∃ c u,l[i]? = some c ∧ v = .str ⟨#[c]⟩ u) (fun i h=>h.IsStrIter it nm ⟨l.toArray⟩ t i):=by
 rcases hn with rfl | rfl
 ·have D:=Draws.strAscii (prog:=prog) (w:=w) hh it ⟨l.toArray⟩ t
  simpa using D
 ·have D:=Draws.strWide (prog:=prog) (w:=w) hh it ⟨l.toArray⟩ t
  simpa using D
end
theorem Inv.turnedN {X : Cx} {pins : List (Addr × Obj)} {σ : St} {H : Hp} {s : Shared} {h' : Heap} {t' : Nat} {ch : List Addr} (I : Inv X pins σ H s) (k : ∀ b o,b ∉ ch → s.heap.get? b = some o → h'.get? b = some o) (hf : ∀ b ∈ ch,FpOk X pins H b) :
  Inv X pins σ H { s with heap:=h',toks:=t' }:=by
 have nch : ∀ b u,H b = some u → b ∉ ch:=fun b u e z=>by rw [(hf b z).1] at e; cases e
 refine I.step (g':=s.gens) (d':=s.drawn) (ch:=ch) (fun b hb=>?_) (fun b o _ _ hc e _=>k b o hc e) (fun b o _ _ hc e _=>⟨o.slots,k b o hc e⟩) (fun _ _ _ _ n=>n)
  (fun b o hc e=>⟨o,k b o hc e⟩) (fun _ _ e=>e) (fun _ _ _ e=>e) (fun b ps e=>⟨#[],by rw [e]; simp⟩) (fun m hm=>?_) (fun b u e=>?_) I.bare
 ·obtain ⟨f0,f1,f2,f3,f4,f5⟩:=hf b hb
  exact ⟨f3,f1,f4,f5⟩
 ·obtain ⟨o,es,ep,ho,r⟩:=hm
  exact ⟨o,es,ep,k _ o (fun z=>(hf _ z).2.1 rfl) ho,r⟩
 ·refine (I.hok b u e).stay (fun c v hc q=>k c v ?_ q) (fun _ q=>q) fun _ _ q=>q
  rcases hc with z | z
  ·rw [z]; exact nch b u e
  ·exact nch c _ z
noncomputable def Itz (l1 l2 : List Nat) : It :=
 ⟨fun i _=>i < l1.length ∧ i < l2.length,fun i H x H'=>∃ p c d,H p = none ∧ l1[i]? = some c ∧ l2[i]? = some d ∧ x = .ref p ∧ H' = upd H p (.tup [T [c],T [d]]),fun i _=>i = l1.length ∨ (i < l1.length ∧ i = l2.length)⟩
theorem JbT {P : Program} {w : World} {K : PySem.W.Frag} {es : List Expr} {k : Nat} {pos : Pos} {z TI TO i1 i2 : Addr} {l1 l2 : List Nat} {t1 t2 : Tok} {n1 n2 : String} (F : J3R z TI TO i1 i2)
  (hn1 : n1 = "str_ascii_iterator" ∨ n1 = "str_iterator") (hn2 : n2 = "str_ascii_iterator" ∨ n2 = "str_iterator") :
  Turn P w K (.Tuple es k pos) (Itz l1 l2) [z,TI,TO,i1,i2] z (fun i h=>IsZip h z TI TO .none ∧ IsPair h TI (.ref i1) (.ref i2) ∧ (∃ a b,IsPair h TO a b) ∧ h.IsStrIter i1 n1 ⟨l1.toArray⟩ t1 i ∧ h.IsStrIter i2 n2 ⟨l2.toArray⟩ t2 i) where
 mem:=by simp
 obj:=fun i h st b hb=>by
  obtain ⟨hz,hTI,⟨a,b',hTO⟩,⟨o1,e1,c1,d1⟩,o2,e2,c2,d2⟩:=st
  simp only [List.mem_cons,List.not_mem_nil,or_false] at hb
  rcases hb with rfl | rfl | rfl | rfl | rfl
  ·exact ⟨_,hz,fun v q=>by cases q⟩
  ·exact ⟨_,hTI,fun v q=>by cases q⟩
  ·exact ⟨_,hTO,fun v q=>by cases q⟩
  ·exact ⟨o1,e1,fun v q=>by rw [d1] at q; cases q⟩
  ·exact ⟨o2,e2,fun v q=>by rw [d2] at q; cases q⟩
 keep:=fun i h h' st kk=>by
  obtain ⟨hz,hTI,⟨a,b',hTO⟩,⟨o1,e1,r1⟩,o2,e2,r2⟩:=st
  exact ⟨kk z (by simp) _ hz,kk TI (by simp) _ hTI,⟨a,b',kk TO (by simp) _ hTO⟩,⟨o1,kk i1 (by simp) _ e1,r1⟩,o2,kk i2 (by simp) _ e2,r2⟩
 item:=by
  intro X hP hw hK hc i pins s σ H E I hf st hg
  subst hP hw hK
  obtain ⟨hz,hTI,⟨a,b,hTO⟩,h1,h2⟩:=st
  have hh : X.A.in1.handled = none:=I.ok.hd hc
  have hT : s.TypeIs (.ref z) "zip":=⟨_,hz,rfl⟩
  have D1:=J4U (prog:=X.prog) (w:=X.w) (it:=i1) (l:=l1) (t:=t1) hh hn1
  have D2:=J4U (prog:=X.prog) (w:=X.w) (it:=i2) (l:=l2) (t:=t2) hh hn2
  unfold pyNext
  refine wpAny_bind (wpAny_attempt (wpAny_callSpecial?_slot (name:=Str.ofString "__next__") hT PySem.F.slot_zip_next (wpAny_call_entry PySem.F.slot_zip_next hT PySem.F.entry_zip_next
   (JbZ F D1 D2 hz hTI hTO h1 h2 hg.1 hg.2 fun x y h' tk hx hy a1 a2 a3 a4 a5 a6 kp=>wpAny_pure ?_) (PySem.F.args_zip_next_1 _))))
  obtain ⟨c,u,hc1,rfl⟩:=hx
  obtain ⟨d,v,hd1,rfl⟩:=hy
  refine ⟨_,rfl,?_⟩
  refine wpAny_letOwnedTupleGo_zip (s:={ s with heap:=h',toks:=tk }) a1 fun h2' hz' hs'=>?_
  replace hs' : Heap.SameBut z h' h2':=hs'
  have zlt : z < s.heap.objs.size:=Heap.lt_size hz
  have far : ∀ q ∈ [z,TI,TO,i1,i2],q < s.heap.objs.size:=by
   intro q hq
   obtain ⟨o1,e1,_⟩:=h1
   obtain ⟨o2,e2,_⟩:=h2
   simp only [List.mem_cons,List.not_mem_nil,or_false] at hq
   rcases hq with rfl | rfl | rfl | rfl | rfl
   ·exact zlt
   ·exact Heap.lt_size hTI
   ·exact Heap.lt_size hTO
   ·exact Heap.lt_size e1
   ·exact Heap.lt_size e2
  have fz:=hf z (by simp)
  have fTO:=hf TO (by simp)
  have f1:=hf i1 (by simp)
  have f2:=hf i2 (by simp)
  have I1 : Inv X pins σ H { s with heap:=s.heap.push { cls:=.type "tuple",data:=.seq #[.str ⟨#[c]⟩ u,.str ⟨#[d]⟩ v] },toks:=tk }:=I.kept fun b o e=>Heap.get?_push_of_some _ e
  have keepAll : ∀ b o,b ≠ z → b ≠ TO → b ≠ i1 → b ≠ i2 → s.heap.get? b = some o → h2'.get? b = some o:=fun b o b1 b2 b3 b4 e=>hs'.extBut _ _ b1 (kp b o b1 b2 b3 b4 e)
  have hnew : H s.heap.objs.size = none:=I.hok.fresh (Nat.le_refl _)
  have Tz : s.heap.objs.size ≠ z:=Nat.ne_of_gt zlt
  have ht2 : h2'.get? s.heap.objs.size = some { cls:=.type "tuple",data:=.seq #[.str ⟨#[c]⟩ u,.str ⟨#[d]⟩ v] }:=hs'.extBut _ _ Tz a5
  have I2 : Inv X pins σ (upd H s.heap.objs.size (.tup [T [c],T [d]])) { s with heap:=h2',toks:=tk }:=by
   have there : ∀ q ∈ [z,TO,i1,i2],∃ o',h2'.get? q = some o':=by
    intro q hq
    obtain ⟨o1,e1,_⟩:=a3
    obtain ⟨o2,e2,_⟩:=a4
    simp only [List.mem_cons,List.not_mem_nil,or_false] at hq
    rcases hq with rfl | rfl | rfl | rfl
    ·exact ⟨_,hz'⟩
    ·exact ⟨_,hs'.extBut _ _ F.TOz a2⟩
    ·exact ⟨_,hs'.extBut _ _ F.i1z e1⟩
    ·exact ⟨_,hs'.extBut _ _ F.i2z e2⟩
   have nch : ∀ b,b ∉ [z,TO,i1,i2] → b ≠ z ∧ b ≠ TO ∧ b ≠ i1 ∧ b ≠ i2:=fun b hb=>by
    simp only [List.mem_cons,List.not_mem_nil,or_false,not_or] at hb
    exact hb
   have trk : ∀ b u',H b = some u' → b ≠ z ∧ b ≠ TO ∧ b ≠ i1 ∧ b ≠ i2:=fun b u' e =>
    ⟨fun q=>(by rw [q,fz.1] at e; cases e),fun q=>(by rw [q,fTO.1] at e; cases e),fun q=>(by rw [q,f1.1] at e; cases e),fun q=>(by rw [q,f2.1] at e; cases e)⟩
   have okH : HOk X.prog X.w (upd H s.heap.objs.size (.tup [T [c],T [d]])) h2':=fun b u' e=>by
    by_cases hb : b = s.heap.objs.size
    ·subst hb
     rw [Jd] at e
     cases e
     exact ⟨(show 2 ≤ sizeLine by decide),[.str ⟨#[c]⟩ u,.str ⟨#[d]⟩ v],.cons ⟨u,rfl⟩ (.cons ⟨v,rfl⟩ .nil),⟨_,ht2,rfl,_,rfl⟩⟩
    ·rw [Jn hb] at e
     have hx:=I.hok b u' e
     refine hx.stay (fun q o hq e2=>?_) (fun q e2=>?_) (fun q xs e2=>?_)
     ·rcases hq with rfl | hq
      ·obtain ⟨b1,b2,b3,b4⟩:=trk q _ e
       exact keepAll q o b1 b2 b3 b4 e2
      ·obtain ⟨b1,b2,b3,b4⟩:=trk q _ hq
       exact keepAll q o b1 b2 b3 b4 e2
     ·rw [Jn (Jj e2 hnew)]; exact e2
     ·rw [Jn (Jj e2 hnew)]; exact e2
   refine I.step (g':=s.gens) (d':=s.drawn) (ch:=[z,TO,i1,i2]) (fun b hb=>?_) (fun b o _ _ hcb e n=>?_) (fun b o _ _ hcb e n=>?_) (fun b o hcb e n=>?_) (fun b o hcb e=>?_) (fun b xs e=>?_) (fun b o u' e=>?_) (fun b ps e=>?_) (fun m hm=>?_) okH I.bare
   ·simp only [List.mem_cons,List.not_mem_nil,or_false] at hb
    rcases hb with rfl | rfl | rfl | rfl
    ·exact ⟨fz.2.2.2.1,fz.2.1,fz.2.2.2.2.1,fz.2.2.2.2.2⟩
    ·exact ⟨fTO.2.2.2.1,fTO.2.1,fTO.2.2.2.2.1,fTO.2.2.2.2.2⟩
    ·exact ⟨f1.2.2.2.1,f1.2.1,f1.2.2.2.2.1,f1.2.2.2.2.2⟩
    ·exact ⟨f2.2.2.2.1,f2.2.1,f2.2.2.2.2.1,f2.2.2.2.2.2⟩
   ·obtain ⟨b1,b2,b3,b4⟩:=nch b hcb
    exact keepAll b o b1 b2 b3 b4 e
   ·obtain ⟨b1,b2,b3,b4⟩:=nch b hcb
    exact ⟨o.slots,keepAll b o b1 b2 b3 b4 e⟩
   ·rw [Jn (Nat.ne_of_lt (Heap.lt_size e))]; exact n
   ·obtain ⟨b1,b2,b3,b4⟩:=nch b hcb
    exact ⟨o,keepAll b o b1 b2 b3 b4 e⟩
   ·rw [Jn (Jj e hnew)]; exact e
   ·rw [Jn (Jj e hnew)]; exact e
   ·exact ⟨#[],by rw [Jn (Jj e hnew),e]; simp⟩
   ·obtain ⟨o,es',ep,ho,r⟩:=hm
    exact ⟨o,es',ep,keepAll _ o fz.2.1.symm fTO.2.1.symm f1.2.1.symm f2.2.1.symm ho,r⟩
  refine ⟨.ref s.heap.objs.size,_,I2,rfl,⟨_,c,d,hnew,hc1,hd1,rfl,rfl⟩,⟨hz',hs'.extBut _ _ F.TIz (kp _ _ F.TIz F.TITO F.TIi1 F.TIi2 hTI),⟨_,_,hs'.extBut _ _ F.TOz a2⟩,?_,?_⟩,fun b hb=>?_⟩
  ·obtain ⟨o,e,r⟩:=a3; exact ⟨o,hs'.extBut _ _ F.i1z e,r⟩
  ·obtain ⟨o,e,r⟩:=a4; exact ⟨o,hs'.extBut _ _ F.i2z e,r⟩
  ·rw [Jn (Nat.ne_of_lt (far b hb))]; exact (hf b hb).1
 done:=by
  intro X hP hw hK hc i pins s σ H E I hf st hg
  subst hP hw hK
  obtain ⟨hz,hTI,⟨a,b,hTO⟩,h1,h2⟩:=st
  have hh : X.A.in1.handled = none:=I.ok.hd hc
  have hT : s.TypeIs (.ref z) "zip":=⟨_,hz,rfl⟩
  have D1:=J4U (prog:=X.prog) (w:=X.w) (it:=i1) (l:=l1) (t:=t1) hh hn1
  have D2:=J4U (prog:=X.prog) (w:=X.w) (it:=i2) (l:=l2) (t:=t2) hh hn2
  unfold pyNext
  refine wpAny_bind (wpAny_attempt (wpAny_callSpecial?_slot (name:=Str.ofString "__next__") hT PySem.F.slot_zip_next (wpAny_call_entry PySem.F.slot_zip_next hT PySem.F.entry_zip_next
   (Jdp F D1 D2 hz hTI hTO h1 h2 hg fun h' tk e kp he=>?_) (PySem.F.args_zip_next_1 _))))
  obtain ⟨o,ho,hc'⟩:=he
  refine wpAny_bind (wpAny_isInstance (T:="StopIteration") (b:=true) ⟨o,ho,hc'⟩ isSubtype_stop ?_)
  refine wpAny_pure ⟨rfl,?_⟩
  refine I.turnedN (ch:=[z,TO,i1,i2]) (fun b o hb q=>?_) fun b hb=>hf b ?_
  ·simp only [List.mem_cons,List.not_mem_nil,or_false,not_or] at hb
   exact kp b o hb.1 hb.2.1 hb.2.2.1 hb.2.2.2 q
  ·simp only [List.mem_cons,List.not_mem_nil,or_false] at hb ⊢
   rcases hb with q | q | q | q
   ·exact .inl q
   ·exact .inr (.inr (.inl q))
   ·exact .inr (.inr (.inr (.inl q)))
   ·exact .inr (.inr (.inr (.inr q)))
 self:=fun _ _ _ _ _ st h=>wpAny_pyIter_zip st.1 h
noncomputable def J2J (l : List Nat) : String:=if (⟨l.toArray⟩ : Str).cps.all (· < 128) = true then "str_ascii_iterator" else "str_iterator"
theorem J7Q (l : List Nat) : J2J l = "str_ascii_iterator" ∨ J2J l = "str_iterator":=by
 unfold J2J; split
 ·exact .inl rfl
 ·exact .inr rfl
theorem J9s {prog : Program} {w : World} {A : Around} {E : Value → Shared → Prop} {hp : Heap} {g : Array GenState} {d : Drawn} {tk : Nat} {os : OsState} {l : List Nat} {t : Tok} {Q : Value → Shared → Prop}
  (h : Q (.ref hp.objs.size) ⟨hp.push { cls:=.type (J2J l),data:=.fields #[.str ⟨l.toArray⟩ t,.int 0 0] },g,d,tk,os⟩) : wpAny (model prog w) A (pyIter (.str ⟨l.toArray⟩ t)) Q E ⟨hp,g,d,tk,os⟩:=by
 cases ha : (⟨l.toArray⟩ : Str).cps.all (· < 128) with
 | true =>
  have e : J2J l = "str_ascii_iterator":=by unfold J2J; rw [if_pos ha]
  rw [e] at h
  exact wpAny_pyIter_ascii (s:=⟨hp,g,d,tk,os⟩) ha h
 | false =>
  have e : J2J l = "str_iterator":=by unfold J2J; rw [if_neg (by rw [ha]; exact Bool.false_ne_true)]
  rw [e] at h
  exact wpAny_pyIter_wide (s:=⟨hp,g,d,tk,os⟩) ha h
noncomputable abbrev Jbs (h : Heap) (l1 : List Nat) (t1 : Tok) : Heap:=h.push { cls:=.type (J2J l1),data:=.fields #[.str ⟨l1.toArray⟩ t1,.int 0 0] }
noncomputable abbrev JaY (h : Heap) (l1 l2 : List Nat) (t1 t2 : Tok) : Heap:=(Jbs h l1 t1).push { cls:=.type (J2J l2),data:=.fields #[.str ⟨l2.toArray⟩ t2,.int 0 0] }
noncomputable abbrev Jba (h : Heap) (l1 l2 : List Nat) (t1 t2 : Tok) : Heap:=(JaY h l1 l2 t1 t2).push { cls:=.type "tuple",data:=.seq #[.ref h.objs.size,.ref (Jbs h l1 t1).objs.size] }
noncomputable abbrev Jb4 (h : Heap) (l1 l2 : List Nat) (t1 t2 : Tok) : Heap:=(Jba h l1 l2 t1 t2).push { cls:=.type "tuple",data:=.seq #[.none,.none] }
noncomputable abbrev J7G (h : Heap) (l1 l2 : List Nat) (t1 t2 : Tok) : Heap:=(Jb4 h l1 l2 t1 t2).push { cls:=.type "zip",data:=.fields #[.none,.bool false,.bool false,.ref (JaY h l1 l2 t1 t2).objs.size,.ref (Jba h l1 l2 t1 t2).objs.size] }
theorem Jap (l1 l2 : List Nat) (t1 t2 : Tok) :
  Meets (Builtin.«zip.__new__» ⟨[.type "zip",.str ⟨l1.toArray⟩ t1,.str ⟨l2.toArray⟩ t2],[]⟩) (fun _ R s=>R (.ok (.ret (.ref (Jb4 s.heap l1 l2 t1 t2).objs.size))) { s with heap:=J7G s.heap l1 l2 t1 t2 }) :=
 .of_wp fun prog w A R s h=>by
  obtain ⟨hp,g,d,tk,os⟩:=s
  have hsub:=sub_zip
  wp_walk using J9s (l:=l1) (t:=t1),J9s (l:=l2) (t:=t2)
  exact ⟨_,rfl,h⟩
theorem Jca {prog : Program} {w : World} {A : Around} {E : Value → Shared → Prop} {s : Shared} {l1 l2 : List Nat} {t1 t2 : Tok} {Q : Value → Shared → Prop}
  (h : ∀ h',IsZip h' (s.heap.objs.size + 4) (s.heap.objs.size + 2) (s.heap.objs.size + 3) .none → IsPair h' (s.heap.objs.size + 2) (.ref s.heap.objs.size) (.ref (s.heap.objs.size + 1)) →
   IsPair h' (s.heap.objs.size + 3) .none .none → h'.IsStrIter s.heap.objs.size (J2J l1) ⟨l1.toArray⟩ t1 0 → h'.IsStrIter (s.heap.objs.size + 1) (J2J l2) ⟨l2.toArray⟩ t2 0 →
   (∀ c o,s.heap.get? c = some o → h'.get? c = some o) → Q (.ref (s.heap.objs.size + 4)) { s with heap:=h' }) :
  wpAny (model prog w) A (call (.type "zip") [.str ⟨l1.toArray⟩ t1,.str ⟨l2.toArray⟩ t2]) Q E s:=by
 refine callType_new F.called_zip (by decide) (F.typeCall_zip_2 _ _) (F.newCall_zip_2 _ _) (fun obj=>F.args_object_init_3 obj _ _) F.entry_zip_new (Jap l1 l2 t1 t2) ?_
 have z1 : (Jbs s.heap l1 t1).objs.size = s.heap.objs.size + 1:=Heap.size_push ..
 have z2 : (JaY s.heap l1 l2 t1 t2).objs.size = s.heap.objs.size + 2:=by rw [Heap.size_push,z1]
 have z3 : (Jba s.heap l1 l2 t1 t2).objs.size = s.heap.objs.size + 3:=by rw [Heap.size_push,z2]
 have z4 : (Jb4 s.heap l1 l2 t1 t2).objs.size = s.heap.objs.size + 4:=by rw [Heap.size_push,z3]
 have g5 : (J7G s.heap l1 l2 t1 t2).get? (Jb4 s.heap l1 l2 t1 t2).objs.size = some _:=Heap.get?_push_size _ rfl
 have g4 : (J7G s.heap l1 l2 t1 t2).get? (Jba s.heap l1 l2 t1 t2).objs.size = some _:=Heap.get?_push_of_some _ (Heap.get?_push_size _ rfl)
 have g3 : (J7G s.heap l1 l2 t1 t2).get? (JaY s.heap l1 l2 t1 t2).objs.size = some _:=Heap.get?_push_of_some _ (Heap.get?_push_of_some _ (Heap.get?_push_size _ rfl))
 have g2 : (J7G s.heap l1 l2 t1 t2).get? (Jbs s.heap l1 t1).objs.size = some _:=Heap.get?_push_of_some _ (Heap.get?_push_of_some _ (Heap.get?_push_of_some _ (Heap.get?_push_size _ rfl)))
 have g1 : (J7G s.heap l1 l2 t1 t2).get? s.heap.objs.size = some _:=Heap.get?_push_of_some _ (Heap.get?_push_of_some _ (Heap.get?_push_of_some _ (Heap.get?_push_of_some _ (Heap.get?_push_size _ rfl))))
 show _ ∧ _
 rw [z2,z3,z4] at g5
 rw [z1,z2] at g3
 rw [z3] at g4
 rw [z1] at g2
 rw [z4]
 exact ⟨⟨_,g5,rfl⟩,h _ g5 g3 g4 ⟨_,g1,rfl,rfl⟩ ⟨_,g2,rfl,rfl⟩ fun c o x =>
  Heap.get?_push_of_some _ (Heap.get?_push_of_some _ (Heap.get?_push_of_some _ (Heap.get?_push_of_some _ (Heap.get?_push_of_some _ x))))⟩
section
variable {X : Cx} {es : List Expr} {k : Nat} {tpos : Pos}
noncomputable def JfS (ta : TA) : TI:=fun σ H R=>ta σ H fun vs H1=>∃ l1 l2,vs = [T l1,T l2] ∧ R (Itz l1 l2) H1
theorem Jbk {a b : Expr} {ta : TA} {p pos : Pos} (hg : Gl X "zip") (hm : X.mg "zip" = none) (ha : PA X [a,b] ta) (hv : bootBuiltins "zip" = some (.type "zip"):=by decide +kernel) (hs : starEach [a,b] X.env = [(false,eval a X.env),(false,eval b X.env)]:=by rfl) (hs2 : starEach [b] X.env = [(false,eval b X.env)]:=by rfl) :
  PI X (.Tuple es k tpos) (.Call (.Name "zip" p) [a,b] [] pos) (JfS ta):=by
 intro pins s σ H R I h
 refine Call_ (J4p I hg hm hv (PyProof.Rows.callWith_type1 (thn (ha pos pins s σ H _ I h) fun us s1 ⟨vs,H1,I1,r1,q1⟩=>?_) (by rw [hs,hs2]) (by rw [hs2]; rfl)))
 obtain ⟨l1,l2,e,q⟩:=q1
 subst e
 obtain ⟨u,v,rfl,ru,rv⟩:=r1.two
 obtain ⟨t1,rfl⟩:=ru
 obtain ⟨t2,rfl⟩:=rv
 refine Jca fun h' a1 a2 a3 a4 a5 kp=>?_
 have far : J3R (s1.heap.objs.size + 4) (s1.heap.objs.size + 2) (s1.heap.objs.size + 3) s1.heap.objs.size (s1.heap.objs.size + 1):=J6O _
 have I2 : Inv X pins σ H1 { s1 with heap:=h' }:=I1.kept (t':=s1.toks) kp
 refine wpAny_pyIter_zip a1 ⟨s1.heap.objs.size + 4,[s1.heap.objs.size + 4,s1.heap.objs.size + 2,s1.heap.objs.size + 3,s1.heap.objs.size,s1.heap.objs.size + 1],_,_,H1,rfl,I2,JbT (t1:=t1) (t2:=t2) far (J7Q l1) (J7Q l2),⟨a1,a2,⟨_,_,a3⟩,a4,a5⟩,fun b hb=>?_,q⟩
 have hb' : s1.heap.objs.size ≤ b:=by
  simp only [List.mem_cons,List.not_mem_nil,or_false] at hb
  rcases hb with rfl | rfl | rfl | rfl | rfl
  ·exact Nat.le_add_right _ _
  ·exact Nat.le_add_right _ _
  ·exact Nat.le_add_right _ _
  ·exact Nat.le_refl _
  ·exact Nat.le_add_right _ _
 exact I1.fpOk hb' (I1.hok.fresh hb')
end
end L2
set_option linter.all false
set_option maxRecDepth 100000
set_option maxHeartbeats 4000000
namespace L2
open PySem PySem.Spec PyProof.Rows
theorem JbR {K : PySem.W.Frag} {H : Hp} {l1 l2 : List Nat} {rest : St} {te : TE} {Q : VK} (f : Nat → Nat → V) (hx : l1.length ≤ 1000000)
  (he : ∀ c d H',Same H H' → ∀ R : VK,(∀ H'',Same H' H'' → R (f c d) H'') → te (some (T [c]) :: some (T [d]) :: rest) H' R)
  (hQ : ∀ D H',H D = none → Same H H' → H' D = some (.lst ((l1.zip l2).map fun p=>f p.1 p.2)) → Q (.ref D) H') :
  J4Q (Itz l1 l2) H (none :: none :: rest) (gTup K 2 (J9t (J3n 0) (J9t (J3n 1) gNil))) tYes te Q:=by
 intro D hD
 refine ⟨fun i m σ1 ys H'=>m = l1.length - i ∧ i ≤ l1.length ∧ i ≤ l2.length ∧ (∃ a b,σ1 = a :: b :: rest) ∧ ys = ((l1.zip l2).take i).map (fun p=>f p.1 p.2) ∧ H' D = some (.lst ys) ∧ Same H H',⟨l1.length,by simp,Nat.zero_le _,Nat.zero_le _,⟨_,_,rfl⟩,rfl,Jd,Jy hD _⟩,?_⟩
 rintro i m σ1 ys H' ⟨rfl,hi1,hi2,⟨a,b,rfl⟩,rfl,hDD,hs⟩
 by_cases hlt : i < l1.length ∧ i < l2.length
 ·refine .inr ⟨hlt,fun x H'' hy=>?_⟩
  obtain ⟨p,c,d,hp,hc,hd,rfl,rfl⟩:=hy
  refine ⟨p,[T [c],T [d]],rfl,SqT.of Jd,rfl,T [c],[T [d]],rfl,T [d],[],rfl,rfl,?_⟩
  unfold tYes
  dsimp only
  refine iteT ?_
  have pD : D ≠ p:=fun z=>by subst z; rw [hp] at hDD; cases hDD
  have s1 : Same H (upd H' p (.tup [T [c],T [d]])):=hs.trans (Jy hp _)
  have hz : (l1.zip l2)[i]? = some (c,d):=by rw [List.getElem?_zip_eq_some]; exact ⟨hc,hd⟩
  refine he c d _ s1 _ fun H4 s4=>⟨s4 _ _ (by rw [Jn pD]; exact hDD),?_,l1.length - (i + 1),by omega,rfl,hlt.1,hlt.2,⟨_,_,rfl⟩,?_,Jd,(s1.trans s4).upd hD⟩
  ·rw [List.length_map,List.length_take]
   have : (1000001 : Nat) ≤ sizeLine:=by decide
   omega
  ·rw [List.take_add_one,hz,List.map_append]
   rfl
 ·have e : i = l1.length ∨ (i < l1.length ∧ i = l2.length):=by omega
  refine .inl ⟨e,hQ D H' hD hs ?_⟩
  rw [hDD,List.take_of_length_le]
  rw [List.length_zip]
  omega
end L2
set_option linter.all false
set_option maxRecDepth 100000
set_option maxHeartbeats 4000000
namespace L2
open PySem PySem.Spec PyProof.Rows
noncomputable def GF (K : PySem.W.Frag) (mg : Str → Option Value) (x : Str) (st : Stmt) : Prop:=∃ f fd,Fun K x x st f fd ∧ mg x = some (.ref f)
noncomputable def FnG (P : Program) (w : World) (K : PySem.W.Frag) (mg : Str → Option Value) (base : Heap) (x : Str) (k : Nat) (ps : List Str) (sp : Sp) : Prop :=
 ∃ f fd,FnOk P w K mg base CX0 k f fd ps sp ∧ mg x = some (.ref f) ∧ PySem.W.keepIn K (.ref f) = true ∧ J3o K fd ps []
noncomputable def MF (K : PySem.W.Frag) (C : Addr) (m qual : Str) (st : Stmt) : Prop:=∃ f fd,Fun K m qual st f fd ∧ Meth K C m f
noncomputable def MtG (P : Program) (w : World) (K : PySem.W.Frag) (mg : Str → Option Value) (base : Heap) (C : Addr) (m : Str) (k : Nat) (ps : List Str) (sp : Sp) : Prop :=
 ∃ f fd,FnOk P w K mg base CX0 k f fd ps sp ∧ Cls K C ∧ Meth K C m f ∧ J3o K fd ps []
structure CF (K : PySem.W.Frag) (mg : Str → Option Value) (x : Str) (C : Addr) : Prop where
 cl : Cls K C
 mg : mg x = some (.ref C)
 makes : PySem.W.makesIn K C = true
 kp : PySem.W.keepIn K (.ref C) = true
noncomputable def MkG (P : Program) (w : World) (K : PySem.W.Frag) (mg : Str → Option Value) (base : Heap) (C : Addr) (x : Str) (k : Nat) (ps : List Str) (sp : Sp) : Prop :=
 ∃ f fd,FnOk P w K mg base CX0 k f fd ps sp ∧ Mk K C f ∧ mg x = some (.ref C) ∧ J3o K fd ps []
section
variable {P : Program} {w : World} {K : PySem.W.Frag} {mg : Str → Option Value} {base : Heap}
theorem MtG.mono {C : Addr} {m : Str} {j k : Nat} {ps : List Str} {sp : Sp} (G : MtG P w K mg base C m j ps sp) (h : j ≤ k) : MtG P w K mg base C m k ps sp:=by
 obtain ⟨f,fd,a,b⟩:=G
 exact ⟨f,fd,a.mono h,b⟩
theorem MtG.imp {C : Addr} {m : Str} {k : Nat} {ps : List Str} {sp sp' : Sp} (G : MtG P w K mg base C m k ps sp) (h : ∀ vs H Q E,sp' vs H Q E → sp vs H Q E) : MtG P w K mg base C m k ps sp':=by
 obtain ⟨f,fd,a,b⟩:=G
 exact ⟨f,fd,a.imp h,b⟩
theorem GF.g {x : Str} {st : Stmt} {N ps : List Str} {k : Nat} {sp : Sp} (F : GF K mg x st) (S : Jv N ps (J9 st))
  (bnd : ∀ (kV doc pm : Value) (an : Option Addr) (cdv ct : Value) (us : List Value),us.length = ps.length → bindArgs (PySem.W.fnOf x x (Ju st) (Jt st) (J9 st) .none kV doc pm an cdv ct) ⟨us,[]⟩ = pure (ps.zip us))
  (len : ∀ vs H Q E,sp vs H Q E → vs.length = ps.length)
  (hbody : ∀ (f : Addr) (cdv : Value) (A : Around) (outer : List Env) (s : Shared) (H : Hp) (vs : List V) (Q : VK) (E : XK),Room k (A.deeper (envOfC x (J9 st) s.heap.objs.size f cdv)) → sp vs H Q E →
   ∃ t,PSs (cxOf CX0 P w K mg base N x (J9 st) f cdv A outer s H E).nox (Jt st) t ∧ t { nx:=fun _ H'=>Q .non H',rt:=Q } (start N vs) H) : FnG P w K mg base x (k + 1) ps sp:=by
 obtain ⟨f,fd,F,m⟩:=F
 exact ⟨f,fd,F.ok S len fun cdv A outer s H vs Q E hr h=>hbody f cdv A outer s H vs Q E hr h,m,F.kp,F.binds bnd⟩
theorem MF.g {C : Addr} {m qual : Str} {st : Stmt} {N ps : List Str} {k : Nat} {sp : Sp} (F : MF K C m qual st) (cl : Cls K C) (S : Jv N ps (J9 st))
  (bnd : ∀ (kV doc pm : Value) (an : Option Addr) (cdv ct : Value) (us : List Value),us.length = ps.length → bindArgs (PySem.W.fnOf m qual (Ju st) (Jt st) (J9 st) .none kV doc pm an cdv ct) ⟨us,[]⟩ = pure (ps.zip us))
  (len : ∀ vs H Q E,sp vs H Q E → vs.length = ps.length)
  (hbody : ∀ (f : Addr) (cdv : Value) (A : Around) (outer : List Env) (s : Shared) (H : Hp) (vs : List V) (Q : VK) (E : XK),Room k (A.deeper (envOfC qual (J9 st) s.heap.objs.size f cdv)) → sp vs H Q E →
   ∃ t,PSs (cxOf CX0 P w K mg base N qual (J9 st) f cdv A outer s H E).nox (Jt st) t ∧ t { nx:=fun _ H'=>Q .non H',rt:=Q } (start N vs) H) : MtG P w K mg base C m (k + 1) ps sp:=by
 obtain ⟨f,fd,F,m⟩:=F
 exact ⟨f,fd,F.ok S len fun cdv A outer s H vs Q E hr h=>hbody f cdv A outer s H vs Q E hr h,cl,m,F.binds bnd⟩
theorem CF.g {C : Addr} {x : Str} {k : Nat} {ps : List Str} {sp : Sp} (c : CF K mg x C) (G : MtG P w K mg base C "__init__" k ps sp) : MkG P w K mg base C x k ps sp:=by
 obtain ⟨f,fd,a,_,m,b⟩:=G
 exact ⟨f,fd,a,⟨c.makes,m.at_,m.fn,c.kp⟩,c.mg,b⟩
end
section
variable {X : Cx} {x m : Str} {k : Nat} {ps : List Str} {sp : Sp} {C : Addr} {p pos apos : Pos} {e o : Expr} {es : List Expr} {t : TA} {to : TE}
theorem JQ (G : FnG X.prog X.w X.K X.mg X.base x k ps sp) (hr : Room k X.A) (ha : PA X (e :: es) t) (hg : Gl X x:=by rfl) (hdb : (x == ("__debug__" : Str)) = false:=by decide)
  (he : starEach (e :: es) X.env = (false,eval e X.env) :: starEach es X.env:=by rfl) (hpl : (backTo pos (starEach es X.env)).any (·.1) = false:=by rfl) : PE X (.Call (.Name x p) (e :: es) [] pos) (Jb8 sp [] E0 t):=by
 obtain ⟨f,fd,a,b,c,d⟩:=G
 exact Jbe a hr hg b c d .nil Jbo ha hdb he hpl
theorem Jbt {pl : Sem Bool} (G : MtG X.prog X.w X.K X.mg X.base C m k ps sp) (hr : Room k X.A) (ho : PE X o to) (ha : PA X (e :: es) t)
  (hst : starEach (e :: es) X.env = (false,eval e X.env) :: starEach es X.env:=by rfl) (hpl : (backTo pos (starEach es X.env)).any (·.1) = false:=by rfl)
  (ht : eval (.Call (.Attribute o m apos) (e :: es) [] pos) X.env = (do
   let ov ← eval o X.env
   standAt apos.atName
   let (f,first) ← holding [ov] (getMethod ov m pl)
   callWith pos f first (backTo pos (starEach (e :: es) X.env)) (backToKw pos (keywordEach [] X.env))):=by rfl) :
  PE X (.Call (.Attribute o m apos) (e :: es) [] pos) (JcR C m sp [] E0 to t):=by
 obtain ⟨f,fd,a,b,c,d⟩:=G
 exact Jbr (pl:=pl) ho b c a hr d .nil Jbo ha hst hpl ht
noncomputable def JeG (P : Program) (w : World) (K : PySem.W.Frag) (mg : Str → Option Value) (base : Heap) (n : Nat) (m : Str) (ta : TE) (t : TA) : TE:=fun σ H Q=>ta σ H fun x H1=>∃ a C dx fs k ps sp,x = .ref a ∧ H1 a = some (.ins C dx fs) ∧ fs.lookup m = none ∧
 MtG P w K mg base C m k ps sp ∧ k ≤ n ∧ t σ H1 fun vs H2=>sp (x :: vs) H2 Q E0
theorem J4j {P : Program} {w : World} {K : PySem.W.Frag} {mg : Str → Option Value} {base : Heap} {n : Nat} {pl : Sem Bool} (hr : Room n X.A) (ho : PE X o to) (ha : PA X (e :: es) t) (hP : X.prog = P) (hw : X.w = w) (hK : X.K = K) (hmg : X.mg = mg) (hbs : X.base = base)
  (hst : starEach (e :: es) X.env = (false,eval e X.env) :: starEach es X.env:=by rfl) (hpl : (backTo pos (starEach es X.env)).any (·.1) = false:=by rfl)
  (ht : eval (.Call (.Attribute o m apos) (e :: es) [] pos) X.env = (do
   let ov ← eval o X.env
   standAt apos.atName
   let (f,first) ← holding [ov] (getMethod ov m pl)
   callWith pos f first (backTo pos (starEach (e :: es) X.env)) (backToKw pos (keywordEach [] X.env))):=by rfl) :
  PE X (.Call (.Attribute o m apos) (e :: es) [] pos) (JeG P w K mg base n m to t):=by
 subst hP hw hK hmg hbs
 intro pins s σ H Q I h
 refine PySem.W.methodCall_KW (pl:=pl) (thn (ho pins s σ H _ I h) fun u s1 ⟨x,H1,I1,rx,a,C,dx,fs,k,ps,sp,ex,ea,l,G,hk,q⟩=>?_) ht
 have hr:=hr.mono hk
 obtain ⟨f,fd,F,c,hm,hb⟩:=G
 subst ex
 obtain rfl : u = Value.ref a:=rx
 refine J6H I1 ea c hm l ?_
 refine PySem.W.callWith_K (first:=[.ref a]) (h₀:=X.base) I.ok.mod.kin hm.kp (thn (ha pos pins s1 σ H1 _ I1 q) fun us s2 ⟨vs,H2,I2,r,q2⟩=>⟨I2.kIn,?_⟩) hst hpl
 exact JaM (us:=.ref a :: us) (vs:=.ref a :: vs) (E:=E0) F hr hb .nil Jbo I2 (.cons rfl r) (by rw [List.append_nil]; exact q2)
theorem Jep {n : Str} {T : String} (hm : X.mg n = none) (hv : bootBuiltins n = some (.type T)) (hg : Gl X n:=by rfl) (hn : n ≠ "__name__":=by decide) (hd : (n == ("__debug__" : Str)) = false:=by decide) : PE X (.Name n pos) (tC (.ty T)) :=
 JdQ hg hm hv rfl hn hd
end
section
variable {X : Cx} {K : PySem.W.Frag}
theorem JH (h : X.K = K) : IxR X (rIxL K):=h ▸ JdN
theorem J1v (h : X.K = K) : IxR X (rIxT K):=h ▸ JeM
theorem J9J (h : X.K = K) : SlR X (rSlL K):=h ▸ Je3
theorem JS (h : X.K = K) : J2n X (.builtin "len") (fun xs H Q=>∃ p ys,xs = [.ref p] ∧ (SqL K H p ys ∨ SqT K H p ys) ∧ Q (.int ys.length) H):=h ▸ J8u
theorem JaD (hc : X.calm = true) (h : X.K = K) : J2n X (.builtin "all") (fun xs H Q=>∃ (D : Addr) (bs : List Bool),xs = [.ref D] ∧ SqL K H D (bs.map V.bl) ∧ Q (.bl (bs.all id)) H):=h ▸ Jc8 hc
theorem Jat (hc : X.calm = true) (h : X.K = K) : J2n X (.builtin "any") (fun xs H Q=>∃ (D : Addr) (bs : List Bool),xs = [.ref D] ∧ SqL K H D (bs.map V.bl) ∧ Q (.bl (bs.any id)) H):=h ▸ JbK hc
theorem Jz {e : Expr} {f : Str} {ta : TE} {pos : Pos} (h : X.K = K) (he : PE X e ta) (hb : attributeBase e f X.env (eval e X.env) = eval e X.env) : PE X (.Attribute e f pos) (tFld K ta f):=h ▸ JeL he hb
theorem J6W {o e : Expr} {to : TE} {t : TA} {apos cpos : Pos} (h : X.K = K) (ho : PE X o to) (ha : PA X [e] t)
  (hbase : attributeBase o "join" X.env (eval o X.env) = eval o X.env:=by rfl)
  (hfew : ((backTo cpos (starEach [e] X.env)).all (fun x=>!x.1) && (backToKw cpos (keywordEach [] X.env)).all (fun x=>x.1.isSome)
   && decide ([e].length + ([] : List Keyword).length + (if ([] : List Keyword).isEmpty then 0 else 1) < 30)) = true:=by rfl)
  (hline : (apos.endLine == cpos.line) = true:=by rfl) (hs : starEach [e] X.env = (false,eval e X.env) :: starEach [] X.env:=by rfl) (hplain : (backTo cpos (starEach [] X.env)).any (·.1) = false:=by rfl) :
  PE X (.Call (.Attribute o "join" apos) [e] [] cpos) (tBM K "str" (Jd9 K) to t):=h ▸ JdL ho ha hbase hfew hline hs hplain
theorem J2o {tg l : Expr} {tl : TE} (h : X.K = K) (hl : PE X l tl) : PI X tg l (Jem K tl):=h ▸ JdT hl
theorem J5s {i j : Nat} {x y : Str} {px py pos : Pos} {k : Nat} (h : X.K = K) (hc : X.calm = true) (hN : X.N.Nodup) (hi : X.N[i]? = some x) (hj : X.N[j]? = some y) (hx : Loc X.env.scope x) (hy : Loc X.env.scope y)
  (hfx : X.fn x = true ∨ X.env.scope.names.lookup x = some .local:=by first | exact .inl rfl | exact .inr rfl | assumption) (hfy : X.fn y = true ∨ X.env.scope.names.lookup y = some .local:=by first | exact .inl rfl | exact .inr rfl | assumption) :
  PG X (.Tuple [.Name x px,.Name y py] k pos) (gTup K 2 (J9t (J3n i) (J9t (J3n j) gNil))):=h ▸ J33 hc (JY (JD hN hi hx hfx) (JY (JD hN hj hy hfy) J2l))
end
theorem J0q : bootBuiltins "list" = some (.type "list"):=by decide +kernel
theorem JeV : bootBuiltins "max" = some (.builtin "max"):=by decide +kernel
theorem Jfl : bootBuiltins "min" = some (.builtin "min"):=by decide +kernel
theorem JeT : bootBuiltins "all" = some (.builtin "all"):=by decide +kernel
theorem Jf7 : bootBuiltins "any" = some (.builtin "any"):=by decide +kernel
theorem J0z : bootBuiltins "isinstance" = some (.builtin "isinstance"):=by decide +kernel
theorem Jdq {J : It} {H : Hp} {xs : List V} {σ0 : St} {k : Nat} {te : TE} {Q : VK} (Pe : V → V → Prop) (hJ : J6U J H xs) (hx : xs.length ≤ 1000000)
  (he : ∀ x ∈ xs,∀ H',Same H H' → ∀ R : VK,(∀ y H'',Pe x y → Same H' H'' → R y H'') → te (σ0.set k (some x)) H' R)
  (hQ : ∀ D H' ys,H D = none → Same H H' → ys.length = xs.length → (∀ (i : Nat) (x y : V),xs[i]? = some x → ys[i]? = some y → Pe x y) → H' D = some (.lst ys) → Q (.ref D) H') :
  J4Q J H σ0 (J3n k) tYes te Q:=by
 intro D hD
 refine ⟨fun i m σ1 ys H'=>m = xs.length - i ∧ i ≤ xs.length ∧ (σ1 = σ0 ∨ ∃ v,σ1 = σ0.set k v) ∧ ys.length = i ∧ (∀ (j : Nat) (x y : V),xs[j]? = some x → ys[j]? = some y → Pe x y) ∧ H' D = some (.lst ys) ∧ Same H H',
  ⟨xs.length,by simp,Nat.zero_le _,.inl rfl,rfl,fun j x y _ h=>by simp at h,Jd,Jy hD _⟩,?_⟩
 rintro i m σ1 ys H' ⟨rfl,hi,hσ,hlen,hP,hDD,hs⟩
 by_cases hlt : i < xs.length
 ·refine .inr ⟨hJ.go i H' hs hlt,fun x H'' hy=>?_⟩
  obtain ⟨e1,hx1⟩:=hJ.yld i H' x H'' hs hlt hy
  subst e1
  have hm : x ∈ xs:=List.mem_of_getElem? hx1
  have hset : σ1.set k (some x) = σ0.set k (some x):=by
   rcases hσ with rfl | ⟨v,rfl⟩
   ·rfl
   ·rw [List.set_set]
  unfold J3n tYes
  dsimp only
  rw [hset]
  refine iteT ?_
  refine he x hm H'' hs _ fun y H4 hPy s4=>⟨s4 _ _ hDD,?_,xs.length - (i + 1),by omega,rfl,hlt,.inr ⟨_,rfl⟩,?_,?_,Jd,(hs.trans s4).upd hD⟩
  ·have : (1000001 : Nat) ≤ sizeLine:=by decide
   omega
  ·rw [List.length_append,List.length_singleton,hlen]
  ·intro j x' y' h1 h2
   by_cases hj : j < i
   ·rw [List.getElem?_append_left (by omega)] at h2
    exact hP j x' y' h1 h2
   ·have hji : j = i:=by
     have:=(List.getElem?_eq_some_iff.mp h2).1
     rw [List.length_append,List.length_singleton,hlen] at this
     omega
    subst hji
    rw [List.getElem?_append_right (by omega),hlen,Nat.sub_self] at h2
    rw [hx1] at h1
    cases h1
    have : y = y':=by simpa using h2
    subst this
    exact hPy
 ·have e : i = xs.length:=by omega
  subst e
  exact .inl ⟨hJ.stop H' hs,hQ D H' ys hD hs hlen hP hDD⟩
end L2
set_option linter.all false
set_option maxRecDepth 100000
set_option maxHeartbeats 4000000
namespace L2
open PySem PySem.Spec PyProof.Rows
theorem Vals.rel {xs : List V} {us : List Value} (r : Vals xs us) : ∀ (j : Nat) (h1 : j < xs.length) (h2 : j < us.length),RelV xs[j] us[j]:=by
 induction r with
 | nil=>intro j h1; simp at h1
 | cons a t ih =>
  intro j h1 h2
  cases j with
  | zero=>exact a
  | succ j=>exact ih j (by simpa using h1) (by simpa using h2)
noncomputable def eqVs : List V → List V → Bool
 | [],[]=>true
 | x :: xs,y :: ys=>eqV x y && eqVs xs ys
 | _,_=>false
theorem J4N : ∀ {xs ys : List V},xs.length ≠ ys.length → eqVs xs ys = false
 | [],[],h=>absurd rfl h
 | [],_ :: _,_=>rfl
 | _ :: _,[],_=>rfl
 | x :: xs,y :: ys,h=>by
  have : xs.length ≠ ys.length:=fun e=>h (by simp [e])
  rw [eqVs,J4N this,Bool.and_false]
theorem J3x : ∀ {xs ys : List V},xs.length = ys.length → (List.range xs.length).all (fun j=>eqV (xs.getD j .non) (ys.getD j .non)) = eqVs xs ys
 | [],[],_=>rfl
 | [],_ :: _,h=>by simp at h
 | _ :: _,[],h=>by simp at h
 | x :: xs,y :: ys,h=>by
  have h' : xs.length = ys.length:=by simpa using h
  rw [List.length_cons,List.range_succ_eq_map,List.all_cons,List.all_map,eqVs,← J3x h']
  rfl
section
variable {X : Cx} {K : PySem.W.Frag}
theorem J3p {A : Around} {s : Shared} {xs ys : List V} {ia ib : List Value} (ra : Vals xs ia) (rb : Vals ys ib) (fx : xs.all J09 = true) (fy : ys.all J09 = true) :
  ∀ j (h1 : j < ia.toArray.size) (h2 : j < ib.toArray.size),SeqAt.EqAt A s ia.toArray[j] ib.toArray[j] (eqV (xs.getD j .non) (ys.getD j .non)):=by
 intro j h1 h2
 have la:=ra.length
 have lb:=rb.length
 have g1 : j < ia.length:=by simpa using h1
 have g2 : j < ib.length:=by simpa using h2
 have e1 : xs.getD j .non = xs[j]'(by omega):=by rw [List.getD_eq_getElem?_getD,List.getElem?_eq_getElem (by omega)]; rfl
 have e2 : ys.getD j .non = ys[j]'(by omega):=by rw [List.getD_eq_getElem?_getD,List.getElem?_eq_getElem (by omega)]; rfl
 rw [e1,e2]
 have k1:=ra.rel j (by omega) g1
 have k2:=rb.rel j (by omega) g2
 have q:=Jdl (A:=A) (s:=s) k1 k2 (List.all_eq_true.mp fx _ (List.getElem_mem _)) (List.all_eq_true.mp fy _ (List.getElem_mem _))
 simpa using q
noncomputable def rEqL (K : PySem.W.Frag) (neg : Bool) : R2:=fun x y H Q=>∃ p r xs ys,x = .ref p ∧ y = .ref r ∧ SqL K H p xs ∧ SqL K H r ys ∧ xs.all J09 = true ∧ ys.all J09 = true ∧ Q (.bl (if neg then !eqVs xs ys else eqVs xs ys)) H
theorem Jfa (h : X.K = K) (hu : X.A.units < cLine) : OpR X (compareOp .Eq) (rEqL K false):=by
 subst h
 intro pins s σ H x y v u Q I rx ry h
 obtain ⟨p,r,xs,ys,rfl,rfl,hp,hr,fx,fy,q⟩:=h
 cases rx; cases ry
 obtain ⟨ia,ra,pa,za⟩:=I.list hp
 obtain ⟨ib,rb,pb,zb⟩:=I.list hr
 have la:=ra.length
 have lb:=rb.length
 by_cases hsz : xs.length = ys.length
 ·refine SeqAt.eq_listAt (e:=fun j=>eqV (xs.getD j .non) (ys.getD j .non)) pa.isList pb.isList (by simp; omega) hu (J3p ra rb fx fy) ⟨.bl _,H,I,rfl,?_⟩
  rw [List.size_toArray,← la,J3x hsz]
  exact q
 ·refine SeqAt.eq_list_lengthsAt pa.isList pb.isList (by simp; omega) hu ⟨.bl false,H,I,rfl,?_⟩
  have q' : Q (.bl (eqVs xs ys)) H:=q
  rw [J4N hsz] at q'
  exact q'
theorem Jdj (h : X.K = K) (hu : X.A.units < cLine) : OpR X (compareOp .NotEq) (rEqL K true):=by
 subst h
 intro pins s σ H x y v u Q I rx ry h
 obtain ⟨p,r,xs,ys,rfl,rfl,hp,hr,fx,fy,q⟩:=h
 cases rx; cases ry
 obtain ⟨ia,ra,pa,za⟩:=I.list hp
 obtain ⟨ib,rb,pb,zb⟩:=I.list hr
 have la:=ra.length
 have lb:=rb.length
 have q' : Q (.bl (!eqVs xs ys)) H:=q
 by_cases hsz : xs.length = ys.length
 ·refine SeqAt.RcNeAt.lists (e:=fun j=>eqV (xs.getD j .non) (ys.getD j .non)) pa.isList pb.isList (by simp; omega) hu (J3p ra rb fx fy) _ _ _ _ ⟨.bl _,H,I,rfl,?_⟩
  rw [List.size_toArray,← la,J3x hsz]
  exact q'
 ·refine SeqAt.RcNeAt.lists_lengths pa.isList pb.isList (by simp; omega) hu _ _ _ _ ⟨.bl true,H,I,rfl,?_⟩
  rw [J4N hsz] at q'
  exact q'
end
end L2
set_option linter.all false
set_option maxRecDepth 100000
set_option maxHeartbeats 4000000
namespace L2
open PySem PySem.Spec PyProof.Rows
section
variable {X : Cx} {K : PySem.W.Frag}
end
section
variable {prog : Program} {w : World} {A : Around} {E : Value → Shared → Prop} {s : Shared}
end
section
variable {X : Cx} {K : PySem.W.Frag} {pos : Pos}
end
end L2
set_option linter.all false
set_option maxRecDepth 100000
set_option maxHeartbeats 4000000
namespace L2
open PySem PySem.Spec PyProof.Rows
theorem J3T {h : Heap} {a b : Addr} {o p : Obj} (ha : h.get? a = some o) (hb : h.get? b = some p) (hc : o.cls ≠ p.cls) : a ≠ b:=by
 rintro rfl
 rw [ha] at hb
 cases hb
 exact hc rfl
theorem J5E {h : Heap} {z TI TO i1 i2 l1 l2 : Addr} {f0 a b : Value} {k1 k2 : Nat} {xs ys : Array Value} (F : J3R z TI TO i1 i2) (hz : IsZip h z TI TO f0) (hTI : IsPair h TI (.ref i1) (.ref i2)) (hTO : IsPair h TO a b)
  (h1 : h.IsListIter i1 l1 k1) (h2 : h.IsListIter i2 l2 k2) (hl1 : h.IsList l1 xs) (hl2 : h.IsList l2 ys) : ZipApart z TI TO i1 i2 l1 l2:=by
 obtain ⟨o1,e1,c1,_⟩:=h1
 obtain ⟨o2,e2,c2,_⟩:=h2
 obtain ⟨p1,q1,d1,_⟩:=hl1
 obtain ⟨p2,q2,d2,_⟩:=hl2
 have n1 : (Value.type "list") ≠ .type "zip":=by intro z; injection z with z; revert z; decide
 have n2 : (Value.type "list") ≠ .type "tuple":=by intro z; injection z with z; revert z; decide
 have n3 : (Value.type "list") ≠ .type "list_iterator":=by intro z; injection z with z; revert z; decide
 exact ⟨F.TIz,F.TOz,F.i1z,F.i2z,F.TITO,F.TIi1,F.TIi2,F.TOi1,F.TOi2,F.i12,
  J3T q1 hz (by rw [d1]; exact n1),J3T q1 hTO (by rw [d1]; exact n2),J3T q1 e1 (by rw [d1,c1]; exact n3),J3T q1 e2 (by rw [d1,c2]; exact n3),
  J3T q2 hz (by rw [d2]; exact n1),J3T q2 hTO (by rw [d2]; exact n2),J3T q2 e1 (by rw [d2,c1]; exact n3),J3T q2 e2 (by rw [d2,c2]; exact n3)⟩
noncomputable def Izl (K : PySem.W.Frag) (a b : Addr) : It :=
  ⟨fun i H=>∃ xs ys x y,SqL K H a xs ∧ SqL K H b ys ∧ xs[i]? = some x ∧ ys[i]? = some y,
   fun i H v H'=>∃ p x y,H p = none ∧ (∀ xs,SqL K H a xs → xs[i]? = some x) ∧ (∀ ys,SqL K H b ys → ys[i]? = some y) ∧ v = .ref p ∧ H' = upd H p (.tup [x,y]),
   fun i H=>∃ xs ys,SqL K H a xs ∧ SqL K H b ys ∧ (xs.length ≤ i ∨ ys.length ≤ i)⟩
theorem Jc3 {P : Program} {w : World} {K : PySem.W.Frag} {es : List Expr} {k : Nat} {pos : Pos} {z TI TO i1 i2 l1 l2 : Addr} (F : J3R z TI TO i1 i2) :
  Turn P w K (.Tuple es k pos) (Izl K l1 l2) [z,TI,TO,i1,i2] z (fun i h=>IsZip h z TI TO .none ∧ IsPair h TI (.ref i1) (.ref i2) ∧ (∃ a b,IsPair h TO a b) ∧ h.IsListIter i1 l1 i ∧ h.IsListIter i2 l2 i) where
 mem:=by simp
 obj:=fun i h st b hb=>by
  obtain ⟨hz,hTI,⟨a,b',hTO⟩,⟨o1,e1,c1,d1⟩,o2,e2,c2,d2⟩:=st
  simp only [List.mem_cons,List.not_mem_nil,or_false] at hb
  rcases hb with rfl | rfl | rfl | rfl | rfl
  ·exact ⟨_,hz,fun v q=>by cases q⟩
  ·exact ⟨_,hTI,fun v q=>by cases q⟩
  ·exact ⟨_,hTO,fun v q=>by cases q⟩
  ·exact ⟨o1,e1,fun v q=>by rw [d1] at q; cases q⟩
  ·exact ⟨o2,e2,fun v q=>by rw [d2] at q; cases q⟩
 keep:=fun i h h' st kk=>by
  obtain ⟨hz,hTI,⟨a,b',hTO⟩,⟨o1,e1,r1⟩,o2,e2,r2⟩:=st
  exact ⟨kk z (by simp) _ hz,kk TI (by simp) _ hTI,⟨a,b',kk TO (by simp) _ hTO⟩,⟨o1,kk i1 (by simp) _ e1,r1⟩,o2,kk i2 (by simp) _ e2,r2⟩
 item:=by
  intro X hP hw hK hc i pins s σ H E I hf st hg
  subst hP hw hK
  obtain ⟨hz,hTI,⟨a,b,hTO⟩,h1,h2⟩:=st
  obtain ⟨xs,ys,x,y,hq1,hq2,hx,hy⟩:=hg
  obtain ⟨ia,ra,pa,_⟩:=I.list hq1
  obtain ⟨ib,rb,pb,_⟩:=I.list hq2
  obtain ⟨u,hu,ru⟩:=ra.get hx
  obtain ⟨v,hv,rv⟩:=rb.get hy
  have D:=J5E F hz hTI hTO h1 h2 pa.isList pb.isList
  obtain ⟨tk,htk⟩ : ∃ tk,tk = s.toks:=⟨_,rfl⟩
  refine wpAny_pyNext_zip_item D hz hTI hTO h1 h2 pa.isList pb.isList (x:=u) (y:=v) (by simpa using hu) (by simpa using hv) fun h' a1 a2 a3 a4 a5 a6 kp=>?_
  refine ⟨_,rfl,?_⟩
  refine wpAny_letOwnedTupleGo_zip (s:={ s with heap:=h',toks:=s.toks }) a1 fun h2' hz' hs'=>?_
  replace hs' : Heap.SameBut z h' h2':=hs'
  have zlt : z < s.heap.objs.size:=Heap.lt_size hz
  have far : ∀ q ∈ [z,TI,TO,i1,i2],q < s.heap.objs.size:=by
   intro q hq
   obtain ⟨o1,e1,_⟩:=h1
   obtain ⟨o2,e2,_⟩:=h2
   simp only [List.mem_cons,List.not_mem_nil,or_false] at hq
   rcases hq with rfl | rfl | rfl | rfl | rfl
   ·exact zlt
   ·exact Heap.lt_size hTI
   ·exact Heap.lt_size hTO
   ·exact Heap.lt_size e1
   ·exact Heap.lt_size e2
  have fz:=hf z (by simp)
  have fTO:=hf TO (by simp)
  have f1:=hf i1 (by simp)
  have f2:=hf i2 (by simp)
  have I1 : Inv X pins σ H { s with heap:=s.heap.push { cls:=.type "tuple",data:=.seq #[u,v] },toks:=s.toks }:=I.kept fun b o e=>Heap.get?_push_of_some _ e
  have keepAll : ∀ b o,b ≠ z → b ≠ TO → b ≠ i1 → b ≠ i2 → s.heap.get? b = some o → h2'.get? b = some o:=fun b o b1 b2 b3 b4 e=>hs'.extBut _ _ b1 (kp b o b1 b2 b3 b4 e)
  have hnew : H s.heap.objs.size = none:=I.hok.fresh (Nat.le_refl _)
  have Tz : s.heap.objs.size ≠ z:=Nat.ne_of_gt zlt
  have ht2 : h2'.get? s.heap.objs.size = some { cls:=.type "tuple",data:=.seq #[u,v] }:=hs'.extBut _ _ Tz a5
  have I2 : Inv X pins σ (upd H s.heap.objs.size (.tup [x,y])) { s with heap:=h2',toks:=s.toks }:=by
   have there : ∀ q ∈ [z,TO,i1,i2],∃ o',h2'.get? q = some o':=by
    intro q hq
    obtain ⟨o1,e1,_⟩:=a3
    obtain ⟨o2,e2,_⟩:=a4
    simp only [List.mem_cons,List.not_mem_nil,or_false] at hq
    rcases hq with rfl | rfl | rfl | rfl
    ·exact ⟨_,hz'⟩
    ·exact ⟨_,hs'.extBut _ _ F.TOz a2⟩
    ·exact ⟨_,hs'.extBut _ _ F.i1z e1⟩
    ·exact ⟨_,hs'.extBut _ _ F.i2z e2⟩
   have nch : ∀ b,b ∉ [z,TO,i1,i2] → b ≠ z ∧ b ≠ TO ∧ b ≠ i1 ∧ b ≠ i2:=fun b hb=>by
    simp only [List.mem_cons,List.not_mem_nil,or_false,not_or] at hb
    exact hb
   have trk : ∀ b u',H b = some u' → b ≠ z ∧ b ≠ TO ∧ b ≠ i1 ∧ b ≠ i2:=fun b u' e =>
    ⟨fun q=>(by rw [q,fz.1] at e; cases e),fun q=>(by rw [q,fTO.1] at e; cases e),fun q=>(by rw [q,f1.1] at e; cases e),fun q=>(by rw [q,f2.1] at e; cases e)⟩
   have okH : HOk X.prog X.w (upd H s.heap.objs.size (.tup [x,y])) h2':=fun b u' e=>by
    by_cases hb : b = s.heap.objs.size
    ·subst hb
     rw [Jd] at e
     cases e
     exact ⟨(show 2 ≤ sizeLine by decide),[u,v],.cons ru (.cons rv .nil),⟨_,ht2,rfl,_,rfl⟩⟩
    ·rw [Jn hb] at e
     have hx:=I.hok b u' e
     refine hx.stay (fun q o hq e2=>?_) (fun q e2=>?_) (fun q xs e2=>?_)
     ·rcases hq with rfl | hq
      ·obtain ⟨b1,b2,b3,b4⟩:=trk q _ e
       exact keepAll q o b1 b2 b3 b4 e2
      ·obtain ⟨b1,b2,b3,b4⟩:=trk q _ hq
       exact keepAll q o b1 b2 b3 b4 e2
     ·rw [Jn (Jj e2 hnew)]; exact e2
     ·rw [Jn (Jj e2 hnew)]; exact e2
   refine I.step (g':=s.gens) (d':=s.drawn) (ch:=[z,TO,i1,i2]) (fun b hb=>?_) (fun b o _ _ hcb e n=>?_) (fun b o _ _ hcb e n=>?_) (fun b o hcb e n=>?_) (fun b o hcb e=>?_) (fun b xs e=>?_) (fun b o u' e=>?_) (fun b ps e=>?_) (fun m hm=>?_) okH I.bare
   ·simp only [List.mem_cons,List.not_mem_nil,or_false] at hb
    rcases hb with rfl | rfl | rfl | rfl
    ·exact ⟨fz.2.2.2.1,fz.2.1,fz.2.2.2.2.1,fz.2.2.2.2.2⟩
    ·exact ⟨fTO.2.2.2.1,fTO.2.1,fTO.2.2.2.2.1,fTO.2.2.2.2.2⟩
    ·exact ⟨f1.2.2.2.1,f1.2.1,f1.2.2.2.2.1,f1.2.2.2.2.2⟩
    ·exact ⟨f2.2.2.2.1,f2.2.1,f2.2.2.2.2.1,f2.2.2.2.2.2⟩
   ·obtain ⟨b1,b2,b3,b4⟩:=nch b hcb
    exact keepAll b o b1 b2 b3 b4 e
   ·obtain ⟨b1,b2,b3,b4⟩:=nch b hcb
    exact ⟨o.slots,keepAll b o b1 b2 b3 b4 e⟩
   ·rw [Jn (Nat.ne_of_lt (Heap.lt_size e))]; exact n
   ·obtain ⟨b1,b2,b3,b4⟩:=nch b hcb
    exact ⟨o,keepAll b o b1 b2 b3 b4 e⟩
   ·rw [Jn (Jj e hnew)]; exact e
   ·rw [Jn (Jj e hnew)]; exact e
   ·exact ⟨#[],by rw [Jn (Jj e hnew),e]; simp⟩
   ·obtain ⟨o,es',ep,ho,r⟩:=hm
    exact ⟨o,es',ep,keepAll _ o fz.2.1.symm fTO.2.1.symm f1.2.1.symm f2.2.1.symm ho,r⟩
  refine ⟨.ref s.heap.objs.size,_,I2,rfl,⟨_,x,y,hnew,fun zs hz=>by rw [I.list_inj hz hq1]; exact hx,fun zs hz=>by rw [I.list_inj hz hq2]; exact hy,rfl,rfl⟩,⟨hz',hs'.extBut _ _ F.TIz (kp _ _ F.TIz F.TITO F.TIi1 F.TIi2 hTI),⟨_,_,hs'.extBut _ _ F.TOz a2⟩,?_,?_⟩,fun b hb=>?_⟩
  ·obtain ⟨o,e,r⟩:=a3; exact ⟨o,hs'.extBut _ _ F.i1z e,r⟩
  ·obtain ⟨o,e,r⟩:=a4; exact ⟨o,hs'.extBut _ _ F.i2z e,r⟩
  ·rw [Jn (Nat.ne_of_lt (far b hb))]; exact (hf b hb).1
 done:=by
  intro X hP hw hK hc i pins s σ H E I hf st hg
  subst hP hw hK
  obtain ⟨hz,hTI,⟨a,b,hTO⟩,h1,h2⟩:=st
  obtain ⟨xs,ys,hq1,hq2,hg⟩:=hg
  obtain ⟨ia,ra,pa,_⟩:=I.list hq1
  obtain ⟨ib,rb,pb,_⟩:=I.list hq2
  have la:=ra.length
  have lb:=rb.length
  have D:=J5E F hz hTI hTO h1 h2 pa.isList pb.isList
  refine wpAny_pyNext_zip_end (I.ok.hd hc) D hz hTI hTO h1 h2 pa.isList pb.isList (by rcases hg with q | q; exact .inl (by simp; omega); exact .inr (by simp; omega)) fun h' kp=>⟨rfl,?_⟩
  refine I.turnedN (t':=s.toks) (ch:=[z,TO,i1,i2]) (fun b o hb q=>?_) fun b hb=>hf b ?_
  ·simp only [List.mem_cons,List.not_mem_nil,or_false,not_or] at hb
   exact kp b o hb.1 hb.2.1 hb.2.2.1 hb.2.2.2 q
  ·simp only [List.mem_cons,List.not_mem_nil,or_false] at hb ⊢
   rcases hb with q | q | q | q
   ·exact .inl q
   ·exact .inr (.inr (.inl q))
   ·exact .inr (.inr (.inr (.inl q)))
   ·exact .inr (.inr (.inr (.inr q)))
 self:=fun _ _ _ _ _ st h=>wpAny_pyIter_zip st.1 h
section
variable {X : Cx} {es : List Expr} {k : Nat} {tpos : Pos}
noncomputable def Jei (K : PySem.W.Frag) (ta : TA) : TI:=fun σ H R=>ta σ H fun vs H1=>∃ a b,vs = [.ref a,.ref b] ∧ (∃ xs,SqL K H1 a xs) ∧ (∃ ys,SqL K H1 b ys) ∧ R (Izl K a b) H1
theorem JdJ {a b : Expr} {ta : TA} {p pos : Pos} (hg : Gl X "zip") (hm : X.mg "zip" = none) (ha : PA X [a,b] ta) (hv : bootBuiltins "zip" = some (.type "zip"):=by decide +kernel) (hs : starEach [a,b] X.env = [(false,eval a X.env),(false,eval b X.env)]:=by rfl) (hs2 : starEach [b] X.env = [(false,eval b X.env)]:=by rfl) :
  PI X (.Tuple es k tpos) (.Call (.Name "zip" p) [a,b] [] pos) (Jei X.K ta):=by
 intro pins s σ H R I h
 refine Call_ (J4p I hg hm hv (PyProof.Rows.callWith_type1 (thn (ha pos pins s σ H _ I h) fun us s1 ⟨vs,H1,I1,r1,q1⟩=>?_) (by rw [hs,hs2]) (by rw [hs2]; rfl)))
 obtain ⟨l1,l2,e,⟨xs,hq1⟩,⟨ys,hq2⟩,q⟩:=q1
 subst e
 obtain ⟨u,v,rfl,ru,rv⟩:=r1.two
 cases ru; cases rv
 obtain ⟨ia,ra,pa,_⟩:=I1.list hq1
 obtain ⟨ib,rb,pb,_⟩:=I1.list hq2
 refine call_zip_2 pa.isList pb.isList fun h' a1 a2 a3 a4 a5 a6 kp=>?_
 have far : J3R (s1.heap.objs.size + 4) (s1.heap.objs.size + 2) (s1.heap.objs.size + 3) s1.heap.objs.size (s1.heap.objs.size + 1):=J6O _
 have I2 : Inv X pins σ H1 { s1 with heap:=h' }:=I1.kept (t':=s1.toks) kp
 refine wpAny_pyIter_zip a1 ⟨s1.heap.objs.size + 4,[s1.heap.objs.size + 4,s1.heap.objs.size + 2,s1.heap.objs.size + 3,s1.heap.objs.size,s1.heap.objs.size + 1],_,_,H1,rfl,I2,Jc3 far,⟨a1,a2,⟨_,_,a3⟩,a4,a5⟩,fun b hb=>?_,q⟩
 have hb' : s1.heap.objs.size ≤ b:=by
  simp only [List.mem_cons,List.not_mem_nil,or_false] at hb
  rcases hb with rfl | rfl | rfl | rfl | rfl
  ·exact Nat.le_add_right _ _
  ·exact Nat.le_add_right _ _
  ·exact Nat.le_add_right _ _
  ·exact Nat.le_refl _
  ·exact Nat.le_add_right _ _
 exact I1.fpOk hb' (I1.hok.fresh hb')
end
theorem J9z {X : Cx} {es : List Expr} {k : Nat} {tpos : Pos} {K : PySem.W.Frag} {a b : Expr} {ta : TA} {p pos : Pos} (h : X.K = K) (hg : Gl X "zip") (hm : X.mg "zip" = none) (ha : PA X [a,b] ta) (hv : bootBuiltins "zip" = some (.type "zip"):=by decide +kernel) (hs : starEach [a,b] X.env = [(false,eval a X.env),(false,eval b X.env)]:=by rfl) (hs2 : starEach [b] X.env = [(false,eval b X.env)]:=by rfl) :
  PI X (.Tuple es k tpos) (.Call (.Name "zip" p) [a,b] [] pos) (Jei K ta):=h ▸ JdJ hg hm ha hv hs hs2
theorem Jd6 {K : PySem.W.Frag} {a b : Addr} {xs ys : List V} {g : TG} {tb : TS} {D : Ends} {σ : St} {H : Hp} (Pv : Nat → St → Hp → Prop) (h0 : Pv 0 σ H) (hl : ∀ i σ H,i ≤ xs.length → i ≤ ys.length → Pv i σ H → SqL K H a xs ∧ SqL K H b ys)
  (hs : ∀ i x y p σ H,xs[i]? = some x → ys[i]? = some y → H p = none → Pv i σ H → g (.ref p) σ (upd H p (.tup [x,y])) fun σ2 H2=>tb { D with nx:=Pv (i + 1),ct:=Pv (i + 1),bk:=D.nx } σ2 H2) (hd : ∀ i σ H,i = xs.length ∨ i = ys.length → Pv i σ H → D.nx σ H) :
  ∃ W : Nat → Nat → St → Hp → Prop,(∃ m,W 0 m σ H) ∧ ∀ i m σ H,W i m σ H →
   ((Izl K a b).stop i H ∧ D.nx σ H) ∨ ((Izl K a b).go i H ∧ ∃ N : St → Hp → Prop,(∀ σ' H',N σ' H' → ∃ m',m' < m ∧ W (i + 1) m' σ' H') ∧ ∀ x H',(Izl K a b).yld i H x H' → g x σ H' fun σ2 H2=>tb { D with nx:=N,ct:=N,bk:=D.nx } σ2 H2):=by
 refine ⟨fun i m σ H=>m = xs.length - i ∧ i ≤ xs.length ∧ i ≤ ys.length ∧ Pv i σ H,⟨xs.length,by simp,Nat.zero_le _,Nat.zero_le _,h0⟩,?_⟩
 rintro i m σ H ⟨rfl,hi,hj,p⟩
 obtain ⟨q1,q2⟩:=hl i σ H hi hj p
 by_cases hlt : i < xs.length ∧ i < ys.length
 ·refine .inr ⟨⟨xs,ys,xs[i],ys[i],q1,q2,by simp [hlt.1],by simp [hlt.2]⟩,Pv (i + 1),fun σ' H' p'=>⟨xs.length - (i + 1),by omega,rfl,hlt.1,hlt.2,p'⟩,fun x H' y=>?_⟩
  obtain ⟨r,u,v,hr,e1,e2,rfl,rfl⟩:=y
  exact hs i u v r σ H (e1 xs q1) (e2 ys q2) hr p
 ·have e : i = xs.length ∨ i = ys.length:=by omega
  exact .inl ⟨⟨xs,ys,q1,q2,by omega⟩,hd i σ H e p⟩
end L2
set_option linter.all false
set_option maxRecDepth 100000
set_option maxHeartbeats 4000000
namespace L2
open PySem PySem.Spec PyProof.Rows
section
variable {X : Cx} {elt tg iter : Expr} {ifs : List Expr} {scope : Scope} {pos : Pos} {N : List Str} {js : List (Option Nat)} {wi : TI} {g : TG} {tc : TT} {te : TE}
end
end L2
set_option linter.all false
namespace L2
open PySem PySem.StrLaws Builtin Builtin.Str
end L2
set_option linter.all false
set_option maxRecDepth 100000
set_option maxHeartbeats 4000000
namespace L2
open PySem PySem.Spec PyProof.Rows
section
variable {X : Cx} {e : Expr} {es : List Expr} {te : TE} {tr : TF} {pos : Pos}
end
end L2
set_option linter.all false
set_option maxRecDepth 100000
set_option maxHeartbeats 4000000
namespace L2
open PySem PySem.Spec PyProof.Rows
section
variable {X : Cx} {x m : Str} {k : Nat} {ps : List Str} {sp : Sp} {C : Addr} {p pos apos : Pos} {e o : Expr} {es : List Expr} {t : TA} {to : TE}
theorem J27 {r : List V → Hp → VK → Prop} (G : MkG X.prog X.w X.K X.mg X.base C x k ps sp) (hr : Room (k + 1) X.A)
  (imp : ∀ vs H Q,r vs H Q → ∀ x dx,H x = none → H dx = none → dx ≠ x → sp (.ref x :: (vs ++ [])) (upd (upd H dx (.own x)) x (.ins C dx [])) (fun v H2=>v = .non ∧ Q (.ref x) H2) E0)
  (ha : PA X (e :: es) t) (hg : Gl X x:=by rfl) (hdb : (x == ("__debug__" : Str)) = false:=by decide)
  (he : starEach (e :: es) X.env = (false,eval e X.env) :: starEach es X.env:=by rfl) (hpl : (backTo pos (starEach es X.env)).any (·.1) = false:=by rfl) : PE X (.Call (.Name x p) (e :: es) [] pos) (tCB r t):=by
 obtain ⟨f,fd,a,M,hm,hb⟩:=G
 intro pins s σ H Q I h
 refine wpAny_Call_Name_kw (J3C I hg hm ?_ hdb)
 refine PySem.W.callWith_K (h₀:=X.base) I.ok.mod.kin M.kp (thn (ha pos pins s σ H _ I h) fun us s1 ⟨vs,H1,I1,rv,q⟩=>⟨I1.kIn,?_⟩) he hpl
 exact JcO M a hr hb .nil Jbo I1 rv (imp vs H1 Q q)
end
end L2
set_option linter.all false
set_option maxRecDepth 100000
set_option maxHeartbeats 4000000
namespace L2
open PySem PySem.Spec PyProof.Rows
noncomputable def All2 {α : Type} (P : α → V → Hp → Prop) (H : Hp) : List α → List V → Prop
 | [],[]=>True
 | a :: as,y :: ys=>P a y H ∧ All2 P H as ys
 | _,_=>False
section
variable {α : Type} {P : α → V → Hp → Prop} {H H' : Hp}
theorem All2.len : ∀ {as : List α} {ys : List V},All2 P H as ys → ys.length = as.length
 | [],[],_=>rfl
 | _ :: _,_ :: _,h=>by rw [List.length_cons,List.length_cons,All2.len h.2]
 | [],_ :: _,h=>h.elim
 | _ :: _,[],h=>h.elim
theorem All2.snoc : ∀ {as : List α} {ys : List V} {a : α} {y : V},All2 P H as ys → P a y H → All2 P H (as ++ [a]) (ys ++ [y])
 | [],[],_,_,_,p=>⟨p,trivial⟩
 | _ :: _,_ :: _,_,_,h,p=>⟨h.1,All2.snoc h.2 p⟩
 | [],_ :: _,_,_,h,_=>h.elim
 | _ :: _,[],_,_,h,_=>h.elim
theorem All2.imp {P' : α → V → Hp → Prop} : ∀ {as : List α} {ys : List V},All2 P H as ys → (∀ a y,P a y H → P' a y H') → All2 P' H' as ys
 | [],[],_,_=>trivial
 | _ :: _,_ :: _,h,f=>⟨f _ _ h.1,All2.imp h.2 f⟩
 | [],_ :: _,h,_=>h.elim
 | _ :: _,[],h,_=>h.elim
theorem All2.get : ∀ {as : List α} {ys : List V} {i : Nat} {a : α},All2 P H as ys → as[i]? = some a → ∃ y,ys[i]? = some y ∧ P a y H
 | [],[],_,_,_,e=>by simp at e
 | b :: _,y :: _,0,a,h,e=>⟨y,rfl,by rw [← (Option.some.inj e : b = a)]; exact h.1⟩
 | _ :: as,_ :: ys,i + 1,a,h,e=>All2.get (as:=as) (ys:=ys) (i:=i) h.2 (by simpa using e)
 | [],_ :: _,_,_,h,_=>h.elim
 | _ :: _,[],_,_,h,_=>h.elim
theorem All2.back : ∀ {as : List α} {ys : List V} {i : Nat} {y : V},All2 P H as ys → ys[i]? = some y → ∃ a,as[i]? = some a ∧ P a y H
 | [],[],_,_,_,e=>by simp at e
 | b :: _,z :: _,0,y,h,e=>⟨b,rfl,by rw [← (Option.some.inj e : z = y)]; exact h.1⟩
 | _ :: as,_ :: ys,i + 1,y,h,e=>All2.back (as:=as) (ys:=ys) (i:=i) h.2 (by simpa using e)
 | [],_ :: _,_,_,h,_=>h.elim
 | _ :: _,[],_,_,h,_=>h.elim
end
noncomputable def J01 (Ha Hb : Hp) : Prop:=∀ a ob,Ha a = some ob → (∀ zs,ob ≠ .lst zs) → Hb a = some ob
theorem Same.keeps {Ha Hb : Hp} (h : Same Ha Hb) : J01 Ha Hb:=fun a ob e _=>h a ob e
theorem J01.trans {Ha Hb Hc : Hp} (h : J01 Ha Hb) (h' : J01 Hb Hc) : J01 Ha Hc:=fun a ob e n=>h' a ob (h a ob e n) n
theorem J0a {Ha : Hp} {D : Addr} {zs ys : List V} (h : Ha D = some (.lst zs)) : J01 Ha (upd Ha D (.lst ys)):=fun a ob e hn=>by
 by_cases c : a = D
 ·subst c; rw [h] at e; cases e; exact absurd rfl (hn zs)
 ·rw [Jn c]; exact e
theorem J6S {α : Type} {J : It} {H : Hp} {σ0 : St} {g : TG} {tc : TT} {te : TE} {Q : VK} (xs : List α) (p : α → Bool) (P : α → V → Hp → Prop) (sh : St → Prop) (hx : xs.length ≤ 1000000) (h0 : sh σ0)
  (hgo : ∀ i H',Same H H' → i < xs.length → J.go i H') (hstop : ∀ H',Same H H' → J.stop xs.length H')
  (hk : ∀ a y Ha Hb,J01 Ha Hb → P a y Ha → P a y Hb)
  (step : ∀ (i : Nat) a σ x H' H'',xs[i]? = some a → sh σ → Same H H' → J.yld i H' x H'' → ∀ (Rf : St → Hp → Prop) (Rt : St → V → Hp → Prop),
   (∀ σ2 H3,p a = false → sh σ2 → Same H' H3 → Rf σ2 H3) → (∀ σ2 y H4,p a = true → sh σ2 → Same H' H4 → P a y H4 → Rt σ2 y H4) →
   g x σ H'' fun σ2 H2=>tc σ2 H2 fun b H3=>if b = true then te σ2 H3 (fun y H4=>Rt σ2 y H4) else Rf σ2 H3)
  (hQ : ∀ D H' ys,H D = none → Same H H' → All2 P H' (xs.filter p) ys → H' D = some (.lst ys) → Q (.ref D) H') : J4Q J H σ0 g tc te Q:=by
 intro D hD
 refine ⟨fun i m σ1 ys H'=>m = xs.length - i ∧ i ≤ xs.length ∧ sh σ1 ∧ All2 P H' ((xs.take i).filter p) ys ∧ H' D = some (.lst ys) ∧ Same H H',⟨xs.length,by simp,Nat.zero_le _,h0,trivial,Jd,Jy hD _⟩,?_⟩
 rintro i m σ1 ys H' ⟨rfl,hi,hσ,hP,hDD,hs⟩
 by_cases hlt : i < xs.length
 ·refine .inr ⟨hgo i H' hs hlt,fun x H'' hy=>?_⟩
  have ha : xs[i]? = some xs[i]:=List.getElem?_eq_getElem hlt
  have ht : xs.take (i + 1) = xs.take i ++ [xs[i]]:=by rw [List.take_add_one,ha]; rfl
  refine step i xs[i] σ1 x H' H'' ha hσ hs hy _ _ (fun σ2 H3 hf sh2 s3=>?_) (fun σ2 y H4 hf sh2 s4 py=>?_)
  ·refine ⟨xs.length - (i + 1),by omega,rfl,hlt,sh2,?_,s3 _ _ hDD,hs.trans s3⟩
   rw [ht,List.filter_append,List.filter_cons,hf]
   show All2 P H3 (List.filter p (xs.take i) ++ []) ys
   rw [List.append_nil]
   exact hP.imp fun a y=>hk a y _ _ s3.keeps
  ·have hl:=hP.len
   refine ⟨s4 _ _ hDD,?_,xs.length - (i + 1),by omega,rfl,hlt,sh2,?_,Jd,(hs.trans s4).upd hD⟩
   ·have h1:=List.length_filter_le p (xs.take i)
    rw [List.length_take] at h1
    have : (1000001 : Nat) ≤ sizeLine:=by decide
    omega
   ·rw [ht,List.filter_append,List.filter_cons,hf]
    have kk : J01 H4 (upd H4 D (.lst (ys ++ [y]))):=J0a (s4 _ _ hDD)
    exact All2.snoc (hP.imp fun a y=>hk a y _ _ (s4.keeps.trans kk)) (hk _ _ _ _ kk py)
 ·have e : i = xs.length:=by omega
  subst e
  refine .inl ⟨hstop H' hs,hQ D H' ys hD hs ?_ hDD⟩
  rw [List.take_of_length_le (Nat.le_refl _)] at hP
  exact hP
theorem J31 {α : Type} {J : It} {H : Hp} {σ0 : St} {g : TG} {tc : TT} {te : TE} {Q : VK} {vs : List V} (xs : List α) (p : α → Bool) (P : α → V → Hp → Prop) (sh : St → Prop) (hJ : J6U J H vs) (hv : vs.length = xs.length) (hx : xs.length ≤ 1000000) (h0 : sh σ0)
  (hk : ∀ a y Ha Hb,J01 Ha Hb → P a y Ha → P a y Hb)
  (step : ∀ (i : Nat) a v σ H',xs[i]? = some a → vs[i]? = some v → sh σ → Same H H' → ∀ (Rf : St → Hp → Prop) (Rt : St → V → Hp → Prop),
   (∀ σ2 H3,p a = false → sh σ2 → Same H' H3 → Rf σ2 H3) → (∀ σ2 y H4,p a = true → sh σ2 → Same H' H4 → P a y H4 → Rt σ2 y H4) →
   g v σ H' fun σ2 H2=>tc σ2 H2 fun b H3=>if b = true then te σ2 H3 (fun y H4=>Rt σ2 y H4) else Rf σ2 H3)
  (hQ : ∀ D H' ys,H D = none → Same H H' → All2 P H' (xs.filter p) ys → H' D = some (.lst ys) → Q (.ref D) H') : J4Q J H σ0 g tc te Q:=by
 refine J6S xs p P sh hx h0 (fun i H' s hi=>hJ.go i H' s (by omega)) (fun H' s=>by rw [← hv]; exact hJ.stop H' s) hk (fun i a σ x H' H'' ha hσ s hy=>?_) hQ
 have hi : i < xs.length:=(List.getElem?_eq_some_iff.mp ha).1
 obtain ⟨e,hx⟩:=hJ.yld i H' x H'' s (by omega) hy
 subst e
 exact step i a x σ H'' ha hx hσ s
theorem JaE {α : Type} {K : PySem.W.Frag} {l1 l2 : Addr} {H : Hp} {σ0 : St} {g : TG} {tc : TT} {te : TE} {Q : VK} {us vs : List V} (xs : List α) (p : α → Bool) (P : α → V → Hp → Prop) (sh : St → Prop) (hu : SqL K H l1 us) (hv : SqL K H l2 vs) (lu : us.length = xs.length) (lv : vs.length = xs.length) (hx : xs.length ≤ 1000000) (h0 : sh σ0)
  (hk : ∀ a y Ha Hb,J01 Ha Hb → P a y Ha → P a y Hb)
  (step : ∀ (i : Nat) a u v q σ H',xs[i]? = some a → us[i]? = some u → vs[i]? = some v → sh σ → Same H H' → H' q = none → ∀ (Rf : St → Hp → Prop) (Rt : St → V → Hp → Prop),
   (∀ σ2 H3,p a = false → sh σ2 → Same H' H3 → Rf σ2 H3) → (∀ σ2 y H4,p a = true → sh σ2 → Same H' H4 → P a y H4 → Rt σ2 y H4) →
   g (.ref q) σ (upd H' q (.tup [u,v])) fun σ2 H2=>tc σ2 H2 fun b H3=>if b = true then te σ2 H3 (fun y H4=>Rt σ2 y H4) else Rf σ2 H3)
  (hQ : ∀ D H' ys,H D = none → Same H H' → All2 P H' (xs.filter p) ys → H' D = some (.lst ys) → Q (.ref D) H') : J4Q (Izl K l1 l2) H σ0 g tc te Q:=by
 refine J6S xs p P sh hx h0 (fun i H' s hi=>⟨us,vs,us[i],vs[i],s.seq hu,s.seq hv,by simp [lu,hi],by simp [lv,hi]⟩) (fun H' s=>⟨us,vs,s.seq hu,s.seq hv,.inl (by omega)⟩) hk (fun i a σ x H' H'' ha hσ s hy=>?_) hQ
 obtain ⟨q,u,v,hq,e1,e2,rfl,rfl⟩:=hy
 exact step i a u v q σ H' ha (e1 us (s.seq hu)) (e2 vs (s.seq hv)) hσ s hq
section
variable {X : Cx} {K : PySem.W.Frag}
theorem Je9 {es : List Expr} {k : Nat} {t : TGs} {n : Nat} {pos : Pos} (hK : X.K = K) (hc : X.calm = true) (h : PGs X es t)
  (hn : (assignEach es X.env).length = n:=by rfl) (hst : (assignEach es X.env).findIdx? (·.1) = none:=by rfl) : PG X (.Tuple es k pos) (gTup K n t):=hK ▸ J33 hc h hn hst
end
end L2
set_option linter.all false
set_option maxRecDepth 100000
set_option maxHeartbeats 4000000
namespace L2
open PySem PySem.Spec PyProof.Rows
noncomputable def Iel (K : PySem.W.Frag) (l : Addr) : It :=
  ⟨fun i H=>∃ xs x,SqL K H l xs ∧ xs[i]? = some x,
   fun i H v H'=>∃ p x,H p = none ∧ (∀ xs,SqL K H l xs → xs[i]? = some x) ∧ v = .ref p ∧ H' = upd H p (.tup [.int i,x]),
   fun i H=>∃ xs,SqL K H l xs ∧ xs.length ≤ i⟩
theorem Jay {P : Program} {w : World} {K : PySem.W.Frag} {es : List Expr} {k : Nat} {pos : Pos} {z it l : Addr} (zi : z ≠ it) :
  Turn P w K (.Tuple es k pos) (Iel K l) [z,it] z (fun i h=>(∃ old,IsEnum h z it (i : Int) old) ∧ h.IsListIter it l i) where
 mem:=by simp
 obj:=fun i h st b hb=>by
  obtain ⟨⟨old,hz⟩,o1,e1,c1,d1⟩:=st
  simp only [List.mem_cons,List.not_mem_nil,or_false] at hb
  rcases hb with rfl | rfl
  ·exact ⟨_,hz,fun v q=>by cases q⟩
  ·exact ⟨o1,e1,fun v q=>by rw [d1] at q; cases q⟩
 keep:=fun i h h' st kk=>by
  obtain ⟨⟨old,hz⟩,o1,e1,r1⟩:=st
  exact ⟨⟨old,kk z (by simp) _ hz⟩,⟨o1,kk it (by simp) _ e1,r1⟩⟩
 item:=by
  intro X hP hw hK hc i pins s σ H E I hf st hg
  subst hP hw hK
  obtain ⟨⟨old,hz⟩,h1⟩:=st
  obtain ⟨xs,x,hq1,hx⟩:=hg
  obtain ⟨ia,ra,pa,_⟩:=I.list hq1
  obtain ⟨u,hu,ru⟩:=ra.get hx
  refine wpAny_pyNext_enum_item hz h1 pa.isList (x:=u) (by simpa using hu) zi fun h' a1 a2 a3 a4 kp=>?_
  refine ⟨_,rfl,?_⟩
  refine wpAny_letOwnedTupleGo_enum (s:={ s with heap:=h',toks:=s.toks + 1 }) a1 fun h2' hz' hs'=>?_
  replace hs' : Heap.SameBut z h' h2':=hs'
  have zlt : z < s.heap.objs.size:=Heap.lt_size hz
  have far : ∀ q ∈ [z,it],q < s.heap.objs.size:=by
   intro q hq
   obtain ⟨o1,e1,_⟩:=h1
   simp only [List.mem_cons,List.not_mem_nil,or_false] at hq
   rcases hq with rfl | rfl
   ·exact zlt
   ·exact Heap.lt_size e1
  have fz:=hf z (by simp)
  have f1:=hf it (by simp)
  have keepAll : ∀ b o,b ≠ z → b ≠ it → s.heap.get? b = some o → h2'.get? b = some o:=fun b o b1 b2 e=>hs'.extBut _ _ b1 (kp b o b1 b2 e)
  have hnew : H s.heap.objs.size = none:=I.hok.fresh (Nat.le_refl _)
  have Tz : s.heap.objs.size ≠ z:=Nat.ne_of_gt zlt
  have ht2 : h2'.get? s.heap.objs.size = some { cls:=.type "tuple",data:=.seq #[.int i s.toks,u] }:=hs'.extBut _ _ Tz a3
  have I2 : Inv X pins σ (upd H s.heap.objs.size (.tup [.int i,x])) { s with heap:=h2',toks:=s.toks + 1 }:=by
   have there : ∀ q ∈ [z,it],∃ o',h2'.get? q = some o':=by
    intro q hq
    obtain ⟨o1,e1,_⟩:=a2
    simp only [List.mem_cons,List.not_mem_nil,or_false] at hq
    rcases hq with rfl | rfl
    ·exact ⟨_,hz'⟩
    ·exact ⟨_,hs'.extBut _ _ zi.symm e1⟩
   have nch : ∀ b,b ∉ [z,it] → b ≠ z ∧ b ≠ it:=fun b hb=>by
    simp only [List.mem_cons,List.not_mem_nil,or_false,not_or] at hb
    exact hb
   have trk : ∀ b u',H b = some u' → b ≠ z ∧ b ≠ it:=fun b u' e =>
    ⟨fun q=>(by rw [q,fz.1] at e; cases e),fun q=>(by rw [q,f1.1] at e; cases e)⟩
   have okH : HOk X.prog X.w (upd H s.heap.objs.size (.tup [.int i,x])) h2':=fun b u' e=>by
    by_cases hb : b = s.heap.objs.size
    ·subst hb
     rw [Jd] at e
     cases e
     exact ⟨(show 2 ≤ sizeLine by decide),[.int i s.toks,u],.cons ⟨_,rfl⟩ (.cons ru .nil),⟨_,ht2,rfl,_,rfl⟩⟩
    ·rw [Jn hb] at e
     have hx:=I.hok b u' e
     refine hx.stay (fun q o hq e2=>?_) (fun q e2=>?_) (fun q xs e2=>?_)
     ·rcases hq with rfl | hq
      ·obtain ⟨b1,b2⟩:=trk q _ e
       exact keepAll q o b1 b2 e2
      ·obtain ⟨b1,b2⟩:=trk q _ hq
       exact keepAll q o b1 b2 e2
     ·rw [Jn (Jj e2 hnew)]; exact e2
     ·rw [Jn (Jj e2 hnew)]; exact e2
   refine I.step (g':=s.gens) (d':=s.drawn) (ch:=[z,it]) (fun b hb=>?_) (fun b o _ _ hcb e n=>?_) (fun b o _ _ hcb e n=>?_) (fun b o hcb e n=>?_) (fun b o hcb e=>?_) (fun b xs e=>?_) (fun b o u' e=>?_) (fun b ps e=>?_) (fun m hm=>?_) okH I.bare
   ·simp only [List.mem_cons,List.not_mem_nil,or_false] at hb
    rcases hb with rfl | rfl
    ·exact ⟨fz.2.2.2.1,fz.2.1,fz.2.2.2.2.1,fz.2.2.2.2.2⟩
    ·exact ⟨f1.2.2.2.1,f1.2.1,f1.2.2.2.2.1,f1.2.2.2.2.2⟩
   ·obtain ⟨b1,b2⟩:=nch b hcb
    exact keepAll b o b1 b2 e
   ·obtain ⟨b1,b2⟩:=nch b hcb
    exact ⟨o.slots,keepAll b o b1 b2 e⟩
   ·rw [Jn (Nat.ne_of_lt (Heap.lt_size e))]; exact n
   ·obtain ⟨b1,b2⟩:=nch b hcb
    exact ⟨o,keepAll b o b1 b2 e⟩
   ·rw [Jn (Jj e hnew)]; exact e
   ·rw [Jn (Jj e hnew)]; exact e
   ·exact ⟨#[],by rw [Jn (Jj e hnew),e]; simp⟩
   ·obtain ⟨o,es',ep,ho,r⟩:=hm
    exact ⟨o,es',ep,keepAll _ o fz.2.1.symm f1.2.1.symm ho,r⟩
  refine ⟨.ref s.heap.objs.size,_,I2,rfl,⟨_,x,hnew,fun zs hz=>by rw [I.list_inj hz hq1]; exact hx,rfl,rfl⟩,⟨⟨_,by rw [Int.natCast_add]; exact hz'⟩,?_⟩,fun b hb=>?_⟩
  ·obtain ⟨o,e,r⟩:=a2; exact ⟨o,hs'.extBut _ _ zi.symm e,r⟩
  ·rw [Jn (Nat.ne_of_lt (far b hb))]; exact (hf b hb).1
 done:=by
  intro X hP hw hK hc i pins s σ H E I hf st hg
  subst hP hw hK
  obtain ⟨⟨old,hz⟩,h1⟩:=st
  obtain ⟨xs,hq1,hg⟩:=hg
  obtain ⟨ia,ra,pa,_⟩:=I.list hq1
  have la:=ra.length
  obtain ⟨f0,f1,f2,f3,f4,f5⟩:=hf it (by simp)
  refine wpAny_pyNext_enum_end (I.ok.hd hc) hz h1 pa.isList (by simp; omega) fun h' eb=>⟨rfl,I.turned (t':=s.toks) (fun b o hb e=>eb b o hb e) f0 f1 f3 f4 f5⟩
 self:=fun _ _ _ _ _ st h=>by
  obtain ⟨⟨old,hz⟩,_⟩:=st
  exact wpAny_pyIter_enum hz h
section
variable {X : Cx} {es : List Expr} {k : Nat} {tpos : Pos}
noncomputable def JcW (K : PySem.W.Frag) (ta : TA) : TI:=fun σ H R=>ta σ H fun vs H1=>∃ a,vs = [.ref a] ∧ (∃ xs,SqL K H1 a xs) ∧ R (Iel K a) H1
theorem JcG {a : Expr} {ta : TA} {p pos : Pos} (hg : Gl X "enumerate") (hm : X.mg "enumerate" = none) (ha : PA X [a] ta) (hv : bootBuiltins "enumerate" = some (.type "enumerate"):=by decide +kernel) (hs : starEach [a] X.env = [(false,eval a X.env)]:=by rfl) :
  PI X (.Tuple es k tpos) (.Call (.Name "enumerate" p) [a] [] pos) (JcW X.K ta):=by
 intro pins s σ H R I h
 refine Call_ (J4p I hg hm hv (PyProof.Rows.callWith_type1 (thn (ha pos pins s σ H _ I h) fun us s1 ⟨vs,H1,I1,r1,q1⟩=>?_) (by rw [hs]; rfl) (by rfl)))
 obtain ⟨l1,e,⟨xs,hq1⟩,q⟩:=q1
 subst e
 obtain ⟨u,rfl,ru⟩:=r1.one
 cases ru
 obtain ⟨ia,ra,pa,_⟩:=I1.list hq1
 refine call_enumerate_list pa.isList fun h' a1 a2 a3 kp=>?_
 have I2 : Inv X pins σ H1 { s1 with heap:=h' }:=I1.kept (t':=s1.toks) kp
 refine wpAny_pyIter_enum a1 ⟨s1.heap.objs.size + 1,[s1.heap.objs.size + 1,s1.heap.objs.size],_,_,H1,rfl,I2,Jay (Nat.ne_of_gt (Nat.lt_succ_self _)),⟨⟨_,a1⟩,a2⟩,fun b hb=>?_,q⟩
 have hb' : s1.heap.objs.size ≤ b:=by
  simp only [List.mem_cons,List.not_mem_nil,or_false] at hb
  rcases hb with rfl | rfl
  ·exact Nat.le_add_right _ _
  ·exact Nat.le_refl _
 exact I1.fpOk hb' (I1.hok.fresh hb')
theorem J3q {K : PySem.W.Frag} {a : Expr} {ta : TA} {p pos : Pos} (h : X.K = K) (hg : Gl X "enumerate") (hm : X.mg "enumerate" = none) (ha : PA X [a] ta) (hv : bootBuiltins "enumerate" = some (.type "enumerate"):=by decide +kernel) (hs : starEach [a] X.env = [(false,eval a X.env)]:=by rfl) :
  PI X (.Tuple es k tpos) (.Call (.Name "enumerate" p) [a] [] pos) (JcW K ta):=h ▸ JcG hg hm ha hv hs
end
theorem J44 {K : PySem.W.Frag} {a : Addr} {xs : List V} {g : TG} {tb : TS} {D : Ends} {σ : St} {H : Hp} (Pv : Nat → St → Hp → Prop) (h0 : Pv 0 σ H) (hl : ∀ i σ H,i ≤ xs.length → Pv i σ H → SqL K H a xs)
  (hs : ∀ i x p σ H,xs[i]? = some x → H p = none → Pv i σ H → g (.ref p) σ (upd H p (.tup [.int i,x])) fun σ2 H2=>tb { D with nx:=Pv (i + 1),ct:=Pv (i + 1),bk:=D.nx } σ2 H2) (hd : ∀ σ H,Pv xs.length σ H → D.nx σ H) :
  ∃ W : Nat → Nat → St → Hp → Prop,(∃ m,W 0 m σ H) ∧ ∀ i m σ H,W i m σ H →
   ((Iel K a).stop i H ∧ D.nx σ H) ∨ ((Iel K a).go i H ∧ ∃ N : St → Hp → Prop,(∀ σ' H',N σ' H' → ∃ m',m' < m ∧ W (i + 1) m' σ' H') ∧ ∀ x H',(Iel K a).yld i H x H' → g x σ H' fun σ2 H2=>tb { D with nx:=N,ct:=N,bk:=D.nx } σ2 H2):=by
 refine ⟨fun i m σ H=>m = xs.length - i ∧ i ≤ xs.length ∧ Pv i σ H,⟨xs.length,by simp,Nat.zero_le _,h0⟩,?_⟩
 rintro i m σ H ⟨rfl,hi,p⟩
 have q:=hl i σ H hi p
 by_cases hlt : i < xs.length
 ·refine .inr ⟨⟨xs,xs[i],q,by simp [hlt]⟩,Pv (i + 1),fun σ' H' p'=>⟨xs.length - (i + 1),by omega,rfl,hlt,p'⟩,fun x H' y=>?_⟩
  obtain ⟨r,u,hr,e1,rfl,rfl⟩:=y
  exact hs i u r σ H (e1 xs q) hr p
 ·have e : i = xs.length:=by omega
  subst e
  exact .inl ⟨⟨xs,q,Nat.le_refl _⟩,hd σ H p⟩
theorem JaB {α : Type} {K : PySem.W.Frag} {l : Addr} {H : Hp} {σ0 : St} {g : TG} {tc : TT} {te : TE} {Q : VK} {vs : List V} (xs : List α) (p : α → Bool) (P : α → V → Hp → Prop) (sh : St → Prop) (hv : SqL K H l vs) (lv : vs.length = xs.length) (hx : xs.length ≤ 1000000) (h0 : sh σ0)
  (hk : ∀ a y Ha Hb,J01 Ha Hb → P a y Ha → P a y Hb)
  (step : ∀ (i : Nat) a v q σ H',xs[i]? = some a → vs[i]? = some v → sh σ → Same H H' → H' q = none → ∀ (Rf : St → Hp → Prop) (Rt : St → V → Hp → Prop),
   (∀ σ2 H3,p a = false → sh σ2 → Same H' H3 → Rf σ2 H3) → (∀ σ2 y H4,p a = true → sh σ2 → Same H' H4 → P a y H4 → Rt σ2 y H4) →
   g (.ref q) σ (upd H' q (.tup [.int i,v])) fun σ2 H2=>tc σ2 H2 fun b H3=>if b = true then te σ2 H3 (fun y H4=>Rt σ2 y H4) else Rf σ2 H3)
  (hQ : ∀ D H' ys,H D = none → Same H H' → All2 P H' (xs.filter p) ys → H' D = some (.lst ys) → Q (.ref D) H') : J4Q (Iel K l) H σ0 g tc te Q:=by
 refine J6S xs p P sh hx h0 (fun i H' s hi=>⟨vs,vs[i],s.seq hv,by simp [lv,hi]⟩) (fun H' s=>⟨vs,s.seq hv,by omega⟩) hk (fun i a σ x H' H'' ha hσ s hy=>?_) hQ
 obtain ⟨q,v,hq,e1,rfl,rfl⟩:=hy
 exact step i a v q σ H' ha (e1 vs (s.seq hv)) hσ s hq
end L2
set_option linter.all false
set_option maxRecDepth 100000
set_option maxHeartbeats 4000000
namespace L2
open PySem PySem.Spec PyProof.Rows
theorem J3m : ∀ {xs : List V},xs.all J09 = true → eqVs xs xs = true
 | [],_=>rfl
 | x :: xs,h=>by
  rw [List.all_cons,Bool.and_eq_true] at h
  rw [eqVs,J3m h.2,Bool.and_true]
  cases x <;> first | rfl | exact beq_self_eq_true _ | exact absurd h.1 Bool.false_ne_true
theorem Jdi (xs ys : List V) : ((List.range (min xs.length ys.length)).all (fun j=>eqV (xs.getD j .non) (ys.getD j .non)) && xs.length == ys.length) = eqVs xs ys:=by
 by_cases h : xs.length = ys.length
 ·rw [beq_iff_eq.mpr h,Bool.and_true,h,Nat.min_self,← h,J3x h]
 ·rw [beq_eq_false_iff_ne.mpr h,Bool.and_false,J4N h]
noncomputable def TpAt (K : PySem.W.Frag) : List V → V → Hp → Prop:=fun xs v H=>∃ p,v = .ref p ∧ SqT K H p xs ∧ xs.all J09 = true
section
variable {X : Cx} {K : PySem.W.Frag} {pins : List (Addr × Obj)} {s : Shared} {σ : St} {H : Hp} {A : Around}
theorem JcX {p r : Addr} {xs ys : List V} (I : Inv X pins σ H s) (hp : SqT X.K H p xs) (hr : SqT X.K H r ys) (fx : xs.all J09 = true) (fy : ys.all J09 = true) (hu : A.units < cLine) : SeqAt.RcAt A s (.ref p) (.ref r) (eqVs xs ys):=by
 obtain ⟨ia,ra,pa,za⟩:=I.tuple hp
 obtain ⟨ib,rb,pb,zb⟩:=I.tuple hr
 have h:=SeqAt.RcAt.tuples (A:=A) (e:=fun j=>eqV (xs.getD j .non) (ys.getD j .non)) (show s.heap.IsTuple p ia.toArray from pa) (show s.heap.IsTuple r ib.toArray from pb) hu (J3p ra rb fx fy)
 rw [List.size_toArray,List.size_toArray,← ra.length,← rb.length,Jdi] at h
 exact h
theorem J9v {p r : Addr} {xs ys : List V} (I : Inv X pins σ H s) (hp : SqT X.K H p xs) (hr : SqT X.K H r ys) (fx : xs.all J09 = true) (fy : ys.all J09 = true) (hu : A.units < cLine) : SeqAt.EqAt A s (.ref p) (.ref r) (eqVs xs ys):=by
 by_cases h : p = r
 ·subst h
  rw [I.tuple_inj hr hp,J3m fx]
  exact SeqAt.EqAt.same _
 ·exact SeqAt.EqAt.of_refs h (JcX I hp hr fx fy hu)
noncomputable def rInT (K : PySem.W.Frag) (neg : Bool) : R2:=fun x y H Q=>∃ p l xs yss vs,x = .ref p ∧ y = .ref l ∧ SqT K H p xs ∧ xs.all J09 = true ∧ SqL K H l vs ∧ All2 (TpAt K) H yss vs ∧ Q (.bl (if neg then !(yss.any fun ys=>eqVs ys xs) else yss.any fun ys=>eqVs ys xs)) H
open Classical in
noncomputable def inE (K : PySem.W.Frag) (H : Hp) (xs : List V) (u : Value) : Bool:=decide (∃ p ys,u = Value.ref p ∧ SqT K H p ys ∧ eqVs ys xs = true)
open Classical in
theorem Jcw {p : Addr} {xs ys : List V} (I : Inv X pins σ H s) (hp : SqT X.K H p ys) : inE X.K H xs (.ref p) = eqVs ys xs:=by
 unfold inE
 cases e : eqVs ys xs with
 | true=>exact decide_eq_true ⟨p,ys,rfl,hp,e⟩
 | false =>
  refine decide_eq_false ?_
  rintro ⟨r,zs,h1,h2,h3⟩
  cases h1
  rw [I.tuple_inj h2 hp,e] at h3
  cases h3
theorem Jb9 {xs : List V} (I : Inv X pins σ H s) : ∀ {yss : List (List V)} {vs : List V} {us : List Value},All2 (TpAt X.K) H yss vs → Vals vs us → us.any (inE X.K H xs) = yss.any fun ys=>eqVs ys xs
 | [],[],_,_,.nil=>rfl
 | ys :: yss,v :: vs,_,h,.cons r t=>by
  obtain ⟨⟨p,rfl,hp,_⟩,h2⟩:=h
  cases r
  rw [List.any_cons,List.any_cons,Jb9 I h2 t,Jcw I hp]
 | [],_ :: _,_,h,_=>h.elim
 | _ :: _,[],_,h,_=>h.elim
theorem Jbb {q : Addr} {xs : List V} (I : Inv X pins σ H s) (hq : SqT X.K H q xs) (fx : xs.all J09 = true) (hu : A.units < cLine) : ∀ {yss : List (List V)} {vs : List V} {us : List Value},All2 (TpAt X.K) H yss vs → Vals vs us → ∀ u ∈ us,SeqAt.EqAt A s u (.ref q) (inE X.K H xs u)
 | [],[],_,_,.nil=>fun u hu=>by cases hu
 | ys :: yss,v :: vs,_,h,.cons r t=>fun u hm=>by
  obtain ⟨⟨p,rfl,hp,fy⟩,h2⟩:=h
  cases r
  rcases List.mem_cons.mp hm with rfl | hm
  ·rw [Jcw I hp]
   exact J9v I hp hq fy fx hu
  ·exact Jbb I hq fx hu h2 t u hm
 | [],_ :: _,_,h,_=>h.elim
 | _ :: _,[],_,h,_=>h.elim
theorem JeJ (h : X.K = K) (hu : X.A.units + 1 < cLine) : OpR X (compareOp .In) (rInT K false):=by
 subst h
 intro pins s σ H x y v u Q I rx ry h
 obtain ⟨p,l,xs,yss,vs,rfl,rfl,hp,fx,hl,ha,q⟩:=h
 cases rx; cases ry
 obtain ⟨its,r,pl,hz⟩:=I.list hl
 refine SeqAt.in_listAt (inE X.K H xs) pl.isList (fun w hw=>Jbb (A:=X.A.in1) I hp fx hu ha r w (by simpa using hw)) ⟨.bl _,H,I,rfl,?_⟩
 rw [show its.toArray.any (inE X.K H xs) = its.any (inE X.K H xs) by simp,Jb9 I ha r]
 exact q
noncomputable def rEqE (K : PySem.W.Frag) (neg : Bool) : R2:=fun x y H Q=>∃ p r xs,x = .ref p ∧ y = .ref r ∧ SqL K H p xs ∧ SqL K H r [] ∧ Q (.bl (if neg then !xs.isEmpty else xs.isEmpty)) H
theorem Jf5 (h : X.K = K) (hu : X.A.units < cLine) : OpR X (compareOp .Eq) (rEqE K false):=by
 subst h
 intro pins s σ H x y v u Q I rx ry h
 obtain ⟨p,r,xs,rfl,rfl,hp,hr,q⟩:=h
 cases xs with
 | nil=>exact Jfa rfl hu pins s σ H _ _ v u Q I rx ry ⟨p,r,[],[],rfl,rfl,hp,hr,rfl,rfl,q⟩
 | cons a t =>
  cases rx; cases ry
  obtain ⟨ia,ra,pa,za⟩:=I.list hp
  obtain ⟨ib,rb,pb,zb⟩:=I.list hr
  have la:=ra.length
  have lb:=rb.length
  rw [List.length_cons] at la
  rw [List.length_nil] at lb
  exact SeqAt.eq_list_lengthsAt pa.isList pb.isList (by simp; omega) hu ⟨.bl false,H,I,rfl,q⟩
theorem Jf4 (h : X.K = K) (hu : X.A.units < cLine) : OpR X (compareOp .NotEq) (rEqE K true):=by
 subst h
 intro pins s σ H x y v u Q I rx ry h
 obtain ⟨p,r,xs,rfl,rfl,hp,hr,q⟩:=h
 cases xs with
 | nil=>exact Jdj rfl hu pins s σ H _ _ v u Q I rx ry ⟨p,r,[],[],rfl,rfl,hp,hr,rfl,rfl,q⟩
 | cons a t =>
  cases rx; cases ry
  obtain ⟨ia,ra,pa,za⟩:=I.list hp
  obtain ⟨ib,rb,pb,zb⟩:=I.list hr
  have la:=ra.length
  have lb:=rb.length
  rw [List.length_cons] at la
  rw [List.length_nil] at lb
  exact SeqAt.RcNeAt.lists_lengths pa.isList pb.isList (by simp; omega) hu _ _ _ _ ⟨.bl true,H,I,rfl,q⟩
end
end L2
set_option linter.all false
set_option maxRecDepth 100000
set_option maxHeartbeats 4000000
namespace L2
open PySem PySem.Spec PyProof.Rows
@[irreducible] def tCut (t : TS) : TS:=fun D σ H=>∃ R : St → Hp → Prop,t { D with nx:=R } σ H ∧ ∀ σ' H',R σ' H' → D.nx σ' H'
theorem tCut.mk {t : TS} {D : Ends} {σ : St} {H : Hp} (R : St → Hp → Prop) (h : t { D with nx:=R } σ H) (h' : ∀ σ' H',R σ' H' → D.nx σ' H') : tCut t D σ H:=by unfold tCut; exact ⟨R,h,h'⟩
section
variable {X : Cx} {K : PySem.W.Frag}
theorem J26 {st : Stmt} {t : TS} (h : PS X st t) : PS X st (tCut t):=by
 intro pins s σ H D I q
 unfold tCut at q
 obtain ⟨R,h1,h2⟩:=q
 refine thn (h pins s σ H _ I h1) fun f s' z=>?_
 cases f with
 | next=>obtain ⟨σ',H',I',r⟩:=z; exact ⟨σ',H',I',h2 σ' H' r⟩
 | brk=>exact z
 | cont=>exact z
 | ret u=>exact z
theorem J8w {M : Model} {A : Around} {E : Value → Shared → Prop} {s : Shared} {a b : Value} {Q : Value → Shared → Prop} (ha : s.TypeIs a "list") (hb : s.TypeIs b "list") (hc : wpAny M A (call (.builtin "list.__iadd__") [a,b]) Q E s) : wpAny M A (inplaceOp .Add a b) Q E s:=by
 unfold inplaceOp
 refine wpAny_holding ?_
 have hl : typeLookup (.type "list") (dunderI "add") = pure (some (.builtin "list.__iadd__")):=F.slot_list_iadd.lookup
 have hfi : fillsInplaceSlot (.type "list") "add" (Operator.Add == .Add) = pure false:=by
  unfold fillsInplaceSlot
  show (typeLookup (.type "list") (dunderI "add") >>= fun fi=>pure (fi.isSome && !isSeqSlot fi)) = pure false
  rw [hl]; rfl
 have hsi : seqSlot? (.type "list") (dunderI "add") = pure (some (.builtin "list.__iadd__")):=by
  unfold seqSlot?
  rw [hl]; rfl
 refine wpAny_bind (wpAny_typeOf ha (wpAny_bind (wpAny_of_eq hfi ?_)))
 show wpAny M A (if false = true then _ else _) Q E s
 rw [if_neg Bool.false_ne_true]
 refine wpAny_bind (binaryOp1_none (nm:="add") ha hb noFill_list_add ?_)
 refine wpAny_bind (wpAny_of_eq hsi ?_)
 exact wpAny_bind (wpAny_rule hc)
noncomputable def ipL : TIp:=fun x y H Q=>∃ l b xs zs,x = .ref l ∧ y = .ref b ∧ H l = some (.lst xs) ∧ H b = some (.lst zs) ∧ xs.length + zs.length ≤ sizeLine ∧ Q (.ref l) (upd H l (.lst (xs ++ zs)))
theorem J3y : PIp X .Add ipL:=by
 intro pins s σ H x y v u Q I rx ry h
 obtain ⟨l,b,xs,zs,rfl,rfl,hH,hB,hz,q⟩:=h
 cases rx
 cases ry
 obtain ⟨z,its,n,r,hl,e⟩:=I.lstM hH
 obtain ⟨z2,its2,n2,r2,hl2,e2⟩:=I.lstM hB
 have hsz : its.toArray.size + its2.toArray.size ≤ sizeLine:=by rw [List.size_toArray,List.size_toArray]; omega
 have hlong : ¬ (!its.toArray.isEmpty && Builtin.List.listTooLong (its.toArray.size + its2.toArray.size)) = true:=by
  rw [JcM hsz,Bool.and_false]
  exact Bool.false_ne_true
 refine J8w ⟨_,e,rfl⟩ ⟨_,e2,rfl⟩ ?_
 refine call_meets F.slot_list_iadd ⟨_,e,rfl⟩ F.entry_list_iadd (F.args_list_iadd_2 _ _)
  (AutoSeq1.list___iadd___list_list_0 l its.toArray n b its2.toArray n2 hlong (by rw [List.size_toArray]; omega) (by omega)) ⟨e,e2,?_⟩
 refine ⟨.ref l,_,I.lset (its':=its ++ its2) hH e (by simp) (r.append r2) ?_,rfl,q⟩
 rw [List.length_append]
 omega
end
end L2
namespace L2
open PySem PySem.Spec PyProof.Rows
section
variable {α β : Type} {H : Hp}
theorem All2.mapL {P : β → V → Hp → Prop} {f : α → β} : ∀ {as : List α} {ys : List V},All2 (fun a y H=>P (f a) y H) H as ys → All2 P H (as.map f) ys
 | [],[],_=>trivial
 | _ :: _,_ :: _,h=>⟨h.1,All2.mapL h.2⟩
 | [],_ :: _,h=>h.elim
 | _ :: _,[],h=>h.elim
theorem All2.app {P : α → V → Hp → Prop} : ∀ {as bs : List α} {ys zs : List V},All2 P H as ys → All2 P H bs zs → All2 P H (as ++ bs) (ys ++ zs)
 | [],_,[],_,_,h=>h
 | _ :: _,_,_ :: _,_,h,g=>⟨h.1,All2.app h.2 g⟩
 | [],_,_ :: _,_,h,_=>h.elim
 | _ :: _,_,[],_,h,_=>h.elim
end
end L2
set_option linter.all false
set_option maxRecDepth 100000
set_option maxHeartbeats 4000000
namespace L2
open PySem PySem.Spec PyProof.Rows
theorem J3B {P : Program} {w : World} {H : Hp} {h : Heap} {a : Addr} {o : HO} (x : J1X P w H h a o) : ∃ ob,h.get? a = some ob:=by
 cases o with
 | lst xs=>obtain ⟨_,_,_,_,e⟩:=x; exact ⟨_,e⟩
 | tup xs=>obtain ⟨_,_,_,o,e,_⟩:=x; exact ⟨_,e⟩
 | dK kvs=>obtain ⟨_,_,_,_,o,_,_,e,_⟩:=x; exact ⟨_,e⟩
 | dT kvs=>obtain ⟨_,_,_,_,o,_,_,e,_⟩:=x; exact ⟨_,e⟩
 | set S n=>obtain ⟨o,_,_,_,e,_⟩:=x; exact ⟨_,e⟩
 | ins C dx fs=>obtain ⟨_,_,_,e,_⟩:=x; exact ⟨_,e⟩
 | own y=>exact x
 | xd fs=>obtain ⟨_,⟨_,_,_,e,_⟩,_⟩:=x; exact ⟨_,e⟩
 | rng lo hi=>obtain ⟨_,_,_,e⟩:=x; exact ⟨_,e⟩
 | frz ob u=>obtain ⟨e,_⟩:=x; exact ⟨_,e⟩
 | tbl ps=>exact ⟨_,(show h.get? a = some _ from x)⟩
 | met f y=>exact ⟨_,(show h.get? a = some _ from x)⟩
 | ext φ=>obtain ⟨_,e,_⟩:=x; exact e
section
variable {X : Cx} {pins : List (Addr × Obj)} {σ : St} {H : Hp} {s : Shared} {E : XK} {Ex : Value → Shared → Prop}
theorem Inv.oldfr (I : Inv X pins σ H s) {b : Addr} {o : Obj} (q : X.s₀.heap.get? b = some o) (hb : b ∈ frs X.stack) : b ∈ X.fs:=by
 rcases List.mem_cons.mp (I.stkSub b hb) with e | e
 ·exact absurd (Nat.lt_of_lt_of_le (Heap.lt_size q) I.ok.above) (by rw [e]; exact Nat.lt_irrefl _)
 ·exact e
end
end L2
set_option linter.all false
set_option maxRecDepth 100000
set_option maxHeartbeats 4000000
namespace L2
open PySem PySem.Spec PyProof.Rows
abbrev J3A : List Value:=[.type "ValueError",.type "Exception",.type "BaseException",.type "object"]
noncomputable def XCls (K : PySem.W.Frag) (C : Addr) : Prop:=PySem.W.excIn K C J3A "ValueError.__new__" = true
theorem XCls.at {K : PySem.W.Frag} {C : Addr} {h : Heap} (q : XCls K C) (X : K.In h) :
  ∃ bm N nm q bs hdct sn sub ab col dd k0 k1 k2 k3 k5 mN,h.get? C = some (excClassObj nm q C N bs bm hdct sn sub ab col dd k0 k1 k2 k3 k5 "ValueError.__new__") ∧ h.Ns N mN ∧ mN "__init__" = none ∧ OwnTail h J3A bm:=by
 unfold XCls PySem.W.excIn at q
 split at q
 ·rename_i dd cd sl ho
  split at q
  ·rename_i C' bm k0 k1 k2 k3 n k5 hm hs
   simp only [Bool.and_eq_true,beq_iff_eq,Bool.not_eq_true'] at q
   obtain ⟨⟨⟨⟨⟨rfl,rfl⟩,hdel⟩,ht⟩,hok⟩,hni⟩:=q
   obtain ⟨nm,bs,mro,ns,qn,hd,sn,sub,ab,col,del⟩:=cd
   dsimp only at hm hdel hok hni
   subst hm hdel
   have hsl : sl = #[k0,k1,k2,k3,some (.builtin "ValueError.__new__"),k5]:=by
    obtain ⟨l⟩:=sl
    simp only at hs
    rw [hs]
   subst hsl
   exact ⟨bm,ns,nm,qn,bs,hd,sn,sub,ab,col,dd,k0,k1,k2,k3,k5,_,X _ _ ho,.of_isNs (PySem.W.isNs_of_in X hok),PySem.W.nsMap_none_of_in X hok hni,PySem.W.tail_of_in X ht⟩
  ·cases q
 ·cases q
noncomputable def JeO (C : Addr) (E : XK) (t : TA) : TS:=fun _ σ H=>t σ H fun vs H1=>vs.length ≤ sizeLine ∧ E (.ref C) none H1
section
variable {P : Program} {w : World} {K : PySem.W.Frag} {mg : Str → Option Value} {base : Heap}
end
section
variable {X : Cx} {x m : Str} {k : Nat} {ps : List Str} {sp : Sp} {C : Addr} {p pos apos : Pos} {e o : Expr} {es : List Expr} {t : TA} {to : TE} {E : XK}
end
end L2
set_option linter.all false
set_option maxRecDepth 100000
set_option maxHeartbeats 4000000
namespace L2
open PySem PySem.Spec PyProof.Rows
section
variable {prog : Program} {w : World} {A : Around} {E : Value → Shared → Prop} {K : PySem.W.Frag} {x C : Addr} {h : Heap} {g : Array GenState} {d : Drawn} {t : Nat} {os : OsState} {o : Obj}
structure XTy (K : PySem.W.Frag) (C : Addr) : Prop where
 ga : PySem.W.findIn K (.ref C) "__getattribute__" = some (some (.builtin "BaseException.__getattribute__"))
 gn : PySem.W.findIn K (.ref C) "__getattr__" = some none
 cl : PySem.W.findIn K (.ref C) "__class__" = some (some (.builtin "object.__class__"))
 mo : PySem.W.mroIn K C (.type "object") = some true
 mb : PySem.W.mroIn K C (.type "BaseException") = some true
theorem JeN {R : Result → Shared → Prop} (X : K.In h) (T : XTy K C) (hx : h.get? x = some o) (hc : o.cls = .ref C) (hq : R (.ok (.ret (.ref C))) ⟨h,g,d,t,os⟩) :
  codeAny (model prog w) A (.call (.builtin "getset_descriptor.__get__") ⟨[.builtin "object.__class__",.ref x,.ref C],[]⟩) R ⟨h,g,d,t,os⟩:=by
 have hT5 : (⟨h,g,d,t,os⟩ : Shared).TypeIs (.builtin "object.__class__") "getset_descriptor":=F.typeOf_object_class
 have L0 : PySem.W.Looks (model prog w) h (typeOf (.ref x)) (.ref C):=hc ▸ (PySem.W.Looks.ld hx).andThen .now
 have L1 : PySem.W.Looks (model prog w) h (isSubtype (.ref C) (.type (".".intercalate ("object.__class__".cutAt '.').dropLast))) true:=by rw [F.owner_object_class]; exact PySem.W.looks_mroIn X T.mo
 refine codeAny_call_builtin F.slot_gs_get.plain F.entry_gs_get (F.slot_gs_get.check _ _ _ _ _ _ _ _ hT5 (F.args_gs_get _ _ _) ?_)
 repeat (any_goals (first | assumption | with_reducible refine L0.at ?_ | with_reducible refine L1.at ?_ | wp_step))
 refine ⟨Code.quiet_builtin _ (by decide +kernel),codeAny_builtin F.entry_object_class ?_⟩
 repeat (any_goals (first | assumption | with_reducible refine L0.at ?_ | with_reducible refine L1.at ?_ | wp_step))
theorem JcT {tk : Tok} {Q : Fin → Shared → Prop} (X : K.In h) (T : XTy K C) (hx : h.get? x = some o) (hc : o.cls = .ref C) (hq : Q (.done (.ret (.ref C))) ⟨h,g,d,t,os⟩) :
  wpAny (model prog w) A (Builtin.«object.__getattribute__» ⟨[.ref x,.str "__class__" tk],[]⟩) Q E ⟨h,g,d,t,os⟩:=by
 have hT5 : (⟨h,g,d,t,os⟩ : Shared).TypeIs (.builtin "object.__class__") "getset_descriptor":=F.typeOf_object_class
 have L0 : PySem.W.Looks (model prog w) h (typeOf (.ref x)) (.ref C):=hc ▸ (PySem.W.Looks.ld hx).andThen .now
 have L2:=PySem.W.looks_findIn (M:=model prog w) X T.cl
 have f5:=F.typeOf_object_class
 have f6:=F.slot_gs_get.lookup
 have f7:=F.slot_gs_set.lookup
 repeat (any_goals (first | assumption | with_reducible refine L0.at ?_ | with_reducible refine L2.at ?_ | wp_step))
 refine JeN X T hx hc ?_
 repeat (any_goals (first | assumption | wp_step))
theorem J9L {M : Model} {nameV : Value} {Q : Unit → Shared → Prop} (X : K.In h) (T : XTy K C) (hx : h.get? x = some o) (hc : o.cls = .ref C) (hq : Q () ⟨h,g,d,t,os⟩) : wpAny M A (checkBuiltinCall "BaseException.__getattribute__" ⟨[.ref x,nameV],[]⟩) Q E ⟨h,g,d,t,os⟩:=by
 have hk : builtinKind "BaseException.__getattribute__" = some .slot:=by decide +kernel
 have hsplit : splitId "BaseException.__getattribute__" = some ("BaseException","__getattribute__"):=by decide +kernel
 have ha:=F.args_bexc_ga (.ref x) nameV
 have L0 : PySem.W.Looks M h (typeOf (.ref x)) (.ref C):=hc ▸ (PySem.W.Looks.ld hx).andThen .now
 have L1 : PySem.W.Looks M h (isSubtype (.ref C) (.type "BaseException")) true:=PySem.W.looks_mroIn X T.mb
 simp only [checkBuiltinCall,hk,hsplit]
 refine wpAny_bind ?_
 ·unfold isInstance
  repeat (first | with_reducible refine L0.at ?_ | with_reducible refine L1.at ?_ | wp_step)
  exact hq
theorem Je6 {tk : Tok} {R : Result → Shared → Prop} (X : K.In h) (T : XTy K C) (hx : h.get? x = some o) (hc : o.cls = .ref C) (hq : R (.ok (.ret (.ref C))) ⟨h,g,d,t,os⟩) :
  codeAny (model prog w) A (.call (.builtin "BaseException.__getattribute__") ⟨[.ref x,.str "__class__" tk],[]⟩) R ⟨h,g,d,t,os⟩ :=
 codeAny_call_builtin F.attr_ValueError.ga.plain F.entry_bexc_ga (J9L X T hx hc (JcT X T hx hc hq))
theorem JfL {tk : Tok} {Q : Value → Shared → Prop} (X : K.In h) (T : XTy K C) (hx : h.get? x = some o) (hc : o.cls = .ref C) (hq : Q (.ref C) ⟨h,g,d,t,os⟩) :
  wpAny (model prog w) A (getAttrBy (.ref x) (.str "__class__" tk) false) Q E ⟨h,g,d,t,os⟩:=by
 have f3:=F.attr_ValueError.ga.bind (.ref x)
 have hx2 : (Value.builtin "BaseException.__getattribute__" == Value.builtin "object.__getattribute__") = false:=by decide +kernel
 have hx1 : (onTheHeap (Value.ref C) && Value.builtin "BaseException.__getattribute__" == Value.builtin "object.__getattribute__") = false:=by rw [hx2]; rfl
 have L0 : PySem.W.Looks (model prog w) h (typeOf (.ref x)) (.ref C):=hc ▸ (PySem.W.Looks.ld hx).andThen .now
 have L1:=PySem.W.looks_findIn (M:=model prog w) X T.ga
 have L2:=PySem.W.looks_findIn (M:=model prog w) X T.gn
 repeat (any_goals (first | assumption | with_reducible refine L0.at ?_ | with_reducible refine L1.at ?_ | with_reducible refine L2.at ?_ | wp_step))
 refine Je6 X T hx hc ?_
 repeat (any_goals (first | assumption | wp_step))
theorem JdY {Q : Option Value → Shared → Prop} (X : K.In h) (T : XTy K C) (hx : h.get? x = some o) (hc : o.cls = .ref C) (hq : Q (some (.ref C)) ⟨h,g,d,t + 1,os⟩) : wpAny (model prog w) A (getAttr? (.ref x) "__class__") Q E ⟨h,g,d,t,os⟩:=by
 unfold getAttr? getAttrBy?
 repeat (any_goals (first | assumption | with_reducible apply JfL X T hx hc | wp_step))
theorem J6Q (T : XTy K C) (hz : (PySem.W.clsIn K C).isSome = true) : PySem.W.KitX K (.ref x) (.ref C) (fun h=>∃ o,h.get? x = some o ∧ o.cls = .ref C) where
 ty:=fun M h _ ⟨o,h1,h2⟩=>h2 ▸ (PySem.W.Looks.ld h1).andThen .now
 it:=fun _ _ X _=>by
  unfold PySem.W.clsIn at hz
  split at hz
  ·rename_i c' d' cd' sl' ho
   intro A' Q' E' s' k q
   unfold isType loadHead
   exact wpAny_bind (wpAny_loadPart (k _ _ (X _ _ ho)) (wpAny_pure q))
  ·cases hz
 ne:=fun h tp dd its n sl X htp=>by
  refine Bool.eq_false_iff.mpr fun q=>?_
  have e : C = tp:=Value.ref.inj (beq_iff_eq.mp q)
  subst e
  unfold PySem.W.clsIn at hz
  split at hz
  ·rename_i c' d' cd' sl' ho
   have z:=(X _ _ ho).symm.trans htp
   cases z
  ·cases hz
 ca:=fun {_ _ _ _ _ s} X p k=>by
  obtain ⟨h,g,d,t,os⟩:=s
  obtain ⟨o,h1,h2⟩:=p
  exact JdY X T h1 h2 k
end
end L2
set_option linter.all false
set_option maxRecDepth 100000
set_option maxHeartbeats 4000000
namespace L2
open PySem PySem.Spec PyProof.Rows
section
variable {X : Cx} {pins : List (Addr × Obj)} {σ : St} {H : Hp} {s : Shared}
noncomputable abbrev Cx.sui (X : Cx) (a : Addr) : Cx:={ X with A:=X.A.mark (some (.ref a)),calm:=false,xe:=fun _ _=>False }
theorem Inv.sui (I : Inv X pins σ H s) (a : Addr) : Inv (X.sui a) pins σ H s :=
 ⟨⟨I.ok.mod,I.ok.kind,I.ok.glob,I.ok.blt,I.ok.above,I.ok.inj,I.ok.has,I.ok.cab,(fun z=>nomatch z),I.ok.frames,I.ok.stk,I.ok.exf,I.ok.bs,I.ok.bsz,I.ok.noex,I.ok.exfs,I.ok.funs,I.ok.frf⟩,I.os,I.bare,I.base,I.loc,I.cell,I.free,I.freeC,I.pin,I.hok,I.len⟩
theorem Inv.unsui {a : Addr} (ok : X.Ok) (I : Inv (X.sui a) pins σ H s) : Inv X pins σ H s:=⟨ok,I.os,I.bare,I.base,I.loc,I.cell,I.free,I.freeC,I.pin,I.hok,I.len⟩
theorem J40 {M : Model} {A : Around} {E : Value → Shared → Prop} {i : Nat} {x : Str} {hp : Pos} {Q : Unit → Shared → Prop} (I : Inv X pins σ H s) (hN : X.N.Nodup) (hi : X.N[i]? = some x) (hk : X.env.scope.names.lookup x = some .local)
  (h : ∀ s',Inv X pins (σ.set i none) H s' → Q () s') : wpAny M A (do bindName X.env x .none; unbindBehindTheSuite X.env x hp) Q E s:=by
 obtain ⟨m,hn,hl⟩:=id I.loc
 have hcls : (X.env.scope.kind == .class || (X.env.scope.kind == .module && X.env.locals != X.env.globals)) = false:=by rw [I.ok.kind]; rfl
 refine wpAny_nameGoes_keeps hk hn hcls fun h' v hn' hs=>h _ ?_
 obtain ⟨oL,_,_,hoL,_⟩:=id hn
 have ne0 : ∀ b o,X.s₀.heap.get? b = some o → b ≠ X.env.locals:=fun b o e=>Nat.ne_of_lt (Nat.lt_of_lt_of_le (Heap.lt_size e) I.ok.above)
 refine ⟨I.ok,I.os,I.bare,⟨fun b o e n hb hx=>(hs.2 b (ne0 b o e)).trans (I.base.keep b o e n hb hx),fun b o e n hb hx=>?_,I.base.free,fun b o e hx=>?_,I.base.tups,I.base.frzs,I.base.tbls⟩,⟨_,hn',fun j y v' e1 e2 e3=>?_⟩,fun y c e=>?_,I.free,I.freeC,fun p hp=>?_,fun b ob e=>?_,by simpa using I.len⟩
 ·obtain ⟨sl,e1⟩:=I.base.slot b o e n hb hx
  exact ⟨sl,(hs.2 b (ne0 b o e)).trans e1⟩
 ·obtain ⟨o',e1⟩:=I.base.there b o e hx
  exact ⟨o',(hs.2 b (ne0 b o e)).trans e1⟩
 ·have hj : j ≠ i:=fun hj=>by
   subst hj
   have hiσ : j < σ.length:=by rw [I.len]; exact (List.getElem?_eq_some_iff.mp hi).1
   rw [List.getElem?_set_self hiσ] at e2
   cases e2
  rw [List.getElem?_set_ne (Ne.symm hj)] at e2
  obtain ⟨u',r',q⟩:=hl j y v' e1 e2 e3
  refine ⟨u',r',?_⟩
  rcases q with ⟨k,e⟩ | ⟨k,c,e,z⟩
  ·refine .inl ⟨k,?_⟩
   have : y ≠ x:=fun e=>hj (J6D hN e1 (e ▸ hi))
   simp [this,e]
  ·exact .inr ⟨k,c,e,z.sameBut hs (I.cne y c e)⟩
 ·obtain ⟨w',z⟩:=I.cell y c e
  exact ⟨w',z.sameBut hs (I.cne y c e)⟩
 ·obtain ⟨e,n,ne,nf,d⟩:=I.pin p hp
  exact ⟨(hs.2 p.1 ne).trans e,n,ne,nf,d⟩
 ·refine (I.hok b ob e).stay (fun c w' hc q=>(hs.2 c ?_).trans q) (fun _ q=>q) fun _ _ q=>q
  rintro rfl
  rcases hc with z | hc
  ·rw [← z,I.free] at e; cases e
  ·rw [I.free] at hc; cases hc
end
section
variable {X : Cx} {x m : Str} {k : Nat} {ps : List Str} {sp : Sp} {C : Addr} {p pos apos : Pos} {e o : Expr} {es : List Expr} {t : TA} {to : TE}
theorem AP.unwish {pins : List (Addr × Obj)} {σ : St} {Q : List V → Hp → Prop} {E : Value → Shared → Prop} {us : List Value} {s : Shared} (h : AP (X.wish E) pins σ Q us s) : AP X pins σ Q us s:=by
 obtain ⟨vs,H',I,r,q⟩:=h
 exact ⟨vs,H',I.unwish,r,q⟩
end
section
variable {X : Cx}
end
end L2
set_option linter.all false
set_option maxRecDepth 100000
set_option maxHeartbeats 4000000
namespace L2
open PySem PySem.Spec PyProof.Rows
theorem J4o {K : PySem.W.Frag} {C : Addr} {b : Value} {r : Bool} (e : PySem.W.mroIn K C b = some r) : (PySem.W.clsIn K C).isSome = true:=by
 unfold PySem.W.mroIn at e
 cases h : PySem.W.clsIn K C with
 | none=>rw [h] at e; cases e
 | some cd=>rfl
theorem J5w : bootBuiltins "ValueError" = some (.type "ValueError"):=by decide +kernel
section
variable {X : Cx} {K : PySem.W.Frag}
structure XIs (K : PySem.W.Frag) (C : Addr) : Prop where
 ty : XTy K C
 cls : (PySem.W.clsIn K C).isSome = true
theorem J7N {H : Hp} : ∀ {Ds : List Addr} {its : List Value},Vals (Ds.map V.ref) its → its = Ds.map Value.ref
 | [],[],_=>rfl
 | D :: Ds,u :: us,.cons r t=>by
  have e : u = .ref D:=r
  rw [e,J7N (H:=H) t]
  rfl
end
end L2
set_option linter.all false
set_option maxRecDepth 100000
set_option maxHeartbeats 4000000
namespace L2
open PySem PySem.Spec PyProof.Rows
section
variable {X : Cx} {K : PySem.W.Frag} {pins : List (Addr × Obj)} {σ : St} {H : Hp} {s : Shared} {A : Around}
inductive Jb5 (K : PySem.W.Frag) (H : Hp) : V → V → Prop
 | refs (p : Addr) : Jb5 K H (.ref p) (.ref p)
 | tups {p r : Addr} {zs ws : List V} (h1 : SqT K H p zs) (h2 : SqT K H r ws) (f1 : zs.all J09 = true) (f2 : ws.all J09 = true) (e : eqVs zs ws = true) : Jb5 K H (.ref p) (.ref r)
noncomputable def J8G (K : PySem.W.Frag) (H : Hp) (xs ys : List V) : Prop:=xs.length = ys.length ∧ ∀ (j : Nat) (x y : V),xs[j]? = some x → ys[j]? = some y → Jb5 K H x y
theorem Jao {x y : V} {u v : Value} (I : Inv X pins σ H s) (h : Jb5 X.K H x y) (r1 : RelV x u) (r2 : RelV y v) (hu : A.units < cLine) : SeqAt.EqAt A s u v true:=by
 cases h with
 | refs p=>cases r1; cases r2; exact SeqAt.EqAt.same _
 | @tups p r zs ws h1 h2 f1 f2 e =>
  cases r1; cases r2
  have q:=J9v (A:=A) I h1 h2 f1 f2 hu
  rw [e] at q
  exact q
theorem Jc5 {xs ys : List V} {ia ib : List Value} (I : Inv X pins σ H s) (h : J8G X.K H xs ys) (ra : Vals xs ia) (rb : Vals ys ib) (hu : A.units < cLine) :
  ∀ j (h1 : j < ia.toArray.size) (h2 : j < ib.toArray.size),SeqAt.EqAt A s ia.toArray[j] ib.toArray[j] true:=by
 intro j h1 h2
 have la:=ra.length
 have lb:=rb.length
 have g1 : j < ia.length:=by simpa using h1
 have g2 : j < ib.length:=by simpa using h2
 have k1:=ra.rel j (by omega) g1
 have k2:=rb.rel j (by omega) g2
 have q:=Jao (A:=A) I (h.2 j _ _ (List.getElem?_eq_getElem (by omega)) (List.getElem?_eq_getElem (by omega))) k1 k2 hu
 simpa using q
theorem JcH (n : Nat) : (List.range n).all (fun _=>true) = true:=List.all_eq_true.mpr fun _ _=>rfl
end
end L2
set_option linter.all false
set_option maxRecDepth 100000
set_option maxHeartbeats 4000000
namespace L2
open PySem PySem.Spec PyProof.Rows
section
variable {X : Cx} {K : PySem.W.Frag} {pins : List (Addr × Obj)} {σ : St} {H : Hp} {s : Shared} {A : Around}
theorem J8D (h : X.K = K) : OpR X (compareOp .In) (rIn K false):=h ▸ JbJ
end
end L2
set_option linter.all false
set_option maxRecDepth 100000
set_option maxHeartbeats 4000000
namespace L2
open PySem PySem.Spec PyProof.Rows
section
variable {X : Cx} {K : PySem.W.Frag}
end
end L2
set_option linter.all false
set_option maxRecDepth 100000
namespace L2
open PySem PySem.Spec PyProof.Rows
end L2
namespace L2
open PySem PySem.Spec PyProof.Rows
section
variable (P : Program) (w : World)
end
section
variable {P : Program} {w : World} {H H' : Hp} {h h' : Heap} {a : Addr} {o : HO}
end
section
variable {P : Program} {w : World} {H : Hp} {h h' : Heap} {x e : Addr} {o' : HO}
end
section
variable {fs fs' ex ex' : List Addr} {H H1 H2 : Hp} {h h1 h2 h' : Heap} {a x e : Addr} {o : HO}
end
end L2
namespace L2
open PySem PySem.Spec PyProof.Rows
section
variable {X : Cx} {pins : List (Addr × Obj)} {σ : List (Option V)} {H H' : Hp} {s : Shared} {h' : Heap}
end
end L2
namespace L2
open PySem PySem.Spec PyProof.Rows
section
variable {X : Cx}
variable {a b : Expr} {ta tb : TE} {pos : Pos}
variable {tA tB' : TT} {rest : List Expr}
end
end L2
namespace L2
open PySem PySem.Spec PyProof.Rows
section
variable {X : Cx} {pins : List (Addr × Obj)} {σ : St} {H : Hp} {s : Shared} {a : Addr} {xs ys : List V}
end
section
variable {X : Cx} {pins : List (Addr × Obj)} {σ : St} {H : Hp} {s : Shared} {E : Value → Shared → Prop}
end
section
variable {X : Cx} {st : Stmt} {rest : List Stmt} {t u : TS} {e : Expr} {te : TE} {pos : Pos}
end
section
variable {X : Cx} {pos : Pos}
end
section
variable {X : Cx} {pos : Pos}
end
end L2
namespace L2
open PySem PySem.Spec PyProof.Rows
section
variable {X : Cx} {tg : Expr}
end
end L2
namespace L2
open PySem PySem.Spec PyProof.Rows
section
variable {X : Cx} {a b c : Expr} {ta tb tc : TE} {pos : Pos}
end
section
variable {X : Cx} {a b c : Expr} {ta tb tc : TE} {pos : Pos}
end
end L2
namespace L2
open PySem PySem.Spec PyProof.Rows
section
variable {prog : Program} {w : World} {A : Around} {E : Value → Shared → Prop} {s : Shared} {K : PySem.W.Frag} {x dx C f : Addr} {mA : Str → Option Value} {name : Str} {v : Value}
end
section
variable {P : Program} {w : World} {H H' : Hp} {h h' : Heap} {a C dx : Addr} {fs fs' : List (Str × V)}
end
section
variable {X : Cx} {pins : List (Addr × Obj)} {σ : St} {H : Hp} {s : Shared} {a C dx : Addr} {fs : List (Str × V)} {f : Str} {v : V} {A : Around} {E : Value → Shared → Prop}
end
section
variable {X : Cx} {o e value : Expr} {f : Str} {pos pos' tpos : Pos} {ta tv : TE}
end
section
variable {X : Cx} {pins : List (Addr × Obj)} {σ : St} {H : Hp} {s : Shared} {A : Around} {E : Value → Shared → Prop} {Q : Value → Shared → Prop} {c : Value} {b : Bool}
end
end L2
namespace L2
open PySem PySem.Spec PyProof.Rows
section
variable {X : Cx} {e : Expr} {es : List Expr} {te : TE} {t : TA} {pos : Pos}
end
section
variable {X : Cx} {pins : List (Addr × Obj)} {σ : St} {H : Hp} {s s' : Shared}
end
section
variable {X : Cx} {CX : CXT} {k : Nat} {f C : Addr} {fd : FuncData} {ps : List Str} {sp : Sp} {dvs : List V} {ds : List Value} {E : XK} {x m : Str} {p pos apos : Pos} {e o : Expr} {es : List Expr} {ta : TE} {t : TA}
end
section
variable {X : Cx} {CX : CXT} {k : Nat} {f C : Addr} {fd : FuncData} {ps ks : List Str} {sp : Sp} {E : XK} {x m : Str} {p pos apos kpos : Pos} {e o : Expr} {es : List Expr} {kws : List Keyword} {te ta : TE} {t tk : TA} {nm : Option Str}
variable {g : List Value → List Value → List Value} {gV : List V → List V → List V}
end
end L2
namespace L2
open PySem PySem.Spec PyProof.Rows
section
variable {X : Cx} {x : Str} {p pos : Pos} {e : Expr} {es : List Expr} {t : TA} {id T : String} {r : List V → Hp → VK → Prop}
end
end L2
namespace L2
open PySem PySem.Spec PyProof.Rows
section
variable {κ : Type} [DecidableEq κ]
end
section
variable {P : Program} {w : World} {H : Hp} {h : Heap} {a : Addr}
end
section
variable {X : Cx} {pins : List (Addr × Obj)} {σ : St} {H : Hp} {s : Shared} {a : Addr} {y v : V} {u r : Value} {o : Option V} {A : Around} {E : Value → Shared → Prop}
end
section
variable {X : Cx} {pins : List (Addr × Obj)} {σ : St} {H : Hp} {s : Shared} {a : Addr} {kvs : List (Key × V)} {k : Key} {u : Value} {A : Around} {E : Value → Shared → Prop}
end
section
variable {X : Cx} {o i e value : Expr} {pos pos' tpos : Pos} {td ty tv : TE}
end
section
variable {X : Cx} {pos : Pos}
end
section
variable {X : Cx} {pins : List (Addr × Obj)} {σ : St} {H : Hp} {s : Shared} {a : Addr} {y d : V} {u r : Value} {o : Option V} {A : Around} {E : Value → Shared → Prop}
end
section
variable {X : Cx} {o e f : Expr} {apos cpos : Pos} {td ty tx : TE}
end
section
variable {X : Cx} {pins : List (Addr × Obj)} {σ : St} {H : Hp} {s : Shared} {a : Addr} {kvs : List (Key × V)} {A : Around} {E : Value → Shared → Prop}
end
section
variable {X : Cx} {pins : List (Addr × Obj)} {σ : St} {H : Hp} {s : Shared} {a : Addr} {y : V} {u : Value} {A : Around} {E : Value → Shared → Prop}
end
end L2
namespace Att
open PySem PySem.W PySem.Calls PyProof.Rows
section
variable {prog : Program} {w : World} {A : Around} {E : Value → Shared → Prop} {s : Shared} {K : Frag}
end
end Att
namespace L2
open PySem PySem.Spec PyProof.Rows
end L2
namespace L2
open PySem PySem.Spec PyProof.Rows
end L2
namespace L2
open PySem PySem.Spec PyProof.Rows
section
variable {P : Program} {w : World} {K : PySem.W.Frag} {mg : Str → Option Value} {base : Heap}
end
section
variable {X : Cx}
end
section
variable {κ : Type} [DecidableEq κ]
end
end L2
set_option linter.all false
set_option maxRecDepth 100000
set_option maxHeartbeats 4000000
namespace L2
open PySem PySem.Spec PyProof.Rows
section
variable {prog : Program} {w : World} {K : Type} [DecidableEq K] {knd : HeapKind prog w K} {A : Around} {E : Value → Shared → Prop} {s : Shared} {d a : Addr} {xs : List (K × Addr × Value)} {k : K} {z : Value}
end
section
variable {X : Cx} {K : PySem.W.Frag}
end
end L2
set_option linter.all false
set_option maxRecDepth 100000
set_option maxHeartbeats 4000000
namespace L2
open PySem PySem.Spec PyProof.Rows
section
variable {X : Cx} {K : PySem.W.Frag}
end
section
variable {X : Cx} {es : List Expr} {k : Nat} {tpos : Pos}
end
section
variable {elt tg iter : Expr} {ifs : List Expr} {scope : Scope} {pos : Pos} {N : List Str} {js : List (Option Nat)} {wi : TI} {g : TG} {tc : TT} {te : TE}
end
end L2
set_option linter.all false
set_option maxRecDepth 100000
set_option maxHeartbeats 4000000
namespace L2
open PySem PySem.Spec PyProof.Rows
section
variable {prog : Program} {w : World} {K : Type} [DecidableEq K] {knd : KeyKind prog w K} {A : Around} {E : Value → Shared → Prop} {s : Shared}
end
section
variable {X : Cx}
end
section
variable {X : Cx} {K : PySem.W.Frag}
theorem J6N : ∀ {v : V},J09 v = true → eqV v v = true:=fun {v} h=>by
 have:=J3m (xs:=[v]) (by simp [h])
 simpa [eqVs] using this
theorem JcB {zs : List V} (h : zs.all J09 = true) : (List.range zs.length).all (fun j=>eqV (zs.getD j .non) (zs.getD j .non)) = true:=by
 refine List.all_eq_true.mpr fun j hj=>J6N ?_
 rw [List.mem_range] at hj
 rw [List.getD_eq_getElem?_getD,List.getElem?_eq_getElem hj]
 exact List.all_eq_true.mp h _ (List.getElem_mem hj)
noncomputable def rTL (neg : Bool) : R2:=fun x y H Q=>∃ p r a l1 l2 zs,x = .ref p ∧ y = .ref r ∧ H p = some (.tup [T a,.ref l1]) ∧ H r = some (.tup [T a,.ref l2]) ∧ H l1 = some (.lst zs) ∧ H l2 = some (.lst zs) ∧ zs.all J09 = true ∧ Q (.bl (!neg)) H
theorem JfM {A : Around} {pins : List (Addr × Obj)} {s : Shared} {σ : St} {H : Hp} {a : List Nat} {l1 l2 : Addr} {zs : List V} {t1 t2 : Tok} (I : Inv X pins σ H s) (h1 : H l1 = some (.lst zs)) (h2 : H l2 = some (.lst zs)) (hz : zs.all J09 = true) (hu : A.units < cLine) :
  ∀ j (h1 : j < #[Value.str ⟨a.toArray⟩ t1,Value.ref l1].size) (h2 : j < #[Value.str ⟨a.toArray⟩ t2,Value.ref l2].size),SeqAt.EqAt A s #[Value.str ⟨a.toArray⟩ t1,Value.ref l1][j] #[Value.str ⟨a.toArray⟩ t2,Value.ref l2][j] true
 | 0,_,_=>by
  have q:=J3p (A:=A) (s:=s) (xs:=[T a]) (ys:=[T a]) (ia:=[Value.str ⟨a.toArray⟩ t1]) (ib:=[Value.str ⟨a.toArray⟩ t2]) (.cons ⟨t1,rfl⟩ .nil) (.cons ⟨t2,rfl⟩ .nil) rfl rfl 0 (by simp) (by simp)
  have e : eqV (([T a] : List V).getD 0 .non) (([T a] : List V).getD 0 .non) = true:=J6N rfl
  rw [e] at q
  exact q
 | 1,_,_=>by
  show SeqAt.EqAt A s (Value.ref l1) (Value.ref l2) true
  by_cases e : l1 = l2
  ·subst e; exact SeqAt.EqAt.same _
  ·obtain ⟨ia,ra,pa,za⟩:=I.list (SqL.of h1)
   obtain ⟨ib,rb,pb,zb⟩:=I.list (SqL.of h2)
   have la:=ra.length
   have lb:=rb.length
   have q:=SeqAt.RcAt.lists (A:=A) (e:=fun j=>eqV (zs.getD j .non) (zs.getD j .non)) pa.isList pb.isList (by simp; omega) hu (J3p ra rb hz hz)
   rw [List.size_toArray,← la,JcB hz] at q
   exact SeqAt.EqAt.of_refs e q
 | n + 2,h,_=>absurd (show n + 2 < 2 from h) (by omega)
theorem Jeb (hu : X.A.units + 1 < cLine) : OpR X (compareOp .NotEq) (rTL true):=by
 intro pins s σ H x y v u Q I rx ry h
 obtain ⟨p,r,a,l1,l2,zs,rfl,rfl,hp,hr,h1,h2,hz,q⟩:=h
 cases rx; cases ry
 obtain ⟨ia,ra,pa,za⟩:=I.tuple (SqT.of hp)
 obtain ⟨ib,rb,pb,zb⟩:=I.tuple (SqT.of hr)
 obtain ⟨w1,w2,rfl,r1,r2⟩:=ra.two
 obtain ⟨w3,w4,rfl,r3,r4⟩:=rb.two
 obtain ⟨t1,rfl⟩:=r1
 obtain ⟨t3,rfl⟩:=r3
 cases r2; cases r4
 exact SeqAt.RcNeAt.tuples (e:=fun _=>true) (show s.heap.IsTuple p _ from pa) (show s.heap.IsTuple r _ from pb) (Nat.lt_of_succ_lt hu) (JfM I h1 h2 hz (by first | exact hu | exact Nat.lt_of_succ_lt hu)) _ _ _ _ ⟨.bl _,H,I,rfl,q⟩
end
section
variable {X : Cx}
end
section
variable {X : Cx}
theorem JaG : J2n X (.builtin "isinstance") (fun xs H Q=>∃ p ys,xs = [.ref p,.ty "list"] ∧ H p = some (.lst ys) ∧ Q (.bl true) H):=by
 intro pins s σ H xs us Q I r h
 obtain ⟨p,ys,rfl,hp,q⟩:=h
 obtain ⟨u,v,rfl,r1,r2⟩:=r.two
 cases r1; cases r2
 obtain ⟨_,its,_,_,h1⟩:=I.hok p _ hp
 exact PySem.W.kia_one PySem.W.kitx_list I.kIn ⟨_,h1,rfl⟩ (by rfl) (fun z=>nomatch z) fun tk=>⟨.bl true,H,I.tok _,rfl,q⟩
end
end L2
set_option linter.all false
set_option maxRecDepth 100000
set_option maxHeartbeats 4000000
namespace L2
open PySem PySem.Spec PyProof.Rows
section
variable {p : Program} {w : World} {A : Around} {R : Result → Shared → Prop} {it bst : Addr} {fp wr : List Addr} {n : Nat} {G : Nat → Value → Prop} {St : Nat → Heap → Prop} {bt : Nat → Nat → Bool} {kw : List (Str × Value)}
end
section
variable {p : Program} {w : World} {A : Around} {E : Value → Shared → Prop} {s : Shared} {l : Addr} {xs : Array (Int × Tok)} {Q : Value → Shared → Prop} {d : Value}
end
section
variable {X : Cx} {K : PySem.W.Frag}
end
end L2
set_option linter.all false
set_option maxRecDepth 100000
set_option maxHeartbeats 4000000
namespace L2
open PySem PySem.Spec PyProof.Rows
open Builtin Builtin.Str
section
variable {prog : Program} {w : World} {A : Around} {E : Value → Shared → Prop} {s : Shared}
end
end L2
set_option linter.all false
set_option maxRecDepth 100000
set_option maxHeartbeats 4000000
namespace L2
open PySem PySem.Spec PyProof.Rows
section
variable {κ : Type} [DecidableEq κ]
end
section
variable {p : Program} {w : World} {A : Around} {R : Result → Shared → Prop} {it : Addr} {fp wr : List Addr} {gs : Array GenState → Array GenState → Prop} {n : Nat} {Pv : Nat → Value → Prop} {St : Nat → Shared → Prop}
end
section
variable {p : Program} {w : World} {A : Around} {E : Value → Shared → Prop} {s : Shared}
end
section
variable {X : Cx}
end
end L2
set_option linter.all false
set_option maxRecDepth 100000
namespace L2
open PySem PySem.Spec PyProof.Rows
section
variable {X : Cx}
end
end L2
set_option linter.all false
set_option maxRecDepth 100000
set_option maxHeartbeats 4000000
namespace L2
open PySem PySem.Spec PyProof.Rows
section
variable {X : Cx}
end
end L2
set_option linter.all false
set_option maxRecDepth 100000
set_option maxHeartbeats 4000000
namespace L2
open PySem PySem.Spec PyProof.Rows
section
variable {X : Cx} {K : PySem.W.Frag} {pins : List (Addr × Obj)} {σ : St} {H : Hp} {s : Shared} {A : Around}
end
end L2
namespace L2
open PySem
theorem JeP {A : Around} {k : Nat} (hr : Room k A) : A.units + 2 < cLine:=Nat.lt_of_le_of_lt (Nat.add_le_add_left (by decide : 2 ≤ 64) _) hr.units
end L2
set_option linter.all false
set_option maxRecDepth 100000
set_option maxHeartbeats 4000000
namespace L2
open PySem PySem.Spec PyProof.Rows
theorem J9u : ∀ (n : Nat) (us : List Value),us.length = n → (∀ (j : Nat) (v : Value),us[j]? = some v → ∃ t,v = .int (j : Int) t) → ∀ k,k ≤ n → Vals ((List.range k).map fun (i : Nat)=>V.int (i : Int)) (us.take k)
 | n,us,hl,h,0,_=>by
  rw [List.take_zero]
  exact .nil
 | n,us,hl,h,k + 1,hk=>by
  have ih:=J9u n us hl h k (by omega)
  have hkl : k < us.length:=by omega
  obtain ⟨t,e⟩:=h k us[k] (List.getElem?_eq_getElem hkl)
  rw [List.range_succ,List.map_append,List.take_add_one,List.getElem?_eq_getElem hkl,e]
  exact ih.append (.cons ⟨t,rfl⟩ .nil)
section
variable {X : Cx}
theorem J9K : J2n X (.type "range") (fun xs H Q=>∃ j : Int,xs = [.int j] ∧ ∀ p,H p = none → Q (.ref p) (upd H p (.rng 0 j))):=by
 intro pins s σ H xs us Q I r h
 obtain ⟨j,rfl,q⟩:=h
 obtain ⟨u,rfl,t,rfl⟩:=J9C r
 have hf : H s.heap.objs.size = none:=I.hok.fresh (Nat.le_refl _)
 refine call_range_1 ⟨.ref _,upd H s.heap.objs.size (.rng 0 j),I.laid (fun b u e=>Heap.get?_push_of_some _ e) (Nat.le_refl _) ?_,rfl,q _ hf⟩
 exact ⟨_,_,_,Heap.get?_push_size _ rfl⟩
theorem JaC (hc : X.calm = true) : J2n X (.type "list") (fun xs H Q=>∃ (p : Addr) (j : Int),xs = [.ref p] ∧ H p = some (.rng 0 j) ∧ 0 ≤ j ∧ j ≤ 1000 ∧ ∀ l,H l = none → Q (.ref l) (upd H l (.lst ((List.range j.toNat).map fun (i : Nat)=>V.int (i : Int))))):=by
 intro pins s σ H xs us Q I r h
 obtain ⟨p,j,rfl,hp,j0,j1,q⟩:=h
 obtain ⟨u,rfl,rx⟩:=J9C r
 cases rx
 obtain ⟨t,u,v,e⟩:=I.hok p _ hp
 have hf : H s.heap.objs.size = none:=I.hok.fresh (Nat.le_refl _)
 refine call_list_range (n:=j.toNat) (I.ok.hd hc) e (small_one (by decide) (by decide) (by omega) (by omega)) ?_ ?_ fun h' tk acc' c' hk hS hacc=>?_
 ·rw [rangeSize_one]
  split <;> omega
 ·have : (1000 : Nat) ≤ 2 ^ 24:=by decide
  omega
 ·refine ⟨.ref _,upd H s.heap.objs.size (.lst _),I.laid hk (Nat.le_refl _) ⟨?_,acc'.toList,c',?_,?_⟩,rfl,q _ hf⟩
  ·rw [List.length_map,List.length_range]
   have : (1000 : Nat) ≤ sizeLine:=by decide
   omega
  ·have k:=J9u j.toNat acc'.toList (by rw [Array.length_toList]; exact hacc.1) (fun i v hv=>by
    rw [Array.getElem?_toList] at hv
    obtain ⟨t,et⟩:=hacc.2 i v hv
    exact ⟨t,by rw [et]; congr 1; omega⟩) j.toNat (Nat.le_refl _)
   rw [List.take_of_length_le (by rw [Array.length_toList,hacc.1]; exact Nat.le_refl _)] at k
   exact k
  ·rw [hS]
theorem J9A : bootBuiltins "range" = some (.type "range"):=by decide +kernel
end
end L2
set_option linter.all false
set_option maxRecDepth 100000
set_option maxHeartbeats 4000000
namespace L2
open PySem PySem.Spec PyProof.Rows
section
variable {X : Cx} {K : PySem.W.Frag}
end
end L2
set_option linter.all false
set_option maxRecDepth 100000
set_option maxHeartbeats 4000000
namespace L2
open PySem PySem.Spec PyProof.Rows
structure FlD (B : Heap) (l : List Env) (e : Addr) (c a0 : Value) (d : Option Addr) (fl : Value) (h : Heap) : Prop where
 st : B.StaysIn h
 nw : B.get? e = none
 fr : h.FunFrames B l
 tr : ∃ (oe : Obj) (vs : Array Value) (T : Addr) (oT : Obj) (ts : Array Value),h.get? e = some oe ∧ oe.cls = c ∧ oe.dict = d ∧ oe.data = .fields vs ∧ vs[0]? = some a0 ∧ vs[1]? = some (.ref T) ∧ B.get? T = none ∧ T ≠ e ∧ h.get? T = some oT ∧ oT.data = .fields ts ∧ ts[3]? = some fl
theorem FlD.at {B h : Heap} {l : List Env} {e : Addr} {c a0 fl : Value} {d : Option Addr} (x : FlD B l e c a0 d fl h) : ∃ o vs,h.get? e = some o ∧ o.cls = c ∧ o.dict = d ∧ o.data = .fields vs:=by
 obtain ⟨_,_,_,oe,vs,_,_,_,y1,y2,y3,y4,_⟩:=x
 exact ⟨oe,vs,y1,y2,y3,y4⟩
theorem Jcv (o : Obj) (f : Array Value → Array Value) : (Obj.mapFields f o).dict = o.dict:=by
 obtain ⟨c,d,da,sl⟩:=o
 cases da <;> rfl
section
variable {M : Model} {A : Around} {E : Value → Shared → Prop} {s : Shared} {B : Heap} {env : Env} {outer l : List Env} {L e : Addr} {c a0 fl : Value} {d : Option Addr} {Q : Unit → Shared → Prop}
theorem J9R {oe : Obj} {vs : Array Value} {hd : Value} {nx : Bool} (hA : A.frames = some (env :: outer)) (hF : s.heap.FunFrames B (env :: outer)) (hL : env.frame = some L) (st : B.StaysIn s.heap) (nw : B.get? e = none)
  (ge : s.heap.get? e = some oe) (dt : oe.data = .fields vs) (sz : 1 < vs.size) (z : vs[0]? = some a0) (q : ∀ h',FlD B (env :: outer) e oe.cls a0 oe.dict (rawInt L) h' → s.heap.UpToSlots h' → Q () { s with heap:=h' }) :
  wpAny M A (do let x ← frameOf env; let p ← entryPlaceOf L nx; let y ← EntryCells.newEntry hd x .none (rawInt L) .none p; setField (.ref e) 1 y) Q E s:=by
 have nf : e ∉ (env :: outer).filterMap (·.frame):=fun m=>by
  obtain ⟨_,o,go,no⟩:=hF.mem m
  rw [ge] at go
  cases go
  exact no vs dt
 refine wpAny_bind (wpAny_frameOf_fun hA hF hL fun h1 k1=>wpAny_bind (wpAny_entryPlaceOf fun p ip=>?_))
 unfold EntryCells.newEntry newFields
 refine wpAny_bind (wpAny_newObj_type ?_ (ip.sizeOk5 _ _ _ _ _))
 generalize eo : ({ cls:=.type "traceback",dict:=none,data:=.fields ([hd,.ref L,.none,rawInt L,.none] ++ (if p.isEmpty then List.replicate 6 Value.none else p)).toArray } : Obj) = oT
 have g1 : h1.get? e = some oe:=(k1.2.1 e nf).trans ge
 have sB : B.StaysIn h1:=fun b o gb=>(k1.2.1 b fun m=>by rw [(hF.mem m).1] at gb; cases gb).trans (st b o gb)
 have g2 : (h1.push oT).get? e = some oe:=Heap.get?_push_of_some oT g1
 refine wpAny_setField g2 dt sz (q _ ?_ ?_)
 ·have ne : h1.objs.size ≠ e:=Nat.ne_of_gt (Heap.lt_size g1)
  have dm:=Obj.data_mapFields dt (·.setIfInBounds 1 (Value.ref h1.objs.size))
  have g3:=Heap.get?_update_self (Obj.mapFields (·.setIfInBounds 1 (Value.ref h1.objs.size))) g2 (Obj.isFreed_of_fields dm)
  have fT : oT.isFreed = false:=by rw [← eo]; rfl
  have gT:=(Heap.get?_update_other (h1.push oT) (Obj.mapFields (·.setIfInBounds 1 (Value.ref h1.objs.size))) (Ne.symm ne)).trans (Heap.get?_push_size h1 fT)
  have kp : ∀ b o,b ≠ e → h1.get? b = some o → ((h1.push oT).update e (Obj.mapFields (·.setIfInBounds 1 (Value.ref h1.objs.size)))).get? b = some o:=fun b o nb gb =>
   (Heap.get?_update_other _ _ (Ne.symm nb)).trans (Heap.get?_push_of_some _ gb)
  refine ⟨fun b o gb=>kp b o (fun z=>by rw [z,nw] at gb; cases gb) (sB b o gb),nw,hF.of_keeps fun b o gb nb=>?_,_,_,h1.objs.size,_,_,g3,Obj.cls_mapFields _ _,Jcv _ _,dm,?_,?_,sB.fresh,ne,gT,by rw [← eo],?_⟩
  ·obtain ⟨sl,gs⟩:=k1.2.2 b o gb
   exact ⟨_,kp b _ (fun z=>by rw [z,ge] at gb; cases gb; exact nb vs dt) gs,rfl⟩
  ·rw [Array.getElem?_setIfInBounds_ne (by decide)]
   exact z
  ·simp [sz]
  ·first | (simp; done) | (rcases ip with rfl | ⟨_,_,_,_,_,_,_,rfl⟩ <;> simp)
 ·intro b o gb nb
  obtain ⟨sl,gs⟩:=k1.2.2 b o gb
  exact ⟨sl,(Heap.get?_update_other _ _ (fun z=>by rw [← z,ge] at gb; cases gb; exact nb vs dt)).trans (Heap.get?_push_of_some _ gs)⟩
theorem JcC {oe : Obj} {vs : Array Value} (hA : A.frames = some (env :: outer)) (hF : s.heap.FunFrames B (env :: outer)) (hL : env.frame = some L) (st : B.StaysIn s.heap) (nw : B.get? e = none)
  (ge : s.heap.get? e = some oe) (dt : oe.data = .fields vs) (o1 : vs[1]? = some .none) (z : vs[0]? = some a0) (q : ∀ h',FlD B (env :: outer) e oe.cls a0 oe.dict (rawInt L) h' → s.heap.UpToSlots h' → Q () { s with heap:=h' }) :
  wpAny M A (noteFrame (.ref e) env) Q E s:=by
 unfold noteFrame
 simp only [hL]
 refine wpAny_bind (wpAny_field ge dt o1 ?_)
 rw [if_neg (by decide)]
 exact J9R hA hF hL st nw ge dt (Array.getElem?_eq_some_iff.mp o1).1 z q
theorem J9q (hA : A.frames = some (env :: outer)) (hL : env.frame = some L) (x : FlD B (env :: outer) e c a0 d .none s.heap) (q : ∀ h',FlD B (env :: outer) e c a0 d (rawInt L) h' → s.heap.UpToSlots h' → Q () { s with heap:=h' }) :
  wpAny M A (noteFrame (.ref e) env) Q E s:=by
 obtain ⟨x1,x2,x3,oe,vs,T,oT,ts,y1,rfl,rfl,y4,y5,y6,y7,y8,y9,y10,y11⟩:=x
 unfold noteFrame
 simp only [hL]
 refine wpAny_bind (wpAny_field y1 y4 y6 ?_)
 rw [if_pos (show (Value.ref T != Value.none) = true from by simp)]
 refine wpAny_bind (wpAny_field y9 y10 y11 ?_)
 rw [if_neg (show ¬ ((Value.none == rawInt L) = true) from by simp [rawInt])]
 refine wpAny_bind (wpAny_setField y9 y10 (Array.getElem?_eq_some_iff.mp y11).1 ?_)
 have ot : ∀ b,b ≠ T → (s.heap.update T (Obj.mapFields (·.setIfInBounds 3 Value.none))).get? b = s.heap.get? b:=fun b nb=>Heap.get?_update_other _ _ (Ne.symm nb)
 have nr : ∀ b o,s.heap.get? b = some o → (∀ vs,o.data ≠ .fields vs) → b ≠ T:=fun b o gb nb z=>by
  rw [z,y9] at gb
  cases gb
  exact nb ts y10
 refine J9R hA (x3.of_keeps fun b o gb nb=>⟨o,(ot b (nr b o gb nb)).trans gb,rfl⟩) hL (fun b o gb=>(ot b fun z=>by rw [z,y7] at gb; cases gb).trans (x1 b o gb)) x2 ((ot e (Ne.symm y8)).trans y1) y4 (Array.getElem?_eq_some_iff.mp y6).1 y5 fun h' z1 z2=>?_
 exact q h' z1 fun b o gb nb=>z2 b o ((ot b (nr b o gb nb)).trans gb) nb
theorem J8C (x : FlD B l e c a0 d fl s.heap) (q : ∀ h',FlD B l e c a0 d .none h' → s.heap.UpToSlots h' → Q () { s with heap:=h' }) : wpAny M A (setFlight (.ref e) none) Q E s:=by
 obtain ⟨x1,x2,x3,oe,vs,T,oT,ts,y1,y2,y3,y4,y5,y6,y7,y8,y9,y10,y11⟩:=x
 have i3 : 3 < ts.size:=(Array.getElem?_eq_some_iff.mp y11).1
 unfold setFlight
 refine wpAny_bind (wpAny_field y1 y4 y6 ?_)
 rw [if_pos (show (Value.ref T != Value.none) = true from by simp)]
 refine wpAny_setField y9 y10 i3 ?_
 generalize ef : (fun v : Array Value=>v.setIfInBounds 3 ((none : Option Addr).elim Value.none fun f=>rawInt f)) = f
 have ot : ∀ b,b ≠ T → (s.heap.update T (Obj.mapFields f)).get? b = s.heap.get? b:=fun b nb=>Heap.get?_update_other _ _ (Ne.symm nb)
 have nr : ∀ b o,s.heap.get? b = some o → (∀ vs,o.data ≠ .fields vs) → b ≠ T:=fun b o gb nb z=>by
  rw [z,y9] at gb
  cases gb
  exact nb ts y10
 refine q _ ⟨fun b o gb=>(ot b fun z=>by rw [z,y7] at gb; cases gb).trans (x1 b o gb),x2,x3.of_keeps fun b o gb nb=>⟨o,(ot b (nr b o gb nb)).trans gb,rfl⟩,oe,vs,T,_,_,(ot e (Ne.symm y8)).trans y1,y2,y3,y4,y5,y6,y7,y8,
  Heap.get?_update_self _ y9 (Obj.isFreed_of_fields (Obj.data_mapFields y10 _)),Obj.data_mapFields y10 _,?_⟩ fun b o gb nb=>⟨o.slots,(ot b (nr b o gb nb)).trans gb⟩
 rw [← ef]
 simp [i3]
theorem JcU (hA : A.frames = some (env :: outer)) (hL : env.frame = some L) (x : FlD B (env :: outer) e c a0 d .none s.heap) (q : ∀ h',FlD B outer e c a0 d .none h' → s.heap.UpToSlots h' → Q () { s with heap:=h' }) :
  wpAny M A (leaving env (.ref e)) Q E s:=by
 unfold leaving
 refine wpAny_bind (J9q hA hL x fun h1 x1 u1=>J8C (s:={ s with heap:=h1 }) x1 fun h2 x2 u2=>q h2 ⟨x2.st,x2.nw,x2.fr.2.2,x2.tr⟩ (u1.trans u2))
theorem J7K {oe : Obj} {vs : Array Value} (hA : A.frames = some (env :: outer)) (hF : s.heap.FunFrames B (env :: outer)) (hL : env.frame = some L) (st : B.StaysIn s.heap) (nw : B.get? e = none)
  (ge : s.heap.get? e = some oe) (dt : oe.data = .fields vs) (o1 : vs[1]? = some .none) (z : vs[0]? = some a0) (q : ∀ h',FlD B outer e oe.cls a0 oe.dict .none h' → s.heap.UpToSlots h' → Q () { s with heap:=h' }) :
  wpAny M A (leaving env (.ref e)) Q E s:=by
 unfold leaving
 refine wpAny_bind (JcC hA hF hL st nw ge dt o1 z fun h1 x1 u1=>J8C (s:={ s with heap:=h1 }) x1 fun h2 x2 u2=>q h2 ⟨x2.st,x2.nw,x2.fr.2.2,x2.tr⟩ (u1.trans u2))
end
end L2
set_option linter.all false
set_option maxRecDepth 100000
set_option maxHeartbeats 4000000
namespace L2
open PySem PySem.Spec PyProof.Rows
noncomputable def xinB (K : PySem.W.Frag) (C : Addr) : Bool:=match K.lookup C with
 | some ⟨.type "type",_,.cls cd,sl⟩=>(match cd.mro,sl.toList with
  | .ref C' :: bm,[_,_,_,_,some (.builtin n),_]=>C' == C && n == "ValueError.__new__" && !cd.hasDel && PySem.W.tailIn K J3A bm && cd.hasDict
  | _,_=>false)
 | _=>false
noncomputable def Jb7 : List Value → Bool
 | .ref _ :: r=>Jb7 r
 | l=>l == J3A
structure XIn (K : PySem.W.Frag) (C : Addr) : Prop where
 b : xinB K C = true
 over : (PySem.W.clsIn K C).any (fun cd=>Jb7 cd.mro) = true
 sa : PySem.W.findIn K (.ref C) "__setattr__" = some (some (.builtin "object.__setattr__"))
 ob : PySem.W.mroIn K C (.type "object") = some true
 hd : PySem.W.hasDictIn K C = true
 kp : PySem.W.keepIn K (.ref C) = true
theorem XIn.at {K : PySem.W.Frag} {C : Addr} {h : Heap} (q : XIn K C) (X : K.In h) :
  ∃ bm N nm q bs hdct sn sub ab col dd k0 k1 k2 k3 k5,h.get? C = some (excClassObj nm q C N bs bm hdct sn sub ab col dd k0 k1 k2 k3 k5 "ValueError.__new__") ∧ OwnTail h J3A bm:=by
 have q:=q.b
 unfold xinB at q
 split at q
 ·rename_i dd cd sl lk
  split at q
  ·rename_i C' bm k0 k1 k2 k3 n k5 em es
   simp only [Bool.and_eq_true,beq_iff_eq,Bool.not_eq_true'] at q
   obtain ⟨⟨⟨⟨rfl,rfl⟩,nd⟩,tl⟩,_⟩:=q
   obtain ⟨c1,c2,c3,c4,c5,c6,c7,c8,c9,c10,c11⟩:=cd
   obtain ⟨ll⟩:=sl
   dsimp only at em nd es
   subst em nd es
   exact ⟨bm,c4,c1,c5,c2,c6,c7,c8,c9,c10,dd,k0,k1,k2,k3,k5,X _ _ lk,PySem.W.tail_of_in X tl⟩
  ·cases q
 ·cases q
theorem J5F (self : Value) : ∀ {l : List Value},Jb7 l = true → refuseLoop self "__setattr__" l = pure ()
 | .ref c :: r,e=>by rw [refuseLoop_ref]; exact J5F self e
 | [],e=>by cases e
 | .type n :: r,e=>by rw [beq_iff_eq.mp e]; exact PySem.F.store_ValueError.passes self
 | .none :: r,e=>by rw [beq_iff_eq.mp e]; exact PySem.F.store_ValueError.passes self
 | .bool _ :: r,e=>by rw [beq_iff_eq.mp e]; exact PySem.F.store_ValueError.passes self
 | .int _ _ :: r,e=>by rw [beq_iff_eq.mp e]; exact PySem.F.store_ValueError.passes self
 | .float _ _ :: r,e=>by rw [beq_iff_eq.mp e]; exact PySem.F.store_ValueError.passes self
 | .str _ _ :: r,e=>by rw [beq_iff_eq.mp e]; exact PySem.F.store_ValueError.passes self
 | .bytes _ _ :: r,e=>by rw [beq_iff_eq.mp e]; exact PySem.F.store_ValueError.passes self
 | .builtin _ :: r,e=>by rw [beq_iff_eq.mp e]; exact PySem.F.store_ValueError.passes self
noncomputable abbrev xobj (C t : Addr) (d : Option Addr) : Obj:={ cls:=.ref C,dict:=d,data:=.fields #[.ref t,.none,.none,.none,.bool false,.none] }
noncomputable def XN (e C t : Addr) (d : Option Addr) : HO:=.ext fun h=>h.get? e = some (xobj C t d)
theorem XN.ok {P : Program} {w : World} {H : Hp} {h : Heap} {e C t : Addr} {d : Option Addr} (g : h.get? e = some (xobj C t d)) : J1X P w H h e (XN e C t d):=⟨g,⟨_,g⟩,fun _ _ g k=>k _ g⟩
theorem XN.at {P : Program} {w : World} {H : Hp} {h : Heap} {e C t : Addr} {d : Option Addr} (x : J1X P w H h e (XN e C t d)) : h.get? e = some (xobj C t d):=x.1
section
variable {prog : Program} {w : World} {A : Around} {E : Value → Shared → Prop} {h : Heap} {g : Array GenState} {d : Drawn} {t : Nat} {os : OsState}
variable {nm q : Str} {C N : Addr} {bs bm : List Value} {hdct : Bool} {sn : List Str} {sub : List Value} {ab : Bool} {col : Option Bool} {dd : Option Addr} {k0 k1 k2 k3 k5 : Option Value}
noncomputable abbrev argO (us : List Value) : Obj:={ cls:=.type "tuple",data:=.seq us.toArray }
theorem Je2 {us : List Value} {f : Addr} {Q : Fin → Shared → Prop} (gC : h.get? C = some (excClassObj nm q C N bs bm hdct sn sub ab col dd k0 k1 k2 k3 k5 "ValueError.__new__")) (T : OwnTail h J3A bm)
  (hi : PySem.W.Looks (model prog w) h (typeLookup (.ref C) "__init__") (some (.ref f))) (hb : ∀ v,PySem.W.Looks (model prog w) h (bindSpecial (.ref f) v) (.ref f,[v])) (hl : us.length ≤ sizeLine)
  (hq : wpAny (model prog w) A (call (.ref f) (.ref (h.objs.size + 1) :: us)) (fun r s'=>r = .none ∧ Q (.done (.ret (.ref (h.objs.size + 1)))) s') E ⟨(h.push (argO us)).push (xobj C h.objs.size none),g,d,t,os⟩) :
  wpAny (model prog w) A (Builtin.«type.__call__» ⟨.ref C :: us,[]⟩) Q E ⟨h,g,d,t,os⟩:=by
 have F:=PySem.F.excBase_ValueError
 repeat (first | with_reducible refine wpAny_loadPart_at gC ?_ | with_reducible refine wpAny_madeBy_exc gC ?_ | wp_step)
 refine codeAny_call_builtin_code (Code.quiet_builtin _ F.quiet) (wpAny_check_new_subT F T gC (codeAny_exc_new_subT F T gC ?_ hl))
 show wpAny _ _ _ _ _ _
 have k : ∀ b o,h.get? b = some o → ((h.push (argO us)).push (xobj C h.objs.size none)).get? b = some o:=fun b o e=>Heap.get?_push_of_some _ (Heap.get?_push_of_some _ e)
 have ge : ((h.push (argO us)).push (xobj C h.objs.size none)).get? (h.objs.size + 1) = some (xobj C h.objs.size none):=by heap_get
 have gC1:=k _ _ gC
 have mC : (Value.ref C :: bm).contains (.ref C) = true:=by simp
 have i1:=hi.keeps k
 have b1:=(hb (.ref (h.objs.size + 1))).keeps k
 unfold isInstance
 repeat (first | with_reducible refine wpAny_loadPart_at ge ?_ | (with_reducible refine wpAny_isSubtype_exc gC1 ?_; rw [mC]) | wp_step)
 refine i1.at (wpAny_holding (wpAny_bind (b1.at (wpAny_bind (wpAny_mono hq (fun r s' hr=>?_) fun _ _ x=>x)))))
 obtain ⟨rfl,z⟩:=hr
 wp_walk
 exact z
theorem JdK {us : List Value} {f : Addr} {Q : Value → Shared → Prop} (gC : h.get? C = some (excClassObj nm q C N bs bm hdct sn sub ab col dd k0 k1 k2 k3 k5 "ValueError.__new__")) (T : OwnTail h J3A bm)
  (hi : PySem.W.Looks (model prog w) h (typeLookup (.ref C) "__init__") (some (.ref f))) (hb : ∀ v,PySem.W.Looks (model prog w) h (bindSpecial (.ref f) v) (.ref f,[v])) (hl : us.length ≤ sizeLine)
  (hq : wpAny (model prog w) (A.under (.builtin "type.__call__" ⟨.ref C :: us,[]⟩)) (call (.ref f) (.ref (h.objs.size + 1) :: us)) (fun r s'=>r = .none ∧ Q (.ref (h.objs.size + 1)) s') E ⟨(h.push (argO us)).push (xobj C h.objs.size none),g,d,t,os⟩) :
  wpAny (model prog w) A (call (.ref C) us) Q E ⟨h,g,d,t,os⟩:=by
 have l1:=tc_lookup
 have l2:=tc_bind (.ref C)
 have ty : (⟨h,g,d,t,os⟩ : Shared).TypeIs (.ref C) "type":=⟨_,gC,rfl⟩
 refine wpAny_call (codeAny_of_tree ?_)
 show wpAny _ _ (callAny (.ref C) _) _ _ _
 repeat (any_goals (first | assumption | with_reducible refine wpAny_loadPart_at gC ?_ | wp_step))
 exact ⟨rfl,codeAny_call_builtin_at (Code.quiet_builtin _ (by decide +kernel)) entry_typeCall (wpAny_check_type_call_sub gC (Je2 gC T hi hb hl hq))⟩
theorem JdO {s : Shared} {env : Env} {x : Sem Value} {Q : Flow → Shared → Prop} (hh : A.handled = none)
  (hx : wpAny (model prog w) A x (fun v s1=>∃ (e C t : Addr) (d : Option Addr) (K : PySem.W.Frag),v = .ref e ∧ K.In s1.heap ∧ XIn K C ∧ s1.heap.get? e = some (xobj C t d) ∧ E (.ref e) s1) E s) :
  wpAny (model prog w) A (raiseStmt env (some x) none) Q E s:=by
 unfold raiseStmt
 refine wpAny_bind (wpAny_mono hx (fun v s1 z=>?_) fun _ _ x=>x)
 obtain ⟨e,C,t,d,K,rfl,X,XI,ge,z⟩:=z
 obtain ⟨bm,N,nm,q,bs,hdct,sn,sub,ab,col,dd,k0,k1,k2,k3,k5,gC,T⟩:=XI.at X
 obtain ⟨hp,g,dr,tk,os⟩:=s1
 have mB : (Value.ref C :: bm).contains (.type "BaseException") = true:=by rw [List.contains_cons,T.hasType (b:=true) (by decide +kernel),Bool.or_true]
 repeat (first | with_reducible refine wpAny_loadPart_at ge ?_ | with_reducible refine wpAny_loadPart_at gC ?_ | (with_reducible refine wpAny_isSubtype_exc gC ?_; rw [mB]) | wp_step)
 exact wpAny_raiseNew_none hh z
end
end L2
set_option linter.all false
set_option maxRecDepth 100000
set_option maxHeartbeats 4000000
namespace L2
open PySem PySem.Spec PyProof.Rows PySem.Builtin PySem.Builtin.ObjectAttr
noncomputable def XDt (dx : Addr) (fs : List (Str × V)) : HO:=.ext fun h=>fs.length ≤ 1000 ∧ ∃ mA,h.Ns1 dx mA ∧ (∀ f,RelO (fs.lookup f) (mA f)) ∧ PySem.Within mA (fs.map (·.1))
theorem XDt.ok {P : Program} {w : World} {H : Hp} {h : Heap} {dx : Addr} {fs : List (Str × V)} {mA : Str → Option Value} (l : fs.length ≤ 1000) (n : h.Ns1 dx mA) (r : ∀ f,RelO (fs.lookup f) (mA f)) (wi : PySem.Within mA (fs.map (·.1))) : J1X P w H h dx (XDt dx fs) :=
 ⟨⟨l,mA,n,r,wi⟩,(let ⟨o,_,_,e,_⟩:=n; ⟨o,e⟩),fun _ _ ⟨l,mA,n,r,wi⟩ k=>⟨l,mA,n.at k,r,wi⟩⟩
theorem XDt.at {P : Program} {w : World} {H : Hp} {h : Heap} {dx : Addr} {fs : List (Str × V)} (x : J1X P w H h dx (XDt dx fs)) : fs.length ≤ 1000 ∧ ∃ mA,h.Ns1 dx mA ∧ (∀ f,RelO (fs.lookup f) (mA f)) ∧ PySem.Within mA (fs.map (·.1)):=x.1
section
variable {prog : Program} {w : World} {A : Around} {R : Result → Shared → Prop} {E : Value → Shared → Prop} {s : Shared} {K : PySem.W.Frag} {x C : Addr} {f : Str} {v : Value}
theorem Jbq {ox : Obj} {od : Option Obj} {tk : Tok} (X : K.In s.heap) (I : PySem.W.InstAt s.heap x ox C od) (hx : XIn K C) (ht : JT K C f)
  (h : wpAny (model prog w) A.in1 (storeInOwnDict (.ref x) (.ref C) (.str f tk) f v false) (fun fin s'=>match fin with | .done r=>R (.ok r) s' | .again c'=>c'.quiet = true ∧ codeAny (model prog w) A c' R s') (fun e s'=>R (.error e) s') s) :
  codeAny (model prog w) A (.call (.builtin "object.__setattr__") ⟨[.ref x,.str f tk,v],[]⟩) R s:=by
 have SF:=PySem.F.store_object
 obtain ⟨cd,ec,eo⟩:=PySem.W.any_some hx.over
 have li : PySem.W.Looks (model prog w) s.heap (isInstance (.ref x) (.type "object")) true:=I.type.andThen (PySem.W.looks_mroIn X hx.ob)
 have lm : PySem.W.Looks (model prog w) s.heap (mroOf (.ref C)) cd.mro:=(PySem.W.looks_clsIn X ec).andThen .now
 refine codeAny_call_builtin SF.slot.plain SF.entry (@PySem.W.check_slot (model prog w) _ _ s "object.__setattr__" "object" "__setattr__" (.ref x) [.str f tk,v] [] _ SF.kind SF.split li (SF.args (.ref x) (.str f tk) v) ?_)
 rw [PySem.W.osa_eq,refuse_eq]
 refine wpAny_bind (wpAny_bind (I.type.here (wpAny_bind (lm.here ?_))))
 rw [J5F _ eo]
 exact wpAny_pure (wpAny_bind (I.type.here (wpAny_bind ((PySem.W.looks_findIn X ht).here (wpAny_bind (wpAny_pure h))))))
end
section
variable {X : Cx} {pins : List (Addr × Obj)} {σ : St} {H : Hp} {s : Shared} {e C t dx : Addr} {f : Str} {v : V} {u : Value} {A : Around} {E : Value → Shared → Prop} {Q : Unit → Shared → Prop}
theorem JaR (I : Inv X pins σ H s) (he : H e = some (XN e C t none)) (hx : XIn X.K C) (ht : JT X.K C f) (ru : RelV v u)
  (q : ∀ s' dx,H dx = none → dx ≠ e → Inv X pins σ (upd (upd (upd H dx (XDt dx [])) e (XN e C t (some dx))) dx (XDt dx [(f,v)])) s' → Q () s') : wpAny (model X.prog X.w) A (setAttr (.ref e) f u) Q E s:=by
 have ge:=XN.at (I.hok e _ he)
 have J : PySem.W.InstAt s.heap e (xobj C t none) C none:=⟨ge,rfl,rfl,trivial⟩
 refine PySem.W.set_plain I.kIn J hx.sa (Jbq (s:={ s with toks:=s.toks + 1 }) I.kIn J hx ht ?_)
 obtain ⟨cd,ec,eh⟩:=PySem.W.any_some hx.hd
 have fr : H s.heap.objs.size = none:=I.hok.fresh (Nat.le_refl _)
 have ne : s.heap.objs.size ≠ e:=fun z=>by rw [z,he] at fr; cases fr
 refine wpAny_bind (wpAny_pure (wpAny_bind (wpAny_bind (wpAny_loadPart ge (wpAny_bind (PySem.W.Looks.here (s:={ s with toks:=s.toks + 1 }) (PySem.W.looks_clsIn I.kIn ec) ?_))))))
 rw [eh]
 have k1 : ∀ b o,s.heap.get? b = some o → (s.heap.push PySem.W.emptyDict).get? b = some o:=fun b o z=>Heap.get?_push_of_some _ z
 have gd : (s.heap.push PySem.W.emptyDict).get? s.heap.objs.size = some PySem.W.emptyDict:=Heap.get?_push_size s.heap rfl
 have nd : (s.heap.push PySem.W.emptyDict).Ns1 s.heap.objs.size fun _=>none:=Heap.Ns1.of_empty ⟨PySem.W.emptyDict,#[],_,gd,rfl,(fun e he=>absurd he (by simp)),fun _=>rfl⟩
 have I1:=I.laid (a:=s.heap.objs.size) (o:=XDt s.heap.objs.size []) (t':=s.toks + 1) k1 (Nat.le_refl _) (XDt.ok (by simp) nd (fun _=>trivial) (fun y hy=>absurd rfl hy))
 have he1 : upd H s.heap.objs.size (XDt s.heap.objs.size []) e = some (XN e C t none):=by rw [Jn (Ne.symm ne)]; exact he
 refine wpAny_bind (wpAny_alloc (wpAny_bind (wpAny_update (k1 _ _ ge) ?_)))
 have g2 : ((s.heap.push PySem.W.emptyDict).update e fun o=>{ o with dict:=some s.heap.objs.size }).get? e = some (xobj C t (some s.heap.objs.size)):=Heap.get?_update_self _ (k1 _ _ ge) rfl
 have k2 : ∀ b o,b ≠ e → (s.heap.push PySem.W.emptyDict).get? b = some o → ((s.heap.push PySem.W.emptyDict).update e fun o=>{ o with dict:=some s.heap.objs.size }).get? b = some o:=fun b o nb z=>(Heap.get?_update_other _ _ (Ne.symm nb)).trans z
 have I2:=I1.write (x:=e) (e:=e) (o:=XN e C t (some s.heap.objs.size)) (t':=s.toks + 1) (by rw [he1]; exact True.intro) (.inl rfl) k2 ⟨_,g2⟩ (XN.ok g2)
 have n2 : ((s.heap.push PySem.W.emptyDict).update e fun o=>{ o with dict:=some s.heap.objs.size }).Ns1 s.heap.objs.size fun _=>none:=nd.at fun o z=>k2 _ _ ne z
 refine wpAny_pure ?_
 show wpAny _ _ (Builtin.ObjectAttr.storeInDict s.heap.objs.size (.str f s.toks) f u) _ _ _
 unfold Builtin.ObjectAttr.storeInDict Builtin.ObjectAttr.newKeyGuard
 refine wpAny_bind (wpAny_pure (wpAny_bind (wpAny_nsSet1 n2 fun h' n3 sb=>?_)))
 obtain ⟨oD,esD,epD,hoD,hdD,hcD⟩:=n3.count (PySem.Within.cons f u PySem.Within.nil)
 refine wpAny_bind (wpAny_lookBehind hoD (by rw [hdD]; exact pastItsLine_dict (Nat.le_trans hcD (by rw [List.length_cons,List.length_nil,sizeLine_eq]; omega))) (wpAny_pure (q _ _ fr ne ?_)))
 refine I2.write (x:=s.heap.objs.size) (e:=s.heap.objs.size) (by rw [Jn ne,Jd]; exact True.intro) (.inl rfl) (fun b o nb z=>(sb.2 b nb).trans z) ⟨_,hoD⟩ (XDt.ok (by simp) n3 (fun g=>?_) ?_)
 ·by_cases z : g = f
  ·rw [if_pos z]
   have hb : (g == f) = true:=beq_iff_eq.mpr z
   simp only [List.lookup,hb]
   exact ru
  ·rw [if_neg z]
   have hb : (g == f) = false:=beq_eq_false_iff_ne.mpr z
   simp only [List.lookup,hb]
   trivial
 ·intro g hg
  by_cases z : g = f
  ·rw [z]; simp
  ·have y : (if g = f then some u else (none : Option Value)) ≠ none:=hg
   rw [if_neg z] at y
   exact absurd rfl y
theorem JbP {fs : List (Str × V)} (I : Inv X pins σ H s) (he : H e = some (XN e C t (some dx))) (hd : H dx = some (XDt dx fs)) (ne : dx ≠ e) (hx : XIn X.K C) (ht : JT X.K C f) (hl : fs.length < 1000) (ru : RelV v u)
  (q : ∀ s',Inv X pins σ (upd H dx (XDt dx (putF f v fs))) s' → Q () s') : wpAny (model X.prog X.w) A (setAttr (.ref e) f u) Q E s:=by
 have ge:=XN.at (I.hok e _ he)
 obtain ⟨_,mA,n,r,wi⟩:=XDt.at (I.hok dx _ hd)
 obtain ⟨od,go,_⟩:=J5t n
 have J : PySem.W.InstAt s.heap e (xobj C t (some dx)) C (some od):=⟨ge,rfl,rfl,go⟩
 refine PySem.W.set_plain I.kIn J hx.sa (Jbq (s:={ s with toks:=s.toks + 1 }) I.kIn J hx ht ?_)
 obtain ⟨cd,ec,eh⟩:=PySem.W.any_some hx.hd
 refine wpAny_bind (wpAny_pure (wpAny_bind (wpAny_bind (wpAny_loadPart ge (wpAny_bind (PySem.W.Looks.here (s:={ s with toks:=s.toks + 1 }) (PySem.W.looks_clsIn I.kIn ec) ?_))))))
 rw [eh]
 refine wpAny_pure (a:=some dx) (wpAny_bind (wpAny_pure (wpAny_bind (wpAny_nsSet1 (s:={ s with toks:=s.toks + 1 }) n fun h' n3 sb=>?_))))
 obtain ⟨oD,esD,epD,hoD,hdD,hcD⟩:=n3.count (PySem.Within.cons f u wi)
 refine wpAny_bind (wpAny_lookBehind hoD (by rw [hdD]; exact pastItsLine_dict (Nat.le_trans hcD (by rw [List.length_cons,List.length_map,sizeLine_eq]; omega))) (wpAny_pure (q _ ?_)))
 refine I.write (x:=dx) (e:=dx) (by rw [hd]; exact True.intro) (.inl rfl) (fun b o nb z=>(sb.2 b nb).trans z) ⟨_,hoD⟩ (XDt.ok ?_ n3 (fun g=>?_) fun g hg=>?_)
 ·have:=J1F f v fs; omega
 ·show RelO ((putF f v fs).lookup g) (if g = f then some u else mA g)
  rw [J3U]
  by_cases z : g = f
  ·rw [if_pos z,if_pos z]; exact ru
  ·rw [if_neg z,if_neg z]; exact r g
 ·by_cases z : g = f
  ·rw [z]; exact (J3l f v fs).1
  ·refine (J3l f v fs).2 g (wi g fun y=>hg ?_)
   show (if g = f then some u else mA g) = none
   rw [if_neg z]; exact y
end
noncomputable def JfV (K : PySem.W.Frag) (ta tv : TE) (f : Str) : TS:=fun D σ H=>tv σ H fun y H1=>ta σ H1 fun x H2=>∃ e C t,x = .ref e ∧ XIn K C ∧ JT K C f ∧
 ((H2 e = some (XN e C t none) ∧ ∀ dx,H2 dx = none → dx ≠ e → D.nx σ (upd (upd (upd H2 dx (XDt dx [])) e (XN e C t (some dx))) dx (XDt dx [(f,y)]))) ∨
  ∃ dx fs,H2 e = some (XN e C t (some dx)) ∧ H2 dx = some (XDt dx fs) ∧ dx ≠ e ∧ fs.length < 1000 ∧ D.nx σ (upd H2 dx (XDt dx (putF f y fs))))
theorem J5O {X : Cx} {o value : Expr} {f : Str} {pos pos' : Pos} {ta tv : TE} (ha : PE X o ta) (hv : PE X value tv) (hs : swapsWith value (some (.Attribute o f pos')) pos.line X.env = pure false) : PS X (.Assign [.Attribute o f pos'] value pos) (JfV X.K ta tv f):=by
 intro pins s σ H D I h
 refine plainObj_wpAny_Assign_Attribute (thn (hv pins s σ H _ I h) fun u s1 ⟨y,H1,I1,ry,q⟩=>thn (ha pins s1 σ H1 _ I1 q) fun ov s2 ⟨x,H2,I2,rx,e,C,t,ex,hx,n,q2⟩=>?_) hs
 subst ex
 obtain rfl : ov = Value.ref e:=rx
 rcases q2 with ⟨he,q2⟩ | ⟨dx,fs,he,hd,ne,l,q2⟩
 ·exact JaR I2 he hx n ry fun s3 dx nd ne I3=>⟨σ,_,I3,q2 dx nd ne⟩
 ·exact JbP I2 he hd ne hx n l ry fun s3 I3=>⟨σ,_,I3,q2⟩
end L2
set_option linter.all false
set_option maxRecDepth 100000
set_option maxHeartbeats 4000000
namespace L2
open PySem PySem.Spec PyProof.Rows
noncomputable def less (H : Hp) (a : Addr) : Hp:=fun b=>if b = a then none else H b
theorem J5x {H : Hp} {a : Addr} : less H a a = none:=by unfold less; rw [if_pos rfl]
theorem J2D {H : Hp} {a b : Addr} (n : b ≠ a) : less H a b = H b:=by unfold less; rw [if_neg n]
noncomputable def CX2 (P : Program) (w : World) : CXT:=fun outer H s E ev s'=>∃ (a C : Addr) (d : Option Addr) (a0 : Value) (H' : Hp) (B : Heap),ev = .ref a ∧ s'.os = s.os ∧ AllBare s'.gens ∧ Un (frs outer) [] H H' s.heap s'.heap ∧ HOk P w H' s'.heap ∧
 FlD B outer a (.ref C) a0 d .none s'.heap ∧ (∀ b o,s.heap.get? b = some o → H b = none → b ∉ frs outer → B.get? b = some o) ∧ (∀ b o u,H' b = some u → s'.heap.get? b = some o → B.get? b = some o) ∧
 (∀ b o,s.heap.get? b = some o → b ∉ frs outer → ∃ o',B.get? b = some o') ∧ H' a = none ∧ E (.ref C) d H'
section
variable {X : Cx} {pins : List (Addr × Obj)} {σ : St} {H : Hp} {s : Shared} {E : XK} {Ex : Value → Shared → Prop}
theorem J7r (I : Inv X pins σ H s) (hex : X.ex = []) (hst : X.stack = X.env :: X.outer) (hfr : X.env.frame = some X.env.locals) {e C t : Addr} {d : Option Addr} (he : H e = some (XN e C t d)) (hn : X.s₀.heap.get? e = none) (q : E (.ref C) d (less H e)) :
  wpAny (model X.prog X.w) X.A (leaving X.env (.ref e)) (fun _ s''=>CX2 X.prog X.w X.outer X.H₀ X.s₀ E (.ref e) s'') Ex s:=by
 have ge:=XN.at (I.hok e _ he)
 have hs:=I.stack
 rw [hst] at hs
 have nex : ∀ b : Addr,b ∉ X.ex:=fun b z=>by rw [hex] at z; simp at z
 have ein : e ∈ e :: frs (X.env :: X.outer):=.head _
 refine J7K (B:=PySem.W.hideAll s.heap (e :: frs (X.env :: X.outer))) (a0:=.ref t) (by rw [I.ok.frames,hst]) (PySem.W.funFrames_hide hs fun env hv b hb=>.tail _ (List.mem_filterMap.mpr ⟨env,hv,hb⟩)) hfr (fun b o z=>PySem.W.of_hideAll _ z) (PySem.W.hideAll_none _ ein) ge rfl rfl rfl fun h2 x1 x4=>?_
 have inB : ∀ b o,s.heap.get? b = some o → b ≠ e → b ∉ frs X.stack → (PySem.W.hideAll s.heap (e :: frs (X.env :: X.outer))).get? b = some o:=fun b o g ne nb=>PySem.W.hideAll_get _ g fun z=>by
  rcases List.mem_cons.mp z with z | z
  ·exact ne z
  ·rw [hst] at nb; exact nb z
 have prot : ∀ b o,s.heap.get? b = some o → b ≠ e → b ∉ frs X.stack → h2.get? b = some o:=fun b o g ne nb=>x1.st b o (inB b o g ne nb)
 have slots : ∀ b o,s.heap.get? b = some o → b ∈ X.fs → ∃ sl,h2.get? b = some { o with slots:=sl }:=fun b o g hb=>by
  obtain ⟨_,o',ho',hd⟩:=I.funs.mem hb
  rw [g] at ho'
  cases ho'
  exact x4 b o g hd
 have trk : ∀ b u,H b = some u → b ∉ frs X.stack:=fun b u z hb=>by rw [I.stkFree b hb] at z; cases z
 have old : ∀ b o,X.s₀.heap.get? b = some o → b ≠ e:=fun b o g z=>by rw [z,hn] at g; cases g
 have oth : ∀ b u,H b = some u → (∀ p,u ≠ .ext p) → b ≠ e:=fun b u g nu z=>by
  rw [z,he] at g
  cases g
  exact nu _ rfl
 refine ⟨e,C,d,.ref t,less H e,_,rfl,I.os,I.bare,⟨fun b o g n nb _=>?_,fun b o g n hb _=>?_,fun b o g n _=>?_,fun b o g _=>?_,fun b xs g=>?_,fun b o u g=>?_,fun b ps g=>?_⟩,fun b u g=>?_,x1,fun b o g n nb=>?_,fun b o u g z=>?_,fun b o g nb=>?_,J5x,q⟩
 ·exact prot b o (I.base.keep b o g n nb (nex b)) (old b o g) fun z=>nb (I.oldfr g z)
 ·obtain ⟨sl,e1⟩:=I.base.slot b o g n hb (nex b)
  obtain ⟨sl2,e2⟩:=slots b _ e1 hb
  exact ⟨sl2,e2⟩
 ·rw [J2D (old b o g)]
  exact I.base.free b o g n (nex b)
 ·obtain ⟨o',e1⟩:=I.base.there b o g (nex b)
  by_cases hb : b ∈ frs X.stack
  ·obtain ⟨sl,e2⟩:=slots b o' e1 (I.oldfr g hb)
   exact ⟨_,e2⟩
  ·exact ⟨o',prot b o' e1 (old b o g) hb⟩
 ·have z:=I.base.tups b xs g
  rw [J2D (oth b _ z fun p y=>nomatch y)]
  exact z
 ·have z:=I.base.frzs b o u g
  rw [J2D (oth b _ z fun p y=>nomatch y)]
  exact z
 ·obtain ⟨m,z⟩:=I.base.tbls b ps g
  exact ⟨m,by rw [J2D (oth b _ z fun p y=>nomatch y)]; exact z⟩
 ·have nb : b ≠ e:=fun z=>by rw [z,J5x] at g; cases g
  rw [J2D nb] at g
  refine (I.hok b u g).stay (fun c o hc z=>?_) (fun c z=>by rw [J2D (oth c _ z fun p y=>nomatch y)]; exact z) fun c xs z=>by rw [J2D (oth c _ z fun p y=>nomatch y)]; exact z
  rcases hc with rfl | hc
  ·exact prot c o z nb (trk c _ g)
  ·exact prot c o z (oth c _ hc fun p y=>nomatch y) (trk c _ hc)
 ·exact inB b o (I.base.keep b o g n nb (nex b)) (old b o g) fun z=>nb (I.oldfr g z)
 ·have nb : b ≠ e:=fun y=>by rw [y,J5x] at g; cases g
  rw [J2D nb] at g
  obtain ⟨o',e1⟩:=J3B (I.hok b u g)
  have e2:=prot b o' e1 nb (trk b u g)
  have z' : h2.get? b = some o:=z
  rw [e2] at z'
  cases z'
  exact inB b o e1 nb (trk b u g)
 ·obtain ⟨o',e1⟩:=I.base.there b o g (nex b)
  exact ⟨o',inB b o' e1 (old b o g) fun z=>nb (I.oldfr g z)⟩
theorem J8L (I : Inv X pins σ H s) (hex : X.ex = []) (hst : X.stack = X.env :: X.outer) (hfr : X.env.frame = some X.env.locals) {ev : Value} {s' : Shared} (h : CX2 X.prog X.w X.stack H s E ev s') :
  wpAny (model X.prog X.w) X.A (leaving X.env ev) (fun _ s''=>CX2 X.prog X.w X.outer X.H₀ X.s₀ E ev s'') Ex s':=by
 obtain ⟨a,C,d,a0,H',B,rfl,os,bare,un,hok,fl,g1,g2,g3,na,q⟩:=h
 have I':=I.call' (ch:=[]) os un hok bare (fun b z=>absurd z (by simp))
 have nex : ∀ b : Addr,b ∉ X.ex:=fun b z=>by rw [hex] at z; simp at z
 have fl':=fl
 rw [hst] at fl'
 refine JcU (by rw [I'.ok.frames,hst]) hfr fl' fun h2 x1 x2=>?_
 have slots : ∀ b o,s'.heap.get? b = some o → b ∈ X.fs → ∃ sl,h2.get? b = some { o with slots:=sl }:=fun b o g hb=>by
  obtain ⟨_,o',ho',hd⟩:=I'.funs.mem hb
  rw [g] at ho'
  cases ho'
  exact x2 b o g hd
 refine ⟨a,C,d,a0,H',B,rfl,I'.os,I'.bare,⟨fun b o g n nb _=>?_,fun b o g n hb _=>?_,fun b o g n _=>I'.base.free b o g n (nex b),fun b o g _=>?_,I'.base.tups,I'.base.frzs,I'.base.tbls⟩,fun b u g=>?_,x1,fun b o g n nb=>?_,fun b o u g z=>?_,fun b o g nb=>?_,na,q⟩
 ·exact x1.st b o (g1 b o (I.base.keep b o g n nb (nex b)) (I.base.free b o g n (nex b)) fun z=>nb (I.oldfr g z))
 ·obtain ⟨sl,e1⟩:=I'.base.slot b o g n hb (nex b)
  obtain ⟨sl2,e2⟩:=slots b _ e1 hb
  exact ⟨sl2,e2⟩
 ·by_cases hb : b ∈ frs X.stack
  ·obtain ⟨o',e1⟩:=I'.base.there b o g (nex b)
   obtain ⟨sl,e2⟩:=slots b o' e1 (I.oldfr g hb)
   exact ⟨_,e2⟩
  ·obtain ⟨o',e1⟩:=I.base.there b o g (nex b)
   obtain ⟨o2,e2⟩:=g3 b o' e1 hb
   exact ⟨o2,x1.st b o2 e2⟩
 ·refine (I'.hok b u g).stay (fun c o hc z=>?_) (fun _ z=>z) fun _ _ z=>z
  rcases hc with rfl | hc
  ·exact x1.st c o (g2 c o _ g z)
  ·exact x1.st c o (g2 c o _ hc z)
 ·exact g1 b o (I.base.keep b o g n nb (nex b)) (I.base.free b o g n (nex b)) fun z=>nb (I.oldfr g z)
 ·obtain ⟨o',e1⟩:=J3B (I'.hok b u g)
  have e2:=x1.st b o' (g2 b o' u g e1)
  have z' : h2.get? b = some o:=z
  rw [e2] at z'
  cases z'
  exact g2 b o u g e1
 ·obtain ⟨o',e1⟩:=I.base.there b o g (nex b)
  exact g3 b o' e1 fun z=>nb (I.oldfr g z)
end
noncomputable def XD (a C : Addr) (d : Option Addr) : HO:=.ext fun h=>∃ o vs,h.get? a = some o ∧ o.cls = .ref C ∧ o.dict = d ∧ o.data = .fields vs
theorem XD.ok {P : Program} {w : World} {H : Hp} {h : Heap} {a C : Addr} {d : Option Addr} (q : ∃ o vs,h.get? a = some o ∧ o.cls = .ref C ∧ o.dict = d ∧ o.data = .fields vs) : J1X P w H h a (XD a C d) :=
 ⟨q,let ⟨o,_,e,_⟩:=q; ⟨o,e⟩,fun _ _ ⟨o,vs,e,c⟩ k=>⟨o,vs,k o e,c⟩⟩
theorem XD.at {P : Program} {w : World} {H : Hp} {h : Heap} {a C : Addr} {d : Option Addr} (x : J1X P w H h a (XD a C d)) : ∃ o vs,h.get? a = some o ∧ o.cls = .ref C ∧ o.dict = d ∧ o.data = .fields vs:=x.1
section
variable {X : Cx} {pins : List (Addr × Obj)} {σ : St} {H : Hp} {s : Shared}
theorem J9H (I : Inv X pins σ H s) {a C : Addr} {d : Option Addr} {a0 : Value} {H' : Hp} {B h' : Heap} {s' : Shared} (os : s'.os = s.os) (bare : AllBare s'.gens) (un : Un (frs X.stack) [] H H' s.heap s'.heap) (hok : HOk X.prog X.w H' s'.heap)
  (fl : FlD B X.stack a (.ref C) a0 d .none s'.heap) (g1 : ∀ b o,s.heap.get? b = some o → H b = none → b ∉ frs X.stack → B.get? b = some o) (g2 : ∀ b o u,H' b = some u → s'.heap.get? b = some o → B.get? b = some o)
  (g3 : ∀ b o,s.heap.get? b = some o → b ∉ frs X.stack → ∃ o',B.get? b = some o') (na : H' a = none) (fl' : FlD B X.stack a (.ref C) a0 d .none h') (sm : s'.heap.UpToSlots h') :
  Inv X pins σ (upd H' a (XD a C d)) { s' with heap:=h' }:=by
 have frn : a ∉ frs X.stack:=fun hb=>by
  obtain ⟨_,o,ho,hd⟩:=fl'.fr.mem hb
  obtain ⟨oe,vs,he,_,_,hde⟩:=fl'.at
  rw [he] at ho
  cases ho
  exact hd vs hde
 have ne : ∀ b o,s.heap.get? b = some o → b ≠ a:=fun b o g e=>by
  subst e
  obtain ⟨o',e⟩:=g3 b o g frn
  rw [fl.nw] at e
  cases e
 have neH : ∀ b u,H' b = some u → b ≠ a:=fun b u g e=>by subst e; rw [na] at g; cases g
 refine I.call' (ch:=[]) os ⟨fun b o g n nb _=>fl'.st b o (g1 b o g n nb),fun b o g n hb _=>?_,fun b o g n _=>?_,fun b o g _=>?_,fun b xs e=>?_,fun b o u e=>?_,fun b ps e=>?_⟩ (fun b u e=>?_) bare (fun b z=>absurd z (by simp))
 ·obtain ⟨sl,e1⟩:=un.slot b o g n hb (by simp)
  obtain ⟨_,o',ho',hd⟩:=fl.fr.mem hb
  rw [e1] at ho'
  cases ho'
  obtain ⟨sl2,e2⟩:=sm b _ e1 hd
  exact ⟨sl2,e2⟩
 ·rw [Jn (ne b o g)]
  exact un.free b o g n (by simp)
 ·by_cases hb : b ∈ frs X.stack
  ·obtain ⟨_,o',ho',_⟩:=fl'.fr.mem hb
   exact ⟨o',ho'⟩
  ·obtain ⟨o',e⟩:=g3 b o g hb
   exact ⟨o',fl'.st b o' e⟩
 ·have z:=un.tups b xs e
  rw [Jn (neH b _ z)]
  exact z
 ·have z:=un.frzs b o u e
  rw [Jn (neH b _ z)]
  exact z
 ·obtain ⟨m,z⟩:=un.tbls b ps e
  exact ⟨m,by rw [Jn (neH b _ z)]; exact z⟩
 ·by_cases hb : b = a
  ·subst hb
   rw [Jd] at e
   cases e
   exact XD.ok fl'.at
  ·rw [Jn hb] at e
   refine (hok b u e).stay (fun c o hc g=>?_) (fun c g=>by rw [Jn (neH c _ g)]; exact g) fun c xs g=>by rw [Jn (neH c _ g)]; exact g
   rcases hc with rfl | hc
   ·exact fl'.st c o (g2 c o _ e g)
   ·exact fl'.st c o (g2 c o _ hc g)
end
noncomputable def PEY (X : Cx) (e : Expr) (t : XK → TE) : Prop :=
 ∀ (pins : List (Addr × Obj)) (s : Shared) (σ : St) (H : Hp) (Q : VK) (E : XK) (Ex : Value → Shared → Prop),Inv X pins σ H s → t E σ H Q → (∀ ev s1 H1 s0,Inv X pins σ H1 s0 → CX2 X.prog X.w X.stack H1 s0 E ev s1 → Ex ev s1) →
  wpAny (model X.prog X.w) X.A (eval e X.env) (EP X pins σ Q) Ex s
noncomputable def PBY (X : Cx) (b : List Stmt) (t : XK → TS) : Prop :=
 ∀ (pins : List (Addr × Obj)) (s : Shared) (σ : St) (H : Hp) (D : Ends) (E : XK) (Ex : Value → Shared → Prop),Inv X pins σ H s → t E D σ H → (∀ ev s1 H1 s0,Inv X pins σ H1 s0 → CX2 X.prog X.w X.stack H1 s0 E ev s1 → Ex ev s1) →
  wpAny (model X.prog X.w) X.A (execs b X.env) (SP X pins D) Ex s
noncomputable def FnY (P : Program) (w : World) (K : PySem.W.Frag) (mg : Str → Option Value) (base : Heap) (x : Str) (k : Nat) (ps : List Str) (sp : Sp) : Prop :=
 ∃ f fd,FnOk P w K mg base (CX2 P w) k f fd ps sp ∧ mg x = some (.ref f) ∧ PySem.W.keepIn K (.ref f) = true ∧ J3o K fd ps []
structure Ry (X : Cx) (E : XK) : Prop where
 xe : X.xe = fun e s'=>wpAny (model X.prog X.w) X.A (leaving X.env e) (fun _ s''=>CX2 X.prog X.w X.outer X.H₀ X.s₀ E e s'') (fun e' s''=>CX2 X.prog X.w X.outer X.H₀ X.s₀ E e' s'') s'
 ex : X.ex = []
 st : X.stack = X.env :: X.outer
 fr : X.env.frame = some X.env.locals
 cm : X.calm = true
theorem J5I {P : Program} {w : World} {K : PySem.W.Frag} {mg : Str → Option Value} {base : Heap} {N : List Str} {qual : Str} {scope : Scope} {f : Addr} {cd : Value} {A : Around} {outer : List Env} {s : Shared} {H : Hp} {E : XK} :
  Ry (cxOf (CX2 P w) P w K mg base N qual scope f cd A outer s H E) E:=⟨rfl,rfl,rfl,rfl,rfl⟩
theorem Ry.own {X : Cx} {E : XK} (R : Ry X E) : PassesOwn (model X.prog X.w) X.A X.env X.xe:=by rw [R.xe]; exact PassesOwn.leaving
theorem Ry.pass {X : Cx} {E : XK} (R : Ry X E) : J3S (CX2 X.prog X.w) X E:=fun pins σ H s e s' I h=>by
 rw [R.xe]
 exact J8L I R.ex R.st R.fr h
section
variable {P : Program} {w : World} {K : PySem.W.Frag} {mg : Str → Option Value} {base : Heap}
theorem GF.y {x : Str} {st : Stmt} {N ps : List Str} {k : Nat} {sp : Sp} (F : GF K mg x st) (S : Jv N ps (J9 st))
  (bnd : ∀ (kV doc pm : Value) (an : Option Addr) (cdv ct : Value) (us : List Value),us.length = ps.length → bindArgs (PySem.W.fnOf x x (Ju st) (Jt st) (J9 st) .none kV doc pm an cdv ct) ⟨us,[]⟩ = pure (ps.zip us))
  (len : ∀ vs H Q E,sp vs H Q E → vs.length = ps.length)
  (hbody : ∀ (f : Addr) (cdv : Value) (A : Around) (outer : List Env) (s : Shared) (H : Hp) (vs : List V) (Q : VK) (E : XK),Room k (A.deeper (envOfC x (J9 st) s.heap.objs.size f cdv)) → sp vs H Q E →
   ∃ t,PSs (cxOf (CX2 P w) P w K mg base N x (J9 st) f cdv A outer s H E) (Jt st) t ∧ t { nx:=fun _ H'=>Q .non H',rt:=Q } (start N vs) H) : FnY P w K mg base x (k + 1) ps sp:=by
 obtain ⟨f,fd,F,m⟩:=F
 refine ⟨f,fd,?_,m,F.kp,F.binds bnd⟩
 obtain ⟨oc,od,kV,doc,pm,an,cdv,ct,osl,rfl,lk,hcd⟩:=F.ex
 exact Jd0 lk hcd S len fun A outer s H vs Q E hr hsp=>hbody f cdv A outer s H vs Q E hr hsp
end
section
variable {X : Cx} {x m : Str} {k : Nat} {ps : List Str} {sp : Sp} {C : Addr} {p pos apos : Pos} {e o : Expr} {es : List Expr} {t : TA} {to : TE} {E : XK}
theorem Jct (G : FnY X.prog X.w X.K X.mg X.base x k ps sp) (hr : Room k X.A) (hx : J3S (CX2 X.prog X.w) X E) (ha : PA X (e :: es) t) (hg : Gl X x:=by rfl) (hdb : (x == ("__debug__" : Str)) = false:=by decide)
  (he : starEach (e :: es) X.env = (false,eval e X.env) :: starEach es X.env:=by rfl) (hpl : (backTo pos (starEach es X.env)).any (·.1) = false:=by rfl) : PE X (.Call (.Name x p) (e :: es) [] pos) (Jb8 sp [] E t):=by
 obtain ⟨f,fd,a,b,c,d⟩:=G
 exact Jbe a hr hg b c d .nil hx ha hdb he hpl
theorem Jf2 (G : FnY X.prog X.w X.K X.mg X.base x k ps sp) (hr : Room k X.A) (ha : PA X.nox (e :: es) t) (hg : Gl X x:=by rfl) (hdb : (x == ("__debug__" : Str)) = false:=by decide)
  (he : starEach (e :: es) X.env = (false,eval e X.env) :: starEach es X.env:=by rfl) (hpl : (backTo pos (starEach es X.env)).any (·.1) = false:=by rfl) : PEY X (.Call (.Name x p) (e :: es) [] pos) (fun E=>Jb8 sp [] E t):=by
 obtain ⟨f,fd,F,hm,hk,hb⟩:=G
 intro pins s σ H Q E Ex I h hx
 refine wpAny_Call_Name_kw (J3C I hg hm ?_ hdb)
 refine PySem.W.callWith_K (h₀:=X.base) I.ok.mod.kin hk (wpAny_mono (ha pos pins s σ H _ (I.wish _) h) (fun us s1 q=>?_) fun _ _ z=>False.elim z) he hpl
 obtain ⟨vs,H1,I1,r,q⟩:=AP.unwish (X:=X) q
 refine ⟨I1.kIn,?_⟩
 rw [List.append_nil] at q
 have hl : us.length = ps.length:=by
  rw [← r.length]
  exact F.len _ _ _ _ q
 have hbb:=hb s1 us I1.kIn (by rw [List.append_nil]; exact hl)
 rw [List.append_nil] at hbb
 refine wpAny_call (codeAny_mono (F.run X.A X.stack s1 H1 ⟨us,[]⟩ us vs Q E hr I1.env0 hbb r q) fun r s' hq=>?_)
 cases r with
 | error e=>exact hx e s' H1 s1 I1 hq
 | ok fl =>
  cases fl with
  | ret u=>exact I1.after hq
  | next=>exact False.elim hq
  | brk=>exact False.elim hq
  | cont=>exact False.elim hq
end
noncomputable def Jec (C : Addr) (sp : Sp) (E : XK) (t : TA) : TS:=fun _ σ H=>t σ H fun vs H1=>vs.length ≤ sizeLine ∧ ∀ e t,H1 e = none → H1 t = none → t ≠ e →
 sp (.ref e :: vs) (upd (upd H1 t (.tup vs)) e (XN e C t none)) (fun v H2=>v = .non ∧ ∃ d,H2 e = some (XN e C t d) ∧ E (.ref C) d (less H2 e)) E0
noncomputable def MtI (P : Program) (w : World) (K : PySem.W.Frag) (mg : Str → Option Value) (base : Heap) (C : Addr) (k : Nat) (ps : List Str) (sp : Sp) : Prop :=
 ∃ f fd,FnOk P w K mg base CX0 k f fd ps sp ∧ XIn K C ∧ Meth K C "__init__" f ∧ J3o K fd ps []
theorem MF.i {P : Program} {w : World} {K : PySem.W.Frag} {mg : Str → Option Value} {base : Heap} {C : Addr} {qual : Str} {st : Stmt} {N ps : List Str} {k : Nat} {sp : Sp} (F : MF K C "__init__" qual st) (cl : XIn K C) (S : Jv N ps (J9 st))
  (bnd : ∀ (kV doc pm : Value) (an : Option Addr) (cdv ct : Value) (us : List Value),us.length = ps.length → bindArgs (PySem.W.fnOf "__init__" qual (Ju st) (Jt st) (J9 st) .none kV doc pm an cdv ct) ⟨us,[]⟩ = pure (ps.zip us))
  (len : ∀ vs H Q E,sp vs H Q E → vs.length = ps.length)
  (hbody : ∀ (f : Addr) (cdv : Value) (A : Around) (outer : List Env) (s : Shared) (H : Hp) (vs : List V) (Q : VK) (E : XK),Room k (A.deeper (envOfC qual (J9 st) s.heap.objs.size f cdv)) → sp vs H Q E →
   ∃ t,PSs (cxOf CX0 P w K mg base N qual (J9 st) f cdv A outer s H E).nox (Jt st) t ∧ t { nx:=fun _ H'=>Q .non H',rt:=Q } (start N vs) H) : MtI P w K mg base C (k + 1) ps sp:=by
 obtain ⟨f,fd,F,m⟩:=F
 exact ⟨f,fd,F.ok S len fun cdv A outer s H vs Q E hr h=>hbody f cdv A outer s H vs Q E hr h,cl,m,F.binds bnd⟩
section
variable {X : Cx} {x : Str} {k : Nat} {ps : List Str} {sp : Sp} {C : Addr} {np cpos pos : Pos} {e : Expr} {es : List Expr} {t : TA} {E : XK}
theorem Jcb (R : Ry X E) (G : MtI X.prog X.w X.K X.mg X.base C k ps sp) (hr : Room (k + 1) X.A) (hm : X.mg x = some (.ref C)) (ha : PA X (e :: es) t) (hg : Gl X x:=by rfl) (hdb : (x == ("__debug__" : Str)) = false:=by decide)
  (he : starEach (e :: es) X.env = (false,eval e X.env) :: starEach es X.env:=by rfl) (hpl : (backTo cpos (starEach es X.env)).any (·.1) = false:=by rfl) :
  PS X (.Raise (some (.Call (.Name x np) (e :: es) [] cpos)) none pos) (Jec C sp E t):=by
 obtain ⟨f,fd,F,XI,M,hb⟩:=G
 intro pins s σ H D I h
 rw [arm_exec_Raise]
 refine wpAny_bind (wpAny_standAt ?_)
 refine JdO (I.ok.hd R.cm) ?_
 refine wpAny_bind (thn (wpAny_Call_Name_kw (J3C I hg hm ?_ hdb)) fun v s3 h3=>wpAny_bind (wpAny_standAt (wpAny_pure h3)))
 refine PySem.W.callWith_K (h₀:=X.base) I.ok.mod.kin XI.kp (thn (ha cpos pins s σ H _ I h) fun us s1 ⟨vs,H1,I1,r,q⟩=>⟨I1.kIn,?_⟩) he hpl
 obtain ⟨bm,N,nm,q',bs,hdct,sn,sub,ab,col,dd,k0,k1,k2,k3,k5,gC,T⟩:=XI.at I1.kIn
 obtain ⟨hl,q⟩:=q
 have lu : us.length ≤ sizeLine:=by rw [← r.length]; exact hl
 have q0:=q (s1.heap.objs.size + 1) s1.heap.objs.size (I1.hok.fresh (Nat.le_succ _)) (I1.hok.fresh (Nat.le_refl _)) (Nat.ne_of_lt (Nat.lt_succ_self _))
 have e1 : (s1.heap.push (argO us)).get? s1.heap.objs.size = some (argO us):=Heap.get?_push_size s1.heap rfl
 have e2 : ((s1.heap.push (argO us)).push (xobj C s1.heap.objs.size none)).get? (s1.heap.objs.size + 1) = some (xobj C s1.heap.objs.size none):=by
  have:=Heap.get?_push_size (s1.heap.push (argO us)) (o:=xobj C s1.heap.objs.size none) rfl
  rwa [Heap.size_push] at this
 have J1:=I1.laid (a:=s1.heap.objs.size) (o:=.tup vs) (h':=s1.heap.push (argO us)) (t':=s1.toks) (fun b u z=>Heap.get?_push_of_some _ z) (Nat.le_refl _) ⟨hl,us,r,_,e1,rfl,_,rfl⟩
 have J2:=J1.laid (a:=s1.heap.objs.size + 1) (o:=XN (s1.heap.objs.size + 1) C s1.heap.objs.size none) (t':=s1.toks) (fun b u z=>Heap.get?_push_of_some _ z) (Nat.le_of_eq (Heap.size_push _ _)) (XN.ok e2)
 have rr : Vals (V.ref (s1.heap.objs.size + 1) :: vs) (Value.ref (s1.heap.objs.size + 1) :: us):=.cons rfl r
 have ln : (Value.ref (s1.heap.objs.size + 1) :: us).length = ps.length:=by rw [← rr.length]; exact F.len _ _ _ _ q0
 have hbb:=hb _ (Value.ref (s1.heap.objs.size + 1) :: us) J2.kIn (by rw [List.append_nil]; exact ln)
 rw [List.append_nil] at hbb
 have nw : X.s₀.heap.get? (s1.heap.objs.size + 1) = none:=Heap.get?_none_of_le (Nat.le_trans I1.sz (Nat.le_succ _))
 obtain ⟨h1,gg,dr,tk,os⟩:=s1
 refine JdK gC T (PySem.W.looks_findIn I1.kIn M.at_) (fun v=>PySem.W.bind_fn I1.kIn v (beq_iff_eq.mp M.fn)) lu ?_
 refine wpAny_call (codeAny_mono (F.run _ X.stack _ _ ⟨_,[]⟩ _ _ _ E0 (hr.make C us []) (J2.env0.make C us []) hbb rr q0) fun r2 s2 z=>?_)
 cases r2 with
 | error e=>exact False.elim z
 | ok fl =>
  cases fl with
  | ret u =>
   obtain ⟨v,H2,I2,rv,ev,d,he2,qe⟩:=J2.after z
   subst ev
   refine ⟨rv,_,C,_,d,X.K,rfl,I2.kIn,XI,XN.at (I2.hok _ _ he2),?_⟩
   rw [R.xe]
   exact J7r I2 R.ex R.st R.fr he2 nw qe
  | next=>exact False.elim z
  | brk=>exact False.elim z
  | cont=>exact False.elim z
end
end L2
set_option linter.all false
set_option maxRecDepth 100000
set_option maxHeartbeats 4000000
namespace L2
open PySem PySem.Spec PyProof.Rows PySem.Builtin PySem.Builtin.ObjectAttr
noncomputable def Jfw (K : PySem.W.Frag) (CB : Addr) (i : Nat) (tb : XK → TS) (ts : TS) : TS:=fun D σ H=>tb (fun c d H2=>∃ C,c = .ref C ∧ PySem.W.exmOne K (.ref C) (.ref CB) = some true ∧
 ∀ a,H2 a = none → ts { nx:=fun σ' H'=>D.nx (σ'.set i none) H',bk:=fun σ' H'=>D.bk (σ'.set i none) H',ct:=fun σ' H'=>D.ct (σ'.set i none) H',rt:=D.rt } (σ.set i (some (.ref a))) (upd H2 a (XD a C d))) D σ H
section
variable {X : Cx}
theorem JdU {cx n : Str} {CB : Addr} {i : Nat} {cp hp pos : Pos} {b : List Stmt} {tb : XK → TS} {b₀ : Stmt} {suite : List Stmt} {ts : TS} (hst : X.stack = X.env :: X.outer) (hfr : X.env.frame = some X.env.locals) (hN : X.N.Nodup) (hi : X.N[i]? = some n)
  (hl : X.env.scope.names.lookup n = some .local) (hcm : X.mg cx = some (.ref CB)) (hb : PBY X b tb) (hs : ∀ a,PSs (X.sui a) (b₀ :: suite) ts) (hgc : Gl X cx:=by rfl) (hdb : (cx == ("__debug__" : Str)) = false:=by decide) :
  PS X (.Try b [.ExceptHandler (some (.Name cx cp)) (some n) (b₀ :: suite) hp] [] [] pos) (Jfw X.K CB i tb ts):=by
 intro pins s σ H D I h
 refine wpAny_Try_except ?_
 refine wpAny_mono (hb pins s σ H D _ (fun e s₁=>wpAny (model X.prog X.w) X.A (noteFrame e X.env) (fun _ s₂=>wpAny (model X.prog X.w) X.A (setFlight e none) (fun _ s₃=>wpAny (model X.prog X.w) X.A (handleBy e X.env [.ExceptHandler (some (.Name cx cp)) (some n) (b₀ :: suite) hp]) (SP X pins D) X.xe s₃) X.xe s₂) X.xe s₁) I h fun ev s1 H1 s0 I0 hc=>?_) (fun f s1 q=>?_) fun _ _ z=>z
 ·obtain ⟨a,C,d,a0,H',B,rfl,os,bare,un,hok,fl,g1,g2,g3,na,C',hC,hx,q⟩:=hc
  cases hC
  have fl':=fl
  rw [hst] at fl'
  refine J9q (by rw [I0.ok.frames,hst]) hfr fl' fun h4 x4 m4=>?_
  refine J8C x4 fun h5 x5 m5=>?_
  rw [← hst] at x5
  have I5:=J9H I0 os bare un hok fl g1 g2 g3 na x5 (Heap.UpToSlots.trans m4 m5)
  refine wpAny_handleBy_cons (codeAny_handlers_test (J3C (X:=X.sui a) (I5.sui a) hgc hcm ?_ hdb)) (by intro q; cases q)
  have LT : PySem.W.Looks (model X.prog X.w) h5 (typeOf (.ref a)) (.ref C):=by
   obtain ⟨o,_,e1,e2,_⟩:=x5.at
   exact e2 ▸ (PySem.W.Looks.ld e1).andThen .now
  refine (PySem.W.exm_one I5.kIn LT hx).at (codeAny_handlers_suite_as ?_)
  refine J8C x5 fun h6 x6 m6=>?_
  have I6:=J9H I0 os bare un hok fl g1 g2 g3 na x6 (Heap.UpToSlots.trans (Heap.UpToSlots.trans m4 m5) m6)
  refine J3V (v:=.ref a) (X:=X) I6 hN hi (.inl hl) rfl (fun s7 I7=>?_) (.inr hl)
  refine wpAny_mono (hs a pins s7 _ _ _ (I7.sui a) (q a na)) (fun f s8 q8=>?_) fun _ _ z=>False.elim z
  cases f with
  | next =>
   obtain ⟨σ',H8,I8,q8⟩:=q8
   exact J40 (Inv.unsui I0.ok I8) hN hi hl fun s9 I9=>⟨_,_,I9,q8⟩
  | brk =>
   obtain ⟨σ',H8,I8,q8⟩:=q8
   exact J40 (Inv.unsui I0.ok I8) hN hi hl fun s9 I9=>⟨_,_,I9,q8⟩
  | cont =>
   obtain ⟨σ',H8,I8,q8⟩:=q8
   exact J40 (Inv.unsui I0.ok I8) hN hi hl fun s9 I9=>⟨_,_,I9,q8⟩
  | ret u =>
   obtain ⟨v,σ',H8,I8,rv,q8⟩:=q8
   exact J40 (Inv.unsui I0.ok I8) hN hi hl fun s9 I9=>⟨v,_,_,I9,rv,q8⟩
 ·cases f with
  | next=>exact wpAny_execs_nil q
  | brk=>exact q
  | cont=>exact q
  | ret u=>exact q
end
section
variable {prog : Program} {w : World} {A : Around} {E : Value → Shared → Prop} {K : PySem.W.Frag} {x C : Addr} {h : Heap} {g : Array GenState} {d : Drawn} {t : Nat} {os : OsState} {o : Obj} {od : Option Obj} {f : Str} {v : Value}
theorem Jds {tk : Tok} {Q : Fin → Shared → Prop} (X : K.In h) (J : PySem.W.InstAt h x o C od) (hf : PySem.W.findObj K C od f = some (.value v)) (hq : Q (.done (.ret v)) ⟨h,g,d,t,os⟩) :
  wpAny (model prog w) A (Builtin.«object.__getattribute__» ⟨[.ref x,.str f tk],[]⟩) Q E ⟨h,g,d,t,os⟩:=by
 have L0:=J.type (M:=model prog w)
 have L1:=PySem.W.looks_find (M:=model prog w) X J hf
 unfold Builtin.«object.__getattribute__» slotArgs attrName
 repeat (any_goals (first | assumption | with_reducible refine L0.at ?_ | with_reducible refine L1.at ?_ | wp_step))
theorem Jft {tk : Tok} {fill ex : Bool} {Q : Value → Shared → Prop} (X : K.In h) (T : XTy K C) (J : PySem.W.InstAt h x o C od) (hf : PySem.W.findObj K C od f = some (.value v)) (hv : PySem.W.handedIn v = true) (hq : Q v ⟨h,g,d,t,os⟩) :
  wpAny (model prog w) A (getAttrBy (.ref x) (.str f tk) fill ex) Q E ⟨h,g,d,t,os⟩:=by
 have f3:=F.attr_ValueError.ga.bind (.ref x)
 have n1 : (Value.builtin "BaseException.__getattribute__" == Value.builtin "object.__getattribute__") = false:=by decide +kernel
 have n2 : (onTheHeap (Value.ref C) && Value.builtin "BaseException.__getattribute__" == Value.builtin "object.__getattribute__") = false:=by rw [n1]; rfl
 have L0:=J.type (M:=model prog w)
 have L1:=PySem.W.looks_findIn (M:=model prog w) X T.ga
 have L2:=PySem.W.looks_findIn (M:=model prog w) X T.gn
 have hh:=PySem.W.handedOut_of hv
 repeat (any_goals (first | assumption | with_reducible refine L0.at ?_ | with_reducible refine L1.at ?_ | with_reducible refine L2.at ?_ | wp_step))
 have n3 : (ex && onTheHeap (Value.builtin "BaseException.__getattribute__")) = false:=by cases ex <;> rfl
 rw [n3]
 repeat (any_goals (first | assumption | wp_step))
 refine codeAny_call_builtin F.attr_ValueError.ga.plain F.entry_bexc_ga (J9L X T J.at_ J.cls (Jds X J hf ?_))
 repeat (any_goals (first | assumption | wp_step))
theorem JdM {ex : Bool} {s : Shared} {Q : Value → Shared → Prop} (X : K.In s.heap) (T : XTy K C) (J : PySem.W.InstAt s.heap x o C od) (hf : PySem.W.findObj K C od f = some (.value v)) (hv : PySem.W.handedIn v = true) (hq : Q v { s with toks:=s.toks + 1 }) :
  wpAny (model prog w) A (getAttr (.ref x) f ex) Q E s:=by
 obtain ⟨h,g,d,t,os⟩:=s
 unfold getAttr
 exact wpAny_bind (wpAny_mkText (Jft X T J hf hv hq))
end
structure XRd (K : PySem.W.Frag) (C : Addr) : Prop where
 is : XIs K C
 hd : PySem.W.hasDictIn K C = true
noncomputable def Jej (K : PySem.W.Frag) (ta : TE) (f : Str) : TE:=fun σ H Q=>ta σ H fun x H1=>∃ a C dx fs v,x = .ref a ∧ H1 a = some (XD a C (some dx)) ∧ H1 dx = some (XDt dx fs) ∧ XRd K C ∧ JT K C f ∧ fs.lookup f = some v ∧ Q v H1
theorem Je7 {X : Cx} {e : Expr} {f : Str} {pos : Pos} {ta : TE} (he : PE X e ta) (hb : attributeBase e f X.env (eval e X.env) = eval e X.env) : PE X (.Attribute e f pos) (Jej X.K ta f):=by
 intro pins s σ H Q I h
 refine Jbm hb (thn (he pins s σ H _ I h) fun u s1 ⟨x,H1,I1,rx,a,C,dx,fs,v,ex,ea,ed,R,n,l,q⟩=>?_)
 subst ex
 obtain rfl : u = Value.ref a:=rx
 obtain ⟨o,vs,g1,g2,g3,g4⟩:=XD.at (I1.hok a _ ea)
 obtain ⟨_,mA,nn,r,wi⟩:=XDt.at (I1.hok dx _ ed)
 obtain ⟨od,go,lk⟩:=J5t nn
 obtain ⟨u,hu,ru⟩:=RelO.some_of (v:=v) (o:=mA f) (by rw [← l]; exact r f)
 have J : PySem.W.InstAt s1.heap a o C (some od):=⟨g1,g2,by unfold PySem.W.notCls; rw [g4],by rw [g3]; exact go⟩
 exact JdM I1.kIn R.is.ty J (PySem.W.findObj_own R.hd n rfl (by rw [lk,hu])) (J7z ru) ⟨v,H1,I1.tok _,ru,q⟩
theorem J4M {X : Cx} {K : PySem.W.Frag} {e : Expr} {f : Str} {pos : Pos} {ta : TE} (h : X.K = K) (he : PE X e ta) (hb : attributeBase e f X.env (eval e X.env) = eval e X.env) : PE X (.Attribute e f pos) (Jej K ta f):=h ▸ Je7 he hb
section
variable {X : Cx} {K : PySem.W.Frag}
theorem XD.o {P : Program} {w : World} {H : Hp} {h : Heap} {a C : Addr} {d : Option Addr} (x : J1X P w H h a (XD a C d)) : ∃ o,h.get? a = some o ∧ o.cls = .ref C:=let ⟨o,_,g,c,_⟩:=XD.at x; ⟨o,g,c⟩
theorem J42 (h : X.K = K) : J2n X (.builtin "isinstance") (fun xs H Q=>∃ p C d D b,xs = [.ref p,.ref D] ∧ H p = some (XD p C d) ∧ XIs K C ∧ PySem.W.kitOne K (.ref C) (.ref D) = some b ∧ Q (.bl b) H):=by
 subst h
 intro pins s σ H xs us Q I r h
 obtain ⟨p,C,d,D,b,rfl,hp,T,hk,q⟩:=h
 obtain ⟨u,u2,rfl,r1,r2⟩:=r.two
 cases r1
 obtain rfl : u2 = .ref D:=r2
 exact PySem.W.kia_one (J6Q T.ty T.cls) I.kIn (XD.o (I.hok p _ hp)) hk (fun z=>nomatch z) fun tk=>⟨.bl b,H,I.tok _,rfl,q⟩
theorem J6R (h : X.K = K) : J2n X (.builtin "isinstance") (fun xs H Q=>∃ (p C : Addr) (d : Option Addr) (tp : Addr) (Ds : List Addr) (b : Bool),xs = [.ref p,.ref tp] ∧ H p = some (XD p C d) ∧ XIs K C ∧ H tp = some (.tup (Ds.map V.ref)) ∧ PySem.W.kitAny K (.ref C) (Ds.map Value.ref) = some b ∧ Q (.bl b) H):=by
 subst h
 intro pins s σ H xs us Q I r h
 obtain ⟨p,C,d,tp,Ds,b,rfl,hp,T,ht,hk,q⟩:=h
 obtain ⟨u,u2,rfl,r1,r2⟩:=r.two
 cases r1; cases r2
 obtain ⟨_,its,rs,⟨oc,od,oda,osl⟩,h1,hc,n,hd⟩:=I.hok tp _ ht
 have e:=J7N (H:=H) rs
 subst e
 dsimp only at hc hd
 subst hc hd
 exact PySem.W.kia_tup (J6Q T.ty T.cls) I.kIn (XD.o (I.hok p _ hp)) h1 hk (fun z=>nomatch z) fun tk=>⟨.bl b,H,I.tok _,rfl,q⟩
end
end L2
set_option linter.all false
set_option maxRecDepth 100000
set_option maxHeartbeats 4000000
namespace L2
open PySem PySem.Spec PyProof.Rows
section
variable {X : Cx} {pins : List (Addr × Obj)} {σ : St} {H : Hp} {s : Shared} {E : XK} {Ex : Value → Shared → Prop}
theorem J7p (I : Inv X pins σ H s) (hex : X.ex = []) (hst : X.stack = X.env :: X.outer) (hfr : X.env.frame = some X.env.locals) {h' : Heap} {e C : Addr} {vs : List Value} (hx : Heap.MadeExcOf s.heap h' e (.ref C) vs) (q : E (.ref C) none H) :
  wpAny (model X.prog X.w) X.A (leaving X.env (.ref e)) (fun _ s''=>CX2 X.prog X.w X.outer X.H₀ X.s₀ E (.ref e) s'') Ex { s with heap:=h' }:=by
 have hs:=I.stack
 rw [hst] at hs
 have nex : ∀ b : Addr,b ∉ X.ex:=fun b z=>by rw [hex] at z; simp at z
 obtain ⟨t,ge,_,_⟩:=hx.there
 have hid : ∀ b : Addr,s.heap.get? b = none → (PySem.W.hideAll s.heap (frs (X.env :: X.outer))).get? b = none:=fun b nb=>by
  cases z : (PySem.W.hideAll s.heap (frs (X.env :: X.outer))).get? b with
  | none=>rfl
  | some o=>rw [PySem.W.of_hideAll _ z] at nb; cases nb
 have hF : h'.FunFrames (PySem.W.hideAll s.heap (frs (X.env :: X.outer))) (X.env :: X.outer):=Heap.FunFrames.of_keeps (fun b o g _=>⟨o,hx.keeps b o g,rfl⟩) (PySem.W.funFrames_hide hs fun env he b hb=>List.mem_filterMap.mpr ⟨env,he,hb⟩)
 refine J7K (s:={ s with heap:=h' }) (B:=PySem.W.hideAll s.heap (frs (X.env :: X.outer))) (a0:=.ref t) (by rw [I.ok.frames,hst]) hF hfr (fun b o z=>hx.keeps b o (PySem.W.of_hideAll _ z)) (hid e hx.new) ge rfl rfl rfl fun h2 x1 x4=>?_
 replace x4 : h'.UpToSlots h2:=x4
 have inB : ∀ b o,s.heap.get? b = some o → b ∉ frs X.stack → (PySem.W.hideAll s.heap (frs (X.env :: X.outer))).get? b = some o:=fun b o g nb=>PySem.W.hideAll_get _ g (by rw [← hst]; exact nb)
 have prot : ∀ b o,s.heap.get? b = some o → b ∉ frs X.stack → h2.get? b = some o:=fun b o g nb=>x1.st b o (inB b o g nb)
 have slots : ∀ b o,s.heap.get? b = some o → b ∈ X.fs → ∃ sl,h2.get? b = some { o with slots:=sl }:=fun b o g hb=>by
  obtain ⟨_,o',ho',hd⟩:=I.funs.mem hb
  rw [g] at ho'
  cases ho'
  exact x4 b o (hx.keeps b o g) hd
 have trk : ∀ b u,H b = some u → b ∉ frs X.stack:=fun b u z hb=>by rw [I.stkFree b hb] at z; cases z
 refine ⟨e,C,none,.ref t,H,_,rfl,I.os,I.bare,⟨fun b o g n nb _=>?_,fun b o g n hb _=>?_,fun b o g n _=>I.base.free b o g n (nex b),fun b o g _=>?_,I.base.tups,I.base.frzs,I.base.tbls⟩,fun b u z=>?_,x1,fun b o g n nb=>?_,fun b o u z g=>?_,fun b o g nb=>?_,?_,q⟩
 ·exact prot b o (I.base.keep b o g n nb (nex b)) fun z=>nb (I.oldfr g z)
 ·obtain ⟨sl,e1⟩:=I.base.slot b o g n hb (nex b)
  obtain ⟨sl2,e2⟩:=slots b _ e1 hb
  exact ⟨sl2,e2⟩
 ·obtain ⟨o',e1⟩:=I.base.there b o g (nex b)
  by_cases hb : b ∈ frs X.stack
  ·obtain ⟨sl,e2⟩:=slots b o' e1 (I.oldfr g hb)
   exact ⟨_,e2⟩
  ·exact ⟨o',prot b o' e1 hb⟩
 ·refine (I.hok b u z).stay (fun c o hc g=>?_) (fun _ g=>g) fun _ _ g=>g
  rcases hc with rfl | hc
  ·exact prot c o g (trk c _ z)
  ·exact prot c o g (trk c _ hc)
 ·exact inB b o (I.base.keep b o g n nb (nex b)) fun z=>nb (I.oldfr g z)
 ·obtain ⟨o',e1⟩:=J3B (I.hok b u z)
  have e2:=prot b o' e1 (trk b u z)
  have g' : h2.get? b = some o:=g
  rw [e2] at g'
  cases g'
  exact inB b o e1 (trk b u z)
 ·obtain ⟨o',e1⟩:=I.base.there b o g (nex b)
  exact ⟨o',inB b o' e1 fun z=>nb (I.oldfr g z)⟩
 ·cases z : H e with
  | none=>rfl
  | some u =>
   obtain ⟨o,e1⟩:=J3B (I.hok e u z)
   rw [hx.new] at e1
   cases e1
end
theorem J7x {X : Cx} {E : XK} {x : Str} {C : Addr} {np cpos pos : Pos} {e : Expr} {es : List Expr} {t : TA} (R : Ry X E) (hx : XCls X.K C) (hm : X.mg x = some (.ref C)) (ha : PA X (e :: es) t) (hg : Gl X x:=by rfl) (hdb : (x == ("__debug__" : Str)) = false:=by decide)
  (he : starEach (e :: es) X.env = (false,eval e X.env) :: starEach es X.env:=by rfl) (hpl : (backTo cpos (starEach es X.env)).any (·.1) = false:=by rfl) :
  PS X (.Raise (some (.Call (.Name x np) (e :: es) [] cpos)) none pos) (JeO C E t):=by
 intro pins s σ H D I h
 obtain ⟨bm,N,nm,q,bs,hdct,sn,sub,ab,col,dd,k0,k1,k2,k3,k5,mN,e1,e2,e3,e4⟩:=hx.at I.mod.kin
 refine wpAny_Raise_call_subT (C:=C) (nm:=nm) (q:=q) (N:=N) (bs:=bs) (bm:=bm) (hdct:=hdct) (sn:=sn) (sub:=sub) (ab:=ab) (col:=col) (dd:=dd) (k0:=k0) (k1:=k1) (k2:=k2) (k3:=k3) (k5:=k5) (newId:="ValueError.__new__") (mN:=mN) PySem.F.excBase_ValueError (e4.hasType (by decide)) (I.ok.hd R.cm)
  (by rw [he]; show (false || (backTo cpos (starEach es X.env)).any (·.1)) = false; rw [hpl]; rfl) e3 (J3C I hg hm ⟨rfl,?_⟩ hdb)
 have hh:=ha cpos pins s σ H _ I h
 rw [he] at hh ⊢
 refine Calls.evalArgs_plain (thn hh fun us s1 ⟨vs,H1,I1,r,hl,q⟩=>⟨rfl,by rw [← r.length]; exact hl,I1.bk _ _ e1,e2.keeps I1.bk,e4.keeps I1.bk,fun h' e hm=>?_⟩)
 rw [R.xe]
 exact J7p I1 R.ex R.st R.fr hm q
noncomputable def MtY (P : Program) (w : World) (K : PySem.W.Frag) (mg : Str → Option Value) (base : Heap) (C : Addr) (m : Str) (k : Nat) (ps : List Str) (sp : Sp) : Prop :=
 ∃ f fd,FnOk P w K mg base (CX2 P w) k f fd ps sp ∧ Cls K C ∧ Meth K C m f ∧ J3o K fd ps []
theorem MF.y {P : Program} {w : World} {K : PySem.W.Frag} {mg : Str → Option Value} {base : Heap} {C : Addr} {m qual : Str} {st : Stmt} {N ps : List Str} {k : Nat} {sp : Sp} (F : MF K C m qual st) (cl : Cls K C) (S : Jv N ps (J9 st))
  (bnd : ∀ (kV doc pm : Value) (an : Option Addr) (cdv ct : Value) (us : List Value),us.length = ps.length → bindArgs (PySem.W.fnOf m qual (Ju st) (Jt st) (J9 st) .none kV doc pm an cdv ct) ⟨us,[]⟩ = pure (ps.zip us))
  (len : ∀ vs H Q E,sp vs H Q E → vs.length = ps.length)
  (hbody : ∀ (f : Addr) (cdv : Value) (A : Around) (outer : List Env) (s : Shared) (H : Hp) (vs : List V) (Q : VK) (E : XK),Room k (A.deeper (envOfC qual (J9 st) s.heap.objs.size f cdv)) → sp vs H Q E →
   ∃ t,PSs (cxOf (CX2 P w) P w K mg base N qual (J9 st) f cdv A outer s H E) (Jt st) t ∧ t { nx:=fun _ H'=>Q .non H',rt:=Q } (start N vs) H) : MtY P w K mg base C m (k + 1) ps sp:=by
 obtain ⟨f,fd,F,mm⟩:=F
 refine ⟨f,fd,?_,cl,mm,F.binds bnd⟩
 obtain ⟨oc,od,kV,doc,pm,an,cdv,ct,osl,rfl,lk,hcd⟩:=F.ex
 exact Jd0 lk hcd S len fun A outer s H vs Q E hr hsp=>hbody f cdv A outer s H vs Q E hr hsp
section
variable {X : Cx} {x m : Str} {k : Nat} {ps : List Str} {sp : Sp} {C : Addr} {p pos apos : Pos} {e o : Expr} {es : List Expr} {t : TA} {to : TE} {E : XK}
theorem Jdg {pl : Sem Bool} (G : MtY X.prog X.w X.K X.mg X.base C m k ps sp) (hr : Room k X.A) (hx : J3S (CX2 X.prog X.w) X E) (ho : PE X o to) (ha : PA X (e :: es) t)
  (hst : starEach (e :: es) X.env = (false,eval e X.env) :: starEach es X.env:=by rfl) (hpl : (backTo pos (starEach es X.env)).any (·.1) = false:=by rfl)
  (ht : eval (.Call (.Attribute o m apos) (e :: es) [] pos) X.env = (do
   let ov ← eval o X.env
   standAt apos.atName
   let (f,first) ← holding [ov] (getMethod ov m pl)
   callWith pos f first (backTo pos (starEach (e :: es) X.env)) (backToKw pos (keywordEach [] X.env))):=by rfl) :
  PE X (.Call (.Attribute o m apos) (e :: es) [] pos) (JcR C m sp [] E to t):=by
 obtain ⟨f,fd,a,b,c,d⟩:=G
 exact Jbr (pl:=pl) ho b c a hr d .nil hx ha hst hpl ht
theorem JdH {i : Nat} {x : Str} {te : XK → TE} {pos' : Pos} (hN : X.N.Nodup) (hi : X.N[i]? = some x) (hx : Loc X.env.scope x) (he : PEY X e te) (hs : swapsWith e (some (.Name x pos')) pos.line X.env = pure false:=by rfl) (hf : X.fn x = true ∨ X.env.scope.names.lookup x = some .local:=by first | exact .inl rfl | exact .inr rfl | assumption) :
  PBY X [.Assign [.Name x pos'] e pos] (fun E=>tAsg (te E) (J3n i)):=by
 intro pins s σ H D E Ex I h hx'
 refine wpAny_execs_cons (wpAny_Assign_Name (thn (he pins s σ H _ E Ex I h hx') fun v s1 ⟨y,H1,I1,r1,q1⟩=>?_) hs)
 exact J3V I1 hN hi hx r1 (fun s2 I2=>wpAny_execs_nil ⟨_,H1,I2,q1⟩) hf
end
section
variable {X : Cx} {K : PySem.W.Frag}
theorem Jau (h : X.K = K) : J2n X (.builtin "isinstance") (fun xs H Q=>∃ p C d T b,xs = [.ref p,.ty T] ∧ H p = some (XD p C d) ∧ XIs K C ∧ PySem.W.kitOne K (.ref C) (.type T) = some b ∧ Q (.bl b) H):=by
 subst h
 intro pins s σ H xs us Q I r h
 obtain ⟨p,C,d,T,b,rfl,hp,XT,hk,q⟩:=h
 obtain ⟨u,u2,rfl,r1,r2⟩:=r.two
 cases r1
 obtain rfl : u2 = .type T:=r2
 exact PySem.W.kia_one (J6Q XT.ty XT.cls) I.kIn (XD.o (I.hok p _ hp)) hk (fun z=>nomatch z) fun tk=>⟨.bl b,H,I.tok _,rfl,q⟩
noncomputable def rTM (K : PySem.W.Frag) : R2:=fun x y H Q=>∃ p r a l1 l2 xs ys,x = .ref p ∧ y = .ref r ∧ H p = some (.tup [T a,.ref l1]) ∧ H r = some (.tup [T a,.ref l2]) ∧ H l1 = some (.lst xs) ∧ H l2 = some (.lst ys) ∧ (xs = ys ∧ xs.all J09 = true ∨ J8G K H xs ys) ∧ Q (.bl false) H
theorem JfR {A : Around} {pins : List (Addr × Obj)} {s : Shared} {σ : St} {H : Hp} {a : List Nat} {l1 l2 : Addr} {xs ys : List V} {t1 t2 : Tok} (I : Inv X pins σ H s) (h1 : H l1 = some (.lst xs)) (h2 : H l2 = some (.lst ys)) (hal : J8G X.K H xs ys) (hu : A.units + 1 < cLine) :
  ∀ j (h1 : j < #[Value.str ⟨a.toArray⟩ t1,Value.ref l1].size) (h2 : j < #[Value.str ⟨a.toArray⟩ t2,Value.ref l2].size),SeqAt.EqAt A s #[Value.str ⟨a.toArray⟩ t1,Value.ref l1][j] #[Value.str ⟨a.toArray⟩ t2,Value.ref l2][j] true
 | 0,_,_=>by
  have q:=J3p (A:=A) (s:=s) (xs:=[T a]) (ys:=[T a]) (ia:=[Value.str ⟨a.toArray⟩ t1]) (ib:=[Value.str ⟨a.toArray⟩ t2]) (.cons ⟨t1,rfl⟩ .nil) (.cons ⟨t2,rfl⟩ .nil) rfl rfl 0 (by simp) (by simp)
  have e : eqV (([T a] : List V).getD 0 .non) (([T a] : List V).getD 0 .non) = true:=J6N rfl
  rw [e] at q
  exact q
 | 1,_,_=>by
  show SeqAt.EqAt A s (Value.ref l1) (Value.ref l2) true
  by_cases e : l1 = l2
  ·subst e; exact SeqAt.EqAt.same _
  ·obtain ⟨ia,ra,pa,za⟩:=I.list (SqL.of h1)
   obtain ⟨ib,rb,pb,zb⟩:=I.list (SqL.of h2)
   have la:=ra.length
   have lb:=rb.length
   have:=hal.1
   have q:=SeqAt.RcAt.lists (A:=A) (e:=fun _=>true) pa.isList pb.isList (by simp; omega) (Nat.lt_of_succ_lt hu) (Jc5 I hal ra rb (by first | exact hu | exact Nat.lt_of_succ_lt hu))
   rw [JcH] at q
   exact SeqAt.EqAt.of_refs e q
 | n + 2,h,_=>absurd (show n + 2 < 2 from h) (by omega)
theorem JdR (h : X.K = K) (hu : X.A.units + 2 < cLine) : OpR X (compareOp .NotEq) (rTM K):=by
 subst h
 intro pins s σ H x y v u Q I rx ry h
 obtain ⟨p,r,a,l1,l2,xs,ys,rfl,rfl,hp,hr,h1,h2,hal,q⟩:=h
 rcases hal with ⟨rfl,hf⟩ | hal
 ·exact Jeb (Nat.lt_of_succ_lt hu) pins s σ H _ _ v u Q I rx ry ⟨p,r,a,l1,l2,xs,rfl,rfl,hp,hr,h1,h2,hf,q⟩
 cases rx; cases ry
 obtain ⟨ia,ra,pa,za⟩:=I.tuple (SqT.of hp)
 obtain ⟨ib,rb,pb,zb⟩:=I.tuple (SqT.of hr)
 obtain ⟨w1,w2,rfl,r1,r2⟩:=ra.two
 obtain ⟨w3,w4,rfl,r3,r4⟩:=rb.two
 obtain ⟨t1,rfl⟩:=r1
 obtain ⟨t3,rfl⟩:=r3
 cases r2; cases r4
 exact SeqAt.RcNeAt.tuples (e:=fun _=>true) (show s.heap.IsTuple p _ from pa) (show s.heap.IsTuple r _ from pb) (Nat.lt_of_succ_lt (Nat.lt_of_succ_lt hu)) (JfR I h1 h2 hal (by first | exact hu | exact Nat.lt_of_succ_lt hu)) _ _ _ _ ⟨.bl _,H,I,rfl,q⟩
end
end L2
set_option maxHeartbeats 4000000
namespace K74
open PySem L2
noncomputable def top (i : Nat) : Stmt:=PySem.Challenge.pw_rotafair_k74_swapped.main.body.getD i (.Pass ⟨0,0,0,0⟩)
noncomputable abbrev J5k : Stmt:=top 11
noncomputable abbrev J1Q : Stmt:=top 12
noncomputable abbrev J2X : Stmt:=top 13
noncomputable abbrev J0S : Stmt:=top 14
noncomputable abbrev J1J : Stmt:=J0G (top 16) 0
noncomputable abbrev J1A : Stmt:=J0G (top 16) 2
noncomputable abbrev J2a : Stmt:=J0G (top 17) 0
noncomputable abbrev J2y : Stmt:=J0G (top 17) 2
noncomputable abbrev J1M : Stmt:=J0G (top 18) 0
noncomputable abbrev J2e : Stmt:=J0G (top 18) 2
noncomputable abbrev J29 : Stmt:=J0G (top 19) 0
noncomputable abbrev J1q : Stmt:=J0G (top 20) 0
noncomputable abbrev J2w : Stmt:=J0G (top 21) 0
noncomputable abbrev J2t : Stmt:=J0G (top 19) 2
noncomputable abbrev J1V : Stmt:=J0G (top 20) 2
noncomputable abbrev J2S : Stmt:=J0G (top 21) 2
noncomputable abbrev J25 : Stmt:=top 22
noncomputable abbrev J1t : Stmt:=J0G (top 24) 0
noncomputable abbrev J1S : Stmt:=J0G (top 25) 0
noncomputable abbrev J1T : Stmt:=J0G (top 25) 1
noncomputable abbrev J1y : Stmt:=top 26
noncomputable abbrev J0A : Stmt:=J0G (top 25) 3
noncomputable abbrev J2r : Stmt:=top 29
noncomputable abbrev J0D : Stmt:=top 30
noncomputable abbrev J0F : Stmt:=top 31
noncomputable abbrev J0U : Stmt:=top 32
noncomputable abbrev J1s : Stmt:=top 33
noncomputable abbrev J06 : Stmt:=J0G (top 25) 4
noncomputable abbrev J0T : Stmt:=top 34
noncomputable abbrev J1i : Stmt:=top 36
noncomputable abbrev J1j : Stmt:=top 35
noncomputable abbrev J3j : Stmt:=top 28
noncomputable abbrev J1c : Stmt:=top 43
noncomputable abbrev J1O : Stmt:=top 44
noncomputable abbrev J1x : Stmt:=top 45
noncomputable abbrev J24 : Stmt:=top 46
noncomputable abbrev J1h : Stmt:=top 47
noncomputable abbrev J08 : Stmt:=top 48
noncomputable abbrev J1p : Stmt:=top 49
noncomputable abbrev JX : Stmt:=top 50
noncomputable abbrev J0l : Stmt:=top 51
noncomputable abbrev J2x : Stmt:=top 52
noncomputable abbrev J0m : Stmt:=top 53
noncomputable abbrev J0o : Stmt:=top 54
noncomputable abbrev J1g : Stmt:=J0G (top 9) 0
noncomputable abbrev J0J : Stmt:=top 39
noncomputable abbrev J2v : Stmt:=top 41
noncomputable abbrev J1N : Stmt:=top 38
noncomputable abbrev J2T : Stmt:=top 40
noncomputable abbrev J2q : Stmt:=top 55
noncomputable abbrev J2Q : Stmt:=top 56
noncomputable abbrev J1G : Stmt:=top 57
noncomputable abbrev J2u : Stmt:=top 58
noncomputable abbrev J3I : Stmt:=top 59
theorem Jdw : Jv ["sign","mark"] ["sign","mark"] (J9 J5k):=⟨rfl,rfl,rfl,by decide +kernel,rfl,by decide +kernel,by decide +kernel⟩
theorem J7i : Jv ["marks","many"] ["marks","many"] (J9 J1Q):=⟨rfl,rfl,rfl,by decide +kernel,rfl,by decide +kernel,by decide +kernel⟩
theorem JbC : Jv ["signs","mark"] ["signs","mark"] (J9 J2X):=⟨rfl,rfl,rfl,by decide +kernel,rfl,by decide +kernel,by decide +kernel⟩
theorem J6v : Jv ["signs","marks"] ["signs","marks"] (J9 J0S):=⟨rfl,rfl,rfl,by decide +kernel,rfl,by decide +kernel,by decide +kernel⟩
theorem J7f : Jv ["self","word"] ["self","word"] (J9 J1J):=⟨rfl,rfl,rfl,by decide +kernel,rfl,by decide +kernel,by decide +kernel⟩
theorem J4D : Jv ["self","marks","nearest"] ["self","marks"] (J9 J1A):=⟨rfl,rfl,rfl,by decide +kernel,rfl,by decide +kernel,by decide +kernel⟩
theorem J8q : Jv ["self","many","marks","days"] ["self","many","marks","days"] (J9 J2a):=⟨rfl,rfl,rfl,by decide +kernel,rfl,by decide +kernel,by decide +kernel⟩
theorem J9g : Jv ["self","marks"] ["self","marks"] (J9 J2y):=⟨rfl,rfl,rfl,by decide +kernel,rfl,by decide +kernel,by decide +kernel⟩
theorem J7k : Jv ["self","many","marks","days"] ["self","many","marks","days"] (J9 J1M):=⟨rfl,rfl,rfl,by decide +kernel,rfl,by decide +kernel,by decide +kernel⟩
theorem J8p : Jv ["self","marks"] ["self","marks"] (J9 J2e):=⟨rfl,rfl,rfl,by decide +kernel,rfl,by decide +kernel,by decide +kernel⟩
theorem J8i : Jv ["self","left","right"] ["self","left","right"] (J9 J29):=⟨rfl,rfl,rfl,by decide +kernel,rfl,by decide +kernel,by decide +kernel⟩
theorem J5T : Jv ["self","left","right"] ["self","left","right"] (J9 J1q):=⟨rfl,rfl,rfl,by decide +kernel,rfl,by decide +kernel,by decide +kernel⟩
theorem J96 : Jv ["self","inner"] ["self","inner"] (J9 J2w):=⟨rfl,rfl,rfl,by decide +kernel,rfl,by decide +kernel,by decide +kernel⟩
theorem J93 : Jv ["self","marks"] ["self","marks"] (J9 J2t):=⟨rfl,rfl,rfl,by decide +kernel,rfl,by decide +kernel,by decide +kernel⟩
theorem J6Z : Jv ["self","marks"] ["self","marks"] (J9 J1V):=⟨rfl,rfl,rfl,by decide +kernel,rfl,by decide +kernel,by decide +kernel⟩
theorem Ja6 : Jv ["self","marks"] ["self","marks"] (J9 J2S):=⟨rfl,rfl,rfl,by decide +kernel,rfl,by decide +kernel,by decide +kernel⟩
theorem J9e : Jv ["rule","past","row"] ["rule","past","row"] (J9 J25):=⟨rfl,rfl,rfl,by decide +kernel,rfl,by decide +kernel,by decide +kernel⟩
theorem J60 : Jv ["self","name","skills","most","carried","past"] ["self","name","skills","most","carried","past"] (J9 J1t):=⟨rfl,rfl,rfl,by decide +kernel,rfl,by decide +kernel,by decide +kernel⟩
theorem J6Y : Jv ["self","days","kinds","needs","persons","leave","wishes","rules","pairs"] ["self","days","kinds","needs","persons","leave","wishes","rules","pairs"] (J9 J1S):=⟨rfl,rfl,rfl,by decide +kernel,rfl,by decide +kernel,by decide +kernel⟩
theorem J21 : Jv ["self","day","kind","need_day","need_kind","least","most"] ["self","day","kind"] (J9 J1T):=⟨rfl,rfl,rfl,by decide +kernel,rfl,by decide +kernel,by decide +kernel⟩
theorem J8n : Jv ["marks"] ["marks"] (J9 J1y):=⟨rfl,rfl,rfl,by decide +kernel,rfl,by decide +kernel,by decide +kernel⟩
theorem J0k : Jv ["self","name","p","person"] ["self","name"] (J9 J0A):=⟨rfl,rfl,rfl,by decide +kernel,rfl,by decide +kernel,by decide +kernel⟩
theorem Ja3 : Jv ["house","rota","day"] ["house","rota","day"] (J9 J2r):=⟨rfl,rfl,rfl,by decide +kernel,rfl,by decide +kernel,by decide +kernel⟩
theorem J3E : Jv ["house","rota","day","having"] ["house","rota","day"] (J9 J0D):=⟨rfl,rfl,rfl,by decide +kernel,rfl,by decide +kernel,by decide +kernel⟩
theorem J3F : Jv ["house","rota","day","having"] ["house","rota","day"] (J9 J0F):=⟨rfl,rfl,rfl,by decide +kernel,rfl,by decide +kernel,by decide +kernel⟩
theorem J1C : Jv ["house","rota","day","found","kind","need","many"] ["house","rota","day"] (J9 J0U):=⟨rfl,rfl,rfl,by decide +kernel,rfl,by decide +kernel,by decide +kernel⟩
theorem J1D : Jv ["house","rota","day","found","person","row","many"] ["house","rota","day"] (J9 J1s):=⟨rfl,rfl,rfl,by decide +kernel,rfl,by decide +kernel,by decide +kernel⟩
theorem J2Y : Jv ["self","p","names"] ["self","p"] (J9 J06):=⟨rfl,rfl,rfl,by decide +kernel,rfl,by decide +kernel,by decide +kernel⟩
theorem J0B : Jv ["house","rota","day","found","p","person","marks","bound"] ["house","rota","day"] (J9 J0T):=⟨rfl,rfl,rfl,by decide +kernel,rfl,by decide +kernel,by decide +kernel⟩
theorem J63 : Jv ["word","mark","other"] ["word","mark","other"] (J9 J1i):=⟨rfl,rfl,rfl,by decide +kernel,rfl,by decide +kernel,by decide +kernel⟩
theorem J13 : Jv ["house","rota","day","found","number","pair","mark","other"] ["house","rota","day"] (J9 J1j):=⟨rfl,rfl,rfl,by decide +kernel,rfl,by decide +kernel,by decide +kernel⟩
theorem J1L : Jv ["house","rota","found","day"] ["house","rota"] (J9 J3j):=⟨rfl,rfl,rfl,by decide +kernel,rfl,by decide +kernel,by decide +kernel⟩
theorem J5S : Jv ["_law_script","_law_k"] ["_law_script","_law_k"] (J9 J1c):=⟨rfl,rfl,rfl,by decide +kernel,rfl,by decide +kernel,by decide +kernel⟩
theorem J1Z : Jv ["_law_cell","_law_many","_law_found","_law_number","_law_k"] ["_law_cell","_law_many"] (J9 J1O):=⟨rfl,rfl,rfl,by decide +kernel,rfl,by decide +kernel,by decide +kernel⟩
theorem J3r : Jv ["_law_cell","_law_some","_law_many"] ["_law_cell"] (J9 J1x):=⟨rfl,rfl,rfl,by decide +kernel,rfl,by decide +kernel,by decide +kernel⟩
theorem J2F : Jv ["_law_cell","_law_p","_law_some","_law_body","_law_at","_law_name_here"] ["_law_cell","_law_p"] (J9 J24):=⟨rfl,rfl,rfl,by decide +kernel,rfl,by decide +kernel,by decide +kernel⟩
theorem J07 : Jv ["_law_script","_law_many","_law_days","_law_kinds_here","_law_marks","_law_numbers","_law_rota","_law_p","_law_row","_law_day","_law_number"] ["_law_script","_law_many","_law_days","_law_kinds_here"] (J9 J1h):=⟨rfl,rfl,rfl,by decide +kernel,rfl,by decide +kernel,by decide +kernel⟩
theorem JL : Jv ["_law_rota","_law_days","_law_kinds_here","_law_cell","_law_slack","_law_numbers","_law_found","_law_day","_law_k","_law_many","_law_number","_law_least","_law_most"] ["_law_rota","_law_days","_law_kinds_here","_law_cell","_law_slack"] (J9 J08):=⟨rfl,rfl,rfl,by decide +kernel,rfl,by decide +kernel,by decide +kernel⟩
theorem J3O : Jv ["_law_script","_law_p","_law_cell"] ["_law_script","_law_p"] (J9 J1p):=⟨rfl,rfl,rfl,by decide +kernel,rfl,by decide +kernel,by decide +kernel⟩
theorem JJ : Jv ["_law_script","_law_rota","_law_kinds_here","_law_found","_law_p","_law_numbers","_law_skills","_law_k","_law_many","_law_most","_law_past","_law_name_here"] ["_law_script","_law_rota","_law_kinds_here"] (J9 JX):=⟨rfl,rfl,rfl,by decide +kernel,rfl,by decide +kernel,by decide +kernel⟩
theorem J0C : Jv ["_law_rota","_law_persons","_law_days","_law_cell","_law_numbers","_law_found","_law_p","_law_day"] ["_law_rota","_law_persons","_law_days","_law_cell"] (J9 J0l):=⟨rfl,rfl,rfl,by decide +kernel,rfl,by decide +kernel,by decide +kernel⟩
theorem J35 : Jv ["_law_cell","_law_kinds_here","_law_letter","_law_days","_law_many"] ["_law_cell","_law_kinds_here"] (J9 J2x):=⟨rfl,rfl,rfl,by decide +kernel,rfl,by decide +kernel,by decide +kernel⟩
theorem JO : Jv ["_law_script","_law_rota","_law_persons","_law_kinds_here","_law_start","_law_found","_law_cell","_law_rule_here","_law_name_here","_law_kept","_law_person","_law_row"] ["_law_script","_law_rota","_law_persons","_law_kinds_here","_law_start"] (J9 J0m):=⟨rfl,rfl,rfl,by decide +kernel,rfl,by decide +kernel,by decide +kernel⟩
theorem JP : Jv ["_law_rota","_law_persons","_law_cell","_law_found","_law_word","_law_number","_law_one","_law_two","_law_clash","_law_mark","_law_sign"] ["_law_rota","_law_persons","_law_cell"] (J9 J0o):=⟨rfl,rfl,rfl,by decide +kernel,rfl,by decide +kernel,by decide +kernel⟩
theorem J5V : Jv ["self","day","word","who","which"] ["self","day","word","who","which"] (J9 J1g):=⟨rfl,rfl,rfl,by decide +kernel,rfl,by decide +kernel,by decide +kernel⟩
theorem J2s : Jv ["house","rota","found","first"] ["house","rota"] (J9 J0J):=⟨rfl,rfl,rfl,by decide +kernel,rfl,by decide +kernel,by decide +kernel⟩
theorem J9i : Jv ["row","day","mark"] ["row","day","mark"] (J9 J2v):=⟨rfl,rfl,rfl,by decide +kernel,rfl,by decide +kernel,by decide +kernel⟩
theorem J75 : Jv ["house","day","first"] ["house","day","first"] (J9 J1N):=⟨rfl,rfl,rfl,by decide +kernel,rfl,by decide +kernel,by decide +kernel⟩
theorem J3u : Jv ["house","rota","name","other","day","first","second","changed"] ["house","rota","name","other","day"] (J9 J2T):=⟨rfl,rfl,rfl,by decide +kernel,rfl,by decide +kernel,by decide +kernel⟩
theorem J1B : Jv ["_law_house","_law_rota","_law_name_here","_law_other","_law_day","_law_found","_law_error","e"] ["_law_house","_law_rota","_law_name_here","_law_other","_law_day"] (J9 J2q):=⟨rfl,rfl,rfl,by decide +kernel,rfl,by decide +kernel,by decide +kernel⟩
theorem J2U : Jv ["_law_house","_law_rota","_law_one","_law_two","_law_day","_law_found","_law_first","_law_second","_law_bad"] ["_law_house","_law_rota","_law_one","_law_two","_law_day"] (J9 J2Q):=⟨rfl,rfl,rfl,by decide +kernel,rfl,by decide +kernel,by decide +kernel⟩
theorem J22 : Jv ["_law_rota","_law_cell","_law_days","_law_kinds_here","_law_found","_law_p","_law_day","_law_mark"] ["_law_rota","_law_cell","_law_days","_law_kinds_here"] (J9 J1G):=⟨rfl,rfl,rfl,by decide +kernel,rfl,by decide +kernel,by decide +kernel⟩
theorem J0b : Jv ["_law_script","_law_many","_law_days","_law_kinds_here","_law_rota","_law_cell","_law_needs","_law_persons","_law_leave","_law_rules","_law_pairs","_law_house"] ["_law_script"] (J9 J2u):=⟨rfl,rfl,rfl,by decide +kernel,rfl,by decide +kernel,by decide +kernel⟩
theorem J0H : Jv ["_law_script","_law_house","_law_rota","_law_many","_law_days","_law_cell","_law_one","_law_two","_law_day","_law_name_here","_law_other","_law_due_here","_law_handed","_law_again","_law_found"] ["_law_script"] (J9 J3I):=⟨rfl,rfl,rfl,by decide +kernel,rfl,by decide +kernel,by decide +kernel⟩
structure Tx (K : PySem.W.Frag) (mg : Str → Option Value) (Jk Jo Ji Jp Je Js J8 J4 J6 Jf Jc Ja Jm Jg Jb J5 : Addr) : Prop where
 Jev : GF K mg "fits" J5k
 J86 : GF K mg "last_marks" J1Q
 Jco : GF K mg "let_by" J2X
 J7e : GF K mg "count_among" J0S
 J7S : MF K Jk "__init__" "Never.__init__" J1J
 J9f : MF K Jk "bad" "Never.bad" J1A
 J95 : MF K Jo "__init__" "Most.__init__" J2a
 Ja0 : MF K Jo "bad" "Most.bad" J2y
 J8r : MF K Ji "__init__" "Least.__init__" J1M
 J90 : MF K Ji "bad" "Least.bad" J2e
 J9j : MF K Jp "__init__" "Both.__init__" J29
 J79 : MF K Je "__init__" "Either.__init__" J1q
 Ja5 : MF K Js "__init__" "Not.__init__" J2w
 J9U : MF K Jp "bad" "Both.bad" J2t
 J89 : MF K Je "bad" "Either.bad" J1V
 Jbv : MF K Js "bad" "Not.bad" J2S
 Jan : GF K mg "bad_days" J25
 J7a : MF K J8 "__init__" "Person.__init__" J1t
 J8b : MF K J4 "__init__" "House.__init__" J1S
 J7V : MF K J4 "need" "House.need" J1T
 J9m : GF K mg "duties_in" J1y
 J3k : MF K J4 "place_of" "House.place_of" J0A
 JbB : GF K mg "on_duty" J2r
 J6a : GF K mg "skill_faults" J0D
 J6d : GF K mg "leave_faults" J0F
 J7b : GF K mg "need_faults" J0U
 J74 : GF K mg "most_faults" J1s
 J4r : MF K J4 "rules_for" "House.rules_for" J06
 J7h : GF K mg "rule_faults" J0T
 J72 : GF K mg "breaks_pair" J1i
 J73 : GF K mg "pair_faults" J1j
 Jcf : GF K mg "faults" J3j
 J77 : GF K mg "_law_cell_at" J1c
 J8h : GF K mg "_law_stream" J1O
 J9b : GF K mg "_law_kinds" J1x
 Ja2 : GF K mg "_law_name" J24
 J7c : GF K mg "_law_planted" J1h
 J4C : GF K mg "_law_needs_about" J08
 J7n : GF K mg "_law_carried" J1p
 J46 : GF K mg "_law_persons_about" JX
 J4u : GF K mg "_law_leave_about" J0l
 Ja4 : GF K mg "_law_rule" J2x
 J4t : GF K mg "_law_rules_about" J0m
 J4s : GF K mg "_law_pairs_about" J0o
 J71 : MF K J5 "__init__" "Faulty.__init__" J1g
 J5K : GF K mg "refuse_faults" J0J
 J9Y : GF K mg "row_with" J2v
 J7X : GF K mg "refuse_day" J1N
 JbF : GF K mg "swapped" J2T
 Jal : GF K mg "_law_came" J2q
 Jby : GF K mg "_law_due" J2Q
 J7Y : GF K mg "_law_marked" J1G
 Ja1 : GF K mg "_law_case" J2u
 JfZ : GF K mg "law" J3I
 J3v : CF K mg "Never" Jk
 J3w : CF K mg "Most" Jo
 J2A : CF K mg "Least" Ji
 J4i : CF K mg "Both" Jp
 J2W : CF K mg "Either" Je
 J94 : CF K mg "Not" Js
 J0d : CF K mg "Person" J8
 J00 : CF K mg "House" J4
 J92 : mg "RotaError" = some (.ref J6)
 J7U : mg "NoDay" = some (.ref Jf)
 Jbz : mg "NoHouse" = some (.ref Jc)
 J6b : mg "NoName" = some (.ref Ja)
 JdD : mg "NoRow" = some (.ref Jm)
 Jcm : mg "NoRule" = some (.ref Jg)
 JbE : mg "TooWide" = some (.ref Jb)
 J6x : mg "Faulty" = some (.ref J5)
 J3i : XCls K Ja
 JbA : XIs K Ja
 J0u : PySem.W.exmOne K (.ref Ja) (.ref J6) = some true
 J12 : PySem.W.kitOne K (.ref Ja) (.ref J5) = some false
 J0Y : PySem.W.kitOne K (.ref Ja) (.ref Ja) = some true
 J1b : PySem.W.kitOne K (.ref Ja) (.ref Jf) = some false
 J0i : PySem.W.kitOne K (.ref Ja) (.type "ValueError") = some true
 J2H : PySem.W.kitAny K (.ref Ja) [.ref Jc,.ref Jm,.ref Jg,.ref Jb] = some false
 J3a : PySem.W.kitAny K (.ref Ja) [.ref Ja,.ref Jf] = some true
 J3J : XCls K Jf
 Jce : XIs K Jf
 J0E : PySem.W.exmOne K (.ref Jf) (.ref J6) = some true
 J19 : PySem.W.kitOne K (.ref Jf) (.ref J5) = some false
 J1a : PySem.W.kitOne K (.ref Jf) (.ref Ja) = some false
 J1w : PySem.W.kitOne K (.ref Jf) (.ref Jf) = some true
 J0t : PySem.W.kitOne K (.ref Jf) (.type "ValueError") = some true
 J2V : PySem.W.kitAny K (.ref Jf) [.ref Jc,.ref Jm,.ref Jg,.ref Jb] = some false
 J3t : PySem.W.kitAny K (.ref Jf) [.ref Ja,.ref Jf] = some true
 J2R : XIn K J5
 J7v : XIs K J5
 J0s : PySem.W.exmOne K (.ref J5) (.ref J6) = some true
 J0Z : PySem.W.kitOne K (.ref J5) (.ref J5) = some true
 J1U : PySem.W.kitOne K (.ref J5) (.ref Ja) = some false
 J23 : PySem.W.kitOne K (.ref J5) (.ref Jf) = some false
 J0h : PySem.W.kitOne K (.ref J5) (.type "ValueError") = some true
 J2G : PySem.W.kitAny K (.ref J5) [.ref Jc,.ref Jm,.ref Jg,.ref Jb] = some false
 J2E : PySem.W.kitAny K (.ref J5) [.ref Ja,.ref Jf] = some false
 J2g : JT K Jp "left"
 J1K : JT K Jp "right"
 J1l : JT K Je "left"
 J0X : JT K Je "right"
 J1P : JT K J5 "day"
 J1r : JT K J5 "word"
 J1R : JT K J5 "who"
 J10 : JT K J5 "which"
 J0N : JT K J4 "days"
 J1k : JT K J4 "kinds"
 J1e : JT K J4 "needs"
 JV : JT K J4 "persons"
 J1n : JT K J4 "leave"
 J1z : JT K J4 "wishes"
 J1o : JT K J4 "rules"
 J1d : JT K J4 "pairs"
 J1I : JT K Ji "many"
 J1f : JT K Ji "marks"
 J16 : JT K Ji "days"
 J2f : JT K Jo "many"
 J1H : JT K Jo "marks"
 J2d : JT K Jo "days"
 J0O : JT K Jk "word"
 J2c : JT K Js "inner"
 JM : JT K J8 "name"
 J0K : JT K J8 "skills"
 J1m : JT K J8 "most"
 J11 : JT K J8 "carried"
 J0V : JT K J8 "past"
 J2j : mg "ValueError" = none
 J97 : mg "all" = none
 J99 : mg "any" = none
 J0P : mg "enumerate" = none
 J04 : mg "isinstance" = none
 J0y : mg "len" = none
 J1Y : mg "list" = none
 J8V : mg "max" = none
 J8Z : mg "min" = none
 J0n : mg "range" = none
 J5C : mg "zip" = none
theorem J5u {n : Nat} (h : n ≤ 1000) : n ≤ sizeLine:=Nat.le_trans h (by decide)
theorem J4J {α : Type} (l : List α) (k : Int) (h0 : 0 ≤ k) : cutN l (some k) none = l.drop k.toNat:=by
 unfold cutN
 have e : HT.sIx l.length 0 (some k) = min k.toNat l.length:=by
  show (if k < 0 then _ else min k.toNat l.length) = _
  rw [if_neg (by omega)]
 rw [e,HT.sIx_none]
 by_cases h : k.toNat ≤ l.length
 ·rw [Nat.min_eq_left h]
  exact List.take_of_length_le (by rw [List.length_drop]; omega)
 ·rw [Nat.min_eq_right (by omega),List.drop_eq_nil_of_le (Nat.le_refl _),List.drop_eq_nil_of_le (by omega),List.take_nil]
theorem Jaz {α : Type} (l : List α) (k : Int) (h0 : 0 ≤ k) : cutN l none (some k) = l.take k.toNat:=by
 unfold cutN
 have e : HT.sIx l.length l.length (some k) = min k.toNat l.length:=by
  show (if k < 0 then _ else min k.toNat l.length) = _
  rw [if_neg (by omega)]
 rw [e,HT.sIx_none,List.drop_zero,Nat.sub_zero]
 by_cases h : k.toNat ≤ l.length
 ·rw [Nat.min_eq_left h]
 ·rw [Nat.min_eq_right (by omega),List.take_of_length_le (Nat.le_refl _),List.take_of_length_le (by omega)]
theorem J17 {α : Type} (l : List α) (lo hi : Option Int) : (cutN l lo hi).length ≤ l.length:=by
 unfold cutN
 rw [List.length_take,List.length_drop]
 omega
theorem J2P {α : Type} (l : List α) (i : Int) (h0 : 0 ≤ i) (h : i < l.length) : ∃ c,atI l i = some c ∧ l[i.toNat]? = some c:=by
 have hi : i.toNat < l.length:=by omega
 have e : i = ((i.toNat : Nat) : Int):=by omega
 have q : atI l ((i.toNat : Nat) : Int) = some l[i.toNat]:=J05 (by simp [hi])
 rw [← e] at q
 exact ⟨l[i.toNat],q,List.getElem?_eq_getElem hi⟩
theorem J4l (ns : List Int) (i : Int) (h0 : 0 ≤ i) (h : i < ns.length) : ∃ z,atI (ns.map V.int) i = some (.int z) ∧ ns[i.toNat]? = some z:=by
 obtain ⟨c,h1,h2⟩:=J2P (ns.map V.int) i h0 (by rw [List.length_map]; exact h)
 rw [List.getElem?_map] at h2
 cases hz : ns[i.toNat]? with
 | none=>rw [hz] at h2; cases h2
 | some z =>
  rw [hz] at h2
  have e : c = .int z:=(Option.some.inj h2).symm
  subst e
  exact ⟨z,h1,rfl⟩
theorem JcL {ys : List V} (h : ∀ y ∈ ys,∃ c,y = T [c]) : ∃ cs : List Nat,ys = (cs.map fun c=>[c]).map T ∧ cs.length = ys.length:=by
 induction ys with
 | nil=>exact ⟨[],rfl,rfl⟩
 | cons y r ih =>
  obtain ⟨c,rfl⟩:=h y List.mem_cons_self
  obtain ⟨cs,e,hl⟩:=ih fun z hz=>h z (List.mem_cons_of_mem _ hz)
  exact ⟨c :: cs,by rw [e]; rfl,by simp [hl]⟩
noncomputable def J3b (x y : V) : Bool:=if decide (x = T [63]) = true then true else if decide (x = T [35]) = true then !decide (y = T [45]) else decide (x = y)
noncomputable def Jdy : Sp:=fun vs H Q _=>∃ a b,vs = [T a,T b] ∧ Q (.bl (J3b (T a) (T b))) H
noncomputable def Jdu : Sp:=fun vs H Q _=>∃ l n,vs = [T l,.int n] ∧ l.length ≤ 1000 ∧ 0 ≤ n ∧ Q (T (l.drop (l.length - n.toNat))) H
noncomputable def sp_law (K : PySem.W.Frag) : Sp:=fun vs H Q _=>∃ (a : Addr) (ns : List Int),vs = [.ref a] ∧ SqL K H a (ns.map V.int) ∧ ns.length ≤ 63 ∧ ∀ H',Q (.bl true) H'
theorem JeU {p : (Nat → Nat → St → Hp → Prop) → Prop} (h : ∃ W,p W) : ∃ W,p W:=h
theorem JdW {p : (Nat → St → Hp → Prop) → Prop} (h : ∃ W,p W) : ∃ W,p W:=h
theorem Jfs {A B : Prop} (h : B) : if (!true) = true then A else B:=h
theorem Jfv {A B : Prop} (h : A) : if (!false) = true then A else B:=h
theorem Je8 {i j : Int} (h1 : 0 < j) (h2 : j < 1073741824) : CDiv i j:=⟨h1,h2⟩
theorem Jfx {i j : Int} (h1 : -(2 ^ 64) < i) (h2 : i < 2 ^ 64) : CMul i j:=.inl ⟨h1,h2⟩
theorem JfB {i j : Int} (h1 : -(2 ^ 64) < j) (h2 : j < 2 ^ 64) : CMul i j:=.inr ⟨h1,h2⟩
theorem JeH {n : Int} (h : 0 < n) : 0 < n:=h
@[irreducible] def Here (p : Prop) : Prop:=p
theorem Here.mk {p : Prop} (h : p) : Here p:=by unfold Here; exact h
theorem Here.out {p : Prop} (h : Here p) : p:=by unfold Here at h; exact h
theorem Jdf {i : Nat} {v : V} {σ σ' : St} {H : Hp} {Q : St → Hp → Prop} (e : σ.set i (some v) = σ') (h : Q σ' H) : J3n i v σ H Q:=by subst e; exact h
theorem JcA {n : Nat} (h : n ≤ 100000) : n ≤ sizeLine:=Nat.le_trans h (by decide)
theorem Jd8 {n : Nat} (h : n ≤ 100000) : n < sizeLine:=Nat.lt_of_le_of_lt h (by decide)
local macro_rules | `(tactic| walk_at "len")=>`(tactic| (simp only [List.length_append,List.length_cons,List.length_nil,List.length_singleton,List.length_take,List.length_drop,List.length_map,List.length_reverse,List.length_range] <;> omega))
local macro_rules | `(tactic| walk_at "st")=>`(tactic| (try simp only [L2.start,List.map_cons,List.map_nil,List.length_cons,List.length_nil,Nat.reduceAdd,Nat.reduceSub,List.replicate_succ,List.replicate_zero,List.cons_append,List.nil_append]))
local macro_rules | `(tactic| walk_at "lk")=>`(tactic| fail)
local macro_rules | `(tactic| walk_at "cl")=>`(tactic| first
 | (with_reducible assumption) | rfl
 | (with_reducible show @LE.le Nat _ _ _; first | omega | (walk_at "len") | exact JcA (by omega) | exact JcA (by walk_at "len"))
 | (with_reducible show @LT.lt Nat _ _ _; first | omega | (walk_at "len") | exact Jd8 (by omega) | exact Jd8 (by walk_at "len"))
 | (with_reducible show @LE.le Int _ _ _; omega) | (with_reducible show @LT.lt Int _ _ _; omega)
 | ((with_reducible refine Je8 ?_ ?_) <;> omega) | ((with_reducible refine Jfx ?_ ?_) <;> omega) | ((with_reducible refine JfB ?_ ?_) <;> omega) | ((with_reducible refine JeH ?_) <;> omega)
 | exact Jd | exact Jy (by with_reducible assumption) _ _ _ Jd | exact SqL.of (by with_reducible assumption) | exact SqL.of Jd | exact SqT.of Jd | exact SqT.of (by with_reducible assumption) | exact Or.inl (by with_reducible assumption) | exact Or.inl (SqL.of (by with_reducible assumption)) | exact Or.inl (SqL.of Jd)
 | exact Or.inl ⟨rfl,_,SqL.of (by with_reducible assumption)⟩ | exact Or.inl ⟨rfl,_,SqL.of Jd⟩ | exact Or.inl ⟨rfl,_,by with_reducible assumption⟩ | exact ⟨_,by with_reducible assumption⟩ | exact ⟨_,SqL.of (by with_reducible assumption)⟩ | exact ⟨_,SqL.of Jd⟩
 | exact ⟨by omega,by omega⟩ | assumption | walk_at "lk")
local macro_rules | `(tactic| walk_at "rd1")=>`(tactic| first
 | (with_reducible refine Jdf (by first | (simp only [List.set_cons_zero,List.set_cons_succ]; done) | (simp only [List.set_cons_zero,List.set_cons_succ]; rfl)) ?_)
 | (with_reducible refine iteT ?_) | (with_reducible refine iteF ?_) | (with_reducible refine Jfs ?_) | (with_reducible refine Jfv ?_)
 | ((fail_if_success apply JeU); (fail_if_success apply JdW); apply Exists.intro)
 | (apply And.intro; (· walk_at "cl"))
 | (refine Or.inl ⟨_,rfl,?_⟩) | (refine Or.inr (Or.inl ⟨_,rfl,?_⟩)) | (refine Or.inr (Or.inr (Or.inl ⟨_,rfl,?_⟩))) | (refine Or.inr (Or.inr (Or.inr (Or.inl ⟨_,rfl,?_⟩)))) | (refine Or.inr (Or.inr (Or.inr (Or.inr ⟨_,_,rfl,by with_reducible assumption,?_⟩)))))
local macro_rules | `(tactic| walk_at "rd")=>`(tactic| repeat (walk_at "rd1"))
noncomputable def letV (m : List Nat) (c : Nat) : Bool:=(m.map fun s=>J3b (T [s]) (T [c])).any id
noncomputable def cntV (m l : List Nat) : Nat:=(l.filter (letV m)).length
noncomputable def Jek (n : Int) (m : List Nat) (d : Int) (l : List Nat) : Bool:=decide (n < (cntV m (l.drop (l.length - d.toNat)) : Int))
noncomputable def J5v (n : Int) (m : List Nat) (d : Int) (l : List Nat) : Bool:=if (l.length : Int) < d then false else decide ((cntV m (l.drop (l.length - d.toNat)) : Int) < n)
noncomputable def J7O (C : Addr) (H : Hp) (p : Addr) (n : Int) (m : List Nat) (d : Int) : Prop:=∃ dx,H p = some (.ins C dx [("many",.int n),("marks",T m),("days",.int d)])
theorem J7O.same {C : Addr} {H H' : Hp} {p : Addr} {n d : Int} {m : List Nat} (h : J7O C H p n m d) (s : Same H H') : J7O C H' p n m d:=let ⟨dx,e⟩:=h; ⟨dx,s _ _ e⟩
theorem Jbi (x y z : V) : List.lookup ("many" : Str) [(("many" : Str),x),("marks",y),("days",z)] = some x:=by rw [List.lookup_cons,beq_self_eq_true]
theorem J9y (x y z : V) : List.lookup ("marks" : Str) [(("many" : Str),x),("marks",y),("days",z)] = some y:=by
 rw [List.lookup_cons,beq_eq_false_iff_ne.mpr (by decide +kernel),List.lookup_cons,beq_self_eq_true]
theorem J8J (x y z : V) : List.lookup ("days" : Str) [(("many" : Str),x),("marks",y),("days",z)] = some z:=by
 rw [List.lookup_cons,beq_eq_false_iff_ne.mpr (by decide +kernel),List.lookup_cons,beq_eq_false_iff_ne.mpr (by decide +kernel),List.lookup_cons,beq_self_eq_true]
theorem put3 (n : Int) (m : List Nat) (d : Int) : putF "days" (.int d) (putF "marks" (T m) (putF "many" (.int n) [])) = ([("many",.int n),("marks",T m),("days",.int d)] : List (Str × V)):=by
 have h1 : ¬ (("many" : Str) = "marks"):=by decide +kernel
 have h2 : ¬ (("many" : Str) = "days"):=by decide +kernel
 have h3 : ¬ (("marks" : Str) = "days"):=by decide +kernel
 simp [putF,h1,h2,h3]
noncomputable def Jes : Sp:=fun vs H Q _=>∃ m c,vs = [T m,T [c]] ∧ m.length ≤ 1000 ∧ ∀ H',Same H H' → Q (.bl (letV m c)) H'
noncomputable def Jck : Sp:=fun vs H Q _=>∃ m l,vs = [T m,T l] ∧ m.length ≤ 1000 ∧ l.length ≤ 1000 ∧ ∀ H',Same H H' → Q (.int (cntV m l)) H'
noncomputable def J4A (C : Addr) : Sp:=fun vs H Q _=>∃ p dx n m d,vs = [.ref p,.int n,T m,.int d] ∧ H p = some (.ins C dx []) ∧ Q .non (upd (upd (upd H p (.ins C dx (putF "many" (.int n) []))) p (.ins C dx (putF "marks" (T m) (putF "many" (.int n) [])))) p (.ins C dx [("many",.int n),("marks",T m),("days",.int d)]))
noncomputable def JaT (C : Addr) (B : Int → List Nat → Int → List Nat → Bool) : Sp:=fun vs H Q _=>∃ p n m d l,vs = [.ref p,T l] ∧ J7O C H p n m d ∧ m.length ≤ 1000 ∧ 0 ≤ d ∧ l.length ≤ 1000 ∧ ∀ H',Same H H' → Q (.bl (B n m d l)) H'
noncomputable def nevB (w l : List Nat) : Bool:=if l.length < w.length then false else ((w.zip (l.drop (l.length - w.length))).map fun p=>J3b (T [p.1]) (T [p.2])).all id
noncomputable def J9r (C : Addr) (H : Hp) (p : Addr) (w : List Nat) : Prop:=∃ dx,H p = some (.ins C dx [("word",T w)])
theorem J9r.same {C : Addr} {H H' : Hp} {p : Addr} {w : List Nat} (h : J9r C H p w) (s : Same H H') : J9r C H' p w:=let ⟨dx,e⟩:=h; ⟨dx,s _ _ e⟩
theorem wl (v : V) : List.lookup ("word" : Str) [(("word" : Str),v)] = some v:=by rw [List.lookup_cons,beq_self_eq_true]
theorem Jbj (x y : V) : List.lookup ("left" : Str) [(("left" : Str),x),("right",y)] = some x:=by rw [List.lookup_cons,beq_self_eq_true]
theorem J9N (x y : V) : List.lookup ("right" : Str) [(("left" : Str),x),("right",y)] = some y:=by
 rw [List.lookup_cons,beq_eq_false_iff_ne.mpr (by decide +kernel),List.lookup_cons,beq_self_eq_true]
theorem Jd7 (x : V) : List.lookup ("inner" : Str) [(("inner" : Str),x)] = some x:=by rw [List.lookup_cons,beq_self_eq_true]
theorem put2 (x y : V) : putF "right" y (putF "left" x []) = ([("left",x),("right",y)] : List (Str × V)):=by
 have h1 : ¬ (("left" : Str) = "right"):=by decide +kernel
 simp [putF,h1]
noncomputable def JaU (C : Addr) : Sp:=fun vs H Q _=>∃ p dx w,vs = [.ref p,T w] ∧ H p = some (.ins C dx []) ∧ Q .non (upd H p (.ins C dx [("word",T w)]))
noncomputable def JeB (C : Addr) : Sp:=fun vs H Q _=>∃ p w l,vs = [.ref p,T l] ∧ J9r C H p w ∧ w.length ≤ 1000 ∧ l.length ≤ 1000 ∧ ∀ H',Same H H' → Q (.bl (nevB w l)) H'
noncomputable def J4E (C : Addr) : Sp:=fun vs H Q _=>∃ p dx a b,vs = [.ref p,.ref a,.ref b] ∧ H p = some (.ins C dx []) ∧ Q .non (upd (upd H p (.ins C dx (putF "left" (.ref a) []))) p (.ins C dx [("left",.ref a),("right",.ref b)]))
noncomputable def J98 (C : Addr) : Sp:=fun vs H Q _=>∃ p dx a,vs = [.ref p,.ref a] ∧ H p = some (.ins C dx []) ∧ Q .non (upd H p (.ins C dx [("inner",.ref a)]))
inductive R where
 | nev (w : List Nat)
 | most (n : Int) (m : List Nat) (d : Int)
 | least (n : Int) (m : List Nat) (d : Int)
 | both (l r : R)
 | either (l r : R)
 | neg (i : R)
noncomputable def R.depth : R → Nat
 | .nev _=>0
 | .most _ _ _=>0
 | .least _ _ _=>0
 | .both l r=>max l.depth r.depth + 1
 | .either l r=>max l.depth r.depth + 1
 | .neg i=>i.depth + 1
noncomputable def R.bad : R → List Nat → Bool
 | .nev w,x=>nevB w x
 | .most n m d,x=>Jek n m d x
 | .least n m d,x=>J5v n m d x
 | .both l r,x=>l.bad x || r.bad x
 | .either l r,x=>l.bad x && r.bad x
 | .neg i,x=>!i.bad x
noncomputable def R.reach : R → Int
 | .nev w=>w.length
 | .most _ _ d=>d
 | .least _ _ d=>d
 | .both l r=>if r.reach > l.reach then r.reach else l.reach
 | .either l r=>if r.reach > l.reach then r.reach else l.reach
 | .neg i=>i.reach
structure Cs where
 nev : Addr
 most : Addr
 least : Addr
 both : Addr
 either : Addr
 neg : Addr
noncomputable def R.cls (c : Cs) : R → Addr
 | .nev _=>c.nev
 | .most _ _ _=>c.most
 | .least _ _ _=>c.least
 | .both _ _=>c.both
 | .either _ _=>c.either
 | .neg _=>c.neg
noncomputable def JR (c : Cs) (H : Hp) : R → Addr → Prop
 | .nev w,p=>J9r c.nev H p w ∧ w.length ≤ 1000
 | .most n m d,p=>J7O c.most H p n m d ∧ m.length ≤ 1000 ∧ 0 ≤ d
 | .least n m d,p=>J7O c.least H p n m d ∧ m.length ≤ 1000 ∧ 0 ≤ d
 | .both l r,p=>∃ dx a b,H p = some (.ins c.both dx [("left",.ref a),("right",.ref b)]) ∧ JR c H l a ∧ JR c H r b
 | .either l r,p=>∃ dx a b,H p = some (.ins c.either dx [("left",.ref a),("right",.ref b)]) ∧ JR c H l a ∧ JR c H r b
 | .neg i,p=>∃ dx a,H p = some (.ins c.neg dx [("inner",.ref a)]) ∧ JR c H i a
theorem JR.same {c : Cs} {H H' : Hp} (s : Same H H') : ∀ {r : R} {p : Addr},JR c H r p → JR c H' r p
 | .nev _,_,h=>⟨h.1.same s,h.2⟩
 | .most _ _ _,_,h=>⟨h.1.same s,h.2⟩
 | .least _ _ _,_,h=>⟨h.1.same s,h.2⟩
 | .both _ _,_,⟨dx,a,b,e,h1,h2⟩=>⟨dx,a,b,s _ _ e,JR.same s h1,JR.same s h2⟩
 | .either _ _,_,⟨dx,a,b,e,h1,h2⟩=>⟨dx,a,b,s _ _ e,JR.same s h1,JR.same s h2⟩
 | .neg _,_,⟨dx,a,e,h1⟩=>⟨dx,a,s _ _ e,JR.same s h1⟩
theorem JR.obj {c : Cs} {H : Hp} {r : R} {p : Addr} (h : JR c H r p) : ∃ dx fs,H p = some (.ins (r.cls c) dx fs) ∧ fs.lookup ("bad" : Str) = none ∧ fs.lookup ("reach" : Str) = none ∧ fs.lookup ("text" : Str) = none:=by
 have no1 : ∀ (x m : Str) (v : V),m ≠ x → List.lookup m [(x,v)] = none:=fun x m v hm=>by rw [List.lookup_cons,beq_eq_false_iff_ne.mpr hm]; rfl
 have no2 : ∀ (x y m : Str) (v u : V),m ≠ x → m ≠ y → List.lookup m [(x,v),(y,u)] = none:=fun x y m v u h1 h2=>by rw [List.lookup_cons,beq_eq_false_iff_ne.mpr h1]; exact no1 _ _ _ h2
 have no3 : ∀ (x y z m : Str) (v u t : V),m ≠ x → m ≠ y → m ≠ z → List.lookup m [(x,v),(y,u),(z,t)] = none:=fun x y z m v u t h1 h2 h3=>by rw [List.lookup_cons,beq_eq_false_iff_ne.mpr h1]; exact no2 _ _ _ _ _ h2 h3
 cases r with
 | nev w =>
  obtain ⟨⟨dx,e⟩,_⟩:=h
  exact ⟨dx,_,e,no1 _ _ _ (by decide +kernel),no1 _ _ _ (by decide +kernel),no1 _ _ _ (by decide +kernel)⟩
 | most n m d =>
  obtain ⟨⟨dx,e⟩,_⟩:=h
  exact ⟨dx,_,e,no3 _ _ _ _ _ _ _ (by decide +kernel) (by decide +kernel) (by decide +kernel),no3 _ _ _ _ _ _ _ (by decide +kernel) (by decide +kernel) (by decide +kernel),no3 _ _ _ _ _ _ _ (by decide +kernel) (by decide +kernel) (by decide +kernel)⟩
 | least n m d =>
  obtain ⟨⟨dx,e⟩,_⟩:=h
  exact ⟨dx,_,e,no3 _ _ _ _ _ _ _ (by decide +kernel) (by decide +kernel) (by decide +kernel),no3 _ _ _ _ _ _ _ (by decide +kernel) (by decide +kernel) (by decide +kernel),no3 _ _ _ _ _ _ _ (by decide +kernel) (by decide +kernel) (by decide +kernel)⟩
 | both l r =>
  obtain ⟨dx,a,b,e,_⟩:=h
  exact ⟨dx,_,e,no2 _ _ _ _ _ (by decide +kernel) (by decide +kernel),no2 _ _ _ _ _ (by decide +kernel) (by decide +kernel),no2 _ _ _ _ _ (by decide +kernel) (by decide +kernel)⟩
 | either l r =>
  obtain ⟨dx,a,b,e,_⟩:=h
  exact ⟨dx,_,e,no2 _ _ _ _ _ (by decide +kernel) (by decide +kernel),no2 _ _ _ _ _ (by decide +kernel) (by decide +kernel),no2 _ _ _ _ _ (by decide +kernel) (by decide +kernel)⟩
 | neg i =>
  obtain ⟨dx,a,e,_⟩:=h
  exact ⟨dx,_,e,no1 _ _ _ (by decide +kernel),no1 _ _ _ (by decide +kernel),no1 _ _ _ (by decide +kernel)⟩
noncomputable def Jfn (c : Cs) (r : R) : Sp:=fun vs H Q _=>∃ p l,vs = [.ref p,T l] ∧ JR c H r p ∧ l.length ≤ 1000 ∧ ∀ H',Same H H' → Q (.bl (r.bad l)) H'
theorem Jcs (ns : List Int) (lo hi : Option Int) : cutV (ns.map V.int) lo hi = (cutN ns lo hi).map V.int:=by
 unfold cutV cutN
 rw [List.length_map,List.map_take,List.map_drop]
theorem JdS {α : Type} (l : List α) (a b : Int) (h0 : 0 ≤ a) (h1 : 0 ≤ b) : cutN l (some a) (some b) = (l.take b.toNat).drop a.toNat:=by
 unfold cutN
 have e1 : HT.sIx l.length 0 (some a) = min a.toNat l.length:=by
  show (if a < 0 then (a + (l.length : Int)).toNat else min a.toNat l.length) = _
  rw [if_neg (by omega)]
 have e2 : HT.sIx l.length l.length (some b) = min b.toNat l.length:=by
  show (if b < 0 then (b + (l.length : Int)).toNat else min b.toNat l.length) = _
  rw [if_neg (by omega)]
 rw [e1,e2]
 refine List.ext_getElem? fun i=>?_
 rw [List.getElem?_take,List.getElem?_drop,List.getElem?_drop,List.getElem?_take]
 by_cases h : a.toNat ≤ l.length
 ·rw [Nat.min_eq_left h]
  by_cases h2 : a.toNat + i < l.length
  ·by_cases h3 : a.toNat + i < b.toNat
   ·rw [if_pos (by omega),if_pos h3]
   ·rw [if_neg (by omega),if_neg h3]
  ·rw [List.getElem?_eq_none (by omega)]
   split <;> split <;> rfl
 ·rw [Nat.min_eq_right (show l.length ≤ a.toNat by omega),List.getElem?_eq_none (i:=l.length + i) (by omega),List.getElem?_eq_none (i:=a.toNat + i) (by omega)]
  split <;> split <;> rfl
noncomputable def rNev (c6 : Cs) : List V → Hp → VK → Prop:=fun vs H Q=>∃ w,vs = [T w] ∧ w.length ≤ 1000 ∧ ∀ p H',Same H H' → JR c6 H' (.nev w) p → Q (.ref p) H'
noncomputable def JaV (c6 : Cs) : List V → Hp → VK → Prop:=fun vs H Q=>∃ n m d,vs = [.int n,T m,.int d] ∧ m.length ≤ 1000 ∧ 0 ≤ d ∧ ∀ p H',Same H H' → JR c6 H' (.most n m d) p → Q (.ref p) H'
noncomputable def J8M (c6 : Cs) : List V → Hp → VK → Prop:=fun vs H Q=>∃ n m d,vs = [.int n,T m,.int d] ∧ m.length ≤ 1000 ∧ 0 ≤ d ∧ ∀ p H',Same H H' → JR c6 H' (.least n m d) p → Q (.ref p) H'
noncomputable def JcP (c6 : Cs) : List V → Hp → VK → Prop:=fun vs H Q=>∃ a b x y,vs = [.ref a,.ref b] ∧ JR c6 H x a ∧ JR c6 H y b ∧ ∀ p dx H',Same H H' → JR c6 H' (.both x y) p → H' p = some (.ins c6.both dx [("left",.ref a),("right",.ref b)]) → Q (.ref p) H'
noncomputable def Jbl (c6 : Cs) : List V → Hp → VK → Prop:=fun vs H Q=>∃ a b x y,vs = [.ref a,.ref b] ∧ JR c6 H x a ∧ JR c6 H y b ∧ ∀ p dx H',Same H H' → JR c6 H' (.either x y) p → H' p = some (.ins c6.either dx [("left",.ref a),("right",.ref b)]) → Q (.ref p) H'
noncomputable def rNot (c6 : Cs) : List V → Hp → VK → Prop:=fun vs H Q=>∃ a x,vs = [.ref a] ∧ JR c6 H x a ∧ ∀ p dx H',Same H H' → JR c6 H' (.neg x) p → H' p = some (.ins c6.neg dx [("inner",.ref a)]) → Q (.ref p) H'
theorem JaQ {c6 : Cs} : ∀ vs H Q,rNev c6 vs H Q → ∀ x dx,H x = none → H dx = none → dx ≠ x → JaU c6.nev (.ref x :: (vs ++ [])) (upd (upd H dx (.own x)) x (.ins c6.nev dx [])) (fun v H2=>v = .non ∧ Q (.ref x) H2) E0:=by
 rintro _ H Q ⟨w,rfl,hw,q⟩ x dx nx ndx _
 exact ⟨x,dx,w,rfl,Jd,rfl,q x _ (((Jy ndx _).upd nx).upd nx) ⟨⟨dx,Jd⟩,hw⟩⟩
theorem J8E {c6 : Cs} : ∀ vs H Q,JaV c6 vs H Q → ∀ x dx,H x = none → H dx = none → dx ≠ x → J4A c6.most (.ref x :: (vs ++ [])) (upd (upd H dx (.own x)) x (.ins c6.most dx [])) (fun v H2=>v = .non ∧ Q (.ref x) H2) E0:=by
 rintro _ H Q ⟨n,m,d,rfl,hm,hd,q⟩ x dx nx ndx _
 exact ⟨x,dx,n,m,d,rfl,Jd,rfl,q x _ (((((Jy ndx _).upd nx).upd nx).upd nx).upd nx) ⟨⟨dx,Jd⟩,hm,hd⟩⟩
theorem J6z {c6 : Cs} : ∀ vs H Q,J8M c6 vs H Q → ∀ x dx,H x = none → H dx = none → dx ≠ x → J4A c6.least (.ref x :: (vs ++ [])) (upd (upd H dx (.own x)) x (.ins c6.least dx [])) (fun v H2=>v = .non ∧ Q (.ref x) H2) E0:=by
 rintro _ H Q ⟨n,m,d,rfl,hm,hd,q⟩ x dx nx ndx _
 exact ⟨x,dx,n,m,d,rfl,Jd,rfl,q x _ (((((Jy ndx _).upd nx).upd nx).upd nx).upd nx) ⟨⟨dx,Jd⟩,hm,hd⟩⟩
theorem JaX {c6 : Cs} : ∀ vs H Q,JcP c6 vs H Q → ∀ x dx,H x = none → H dx = none → dx ≠ x → J4E c6.both (.ref x :: (vs ++ [])) (upd (upd H dx (.own x)) x (.ins c6.both dx [])) (fun v H2=>v = .non ∧ Q (.ref x) H2) E0:=by
 rintro _ H Q ⟨a,b,y,z,rfl,ha,hb,q⟩ x dx nx ndx _
 have ss:=((((Jy ndx (.own x)).upd nx (o:=.ins c6.both dx [])).upd nx (o:=.ins c6.both dx (putF "left" (.ref a) []))).upd nx (o:=.ins c6.both dx [("left",.ref a),("right",.ref b)]))
 exact ⟨x,dx,a,b,rfl,Jd,rfl,q x dx _ ss ⟨dx,a,b,Jd,ha.same ss,hb.same ss⟩ Jd⟩
theorem JbS {c6 : Cs} : ∀ vs H Q,Jbl c6 vs H Q → ∀ x dx,H x = none → H dx = none → dx ≠ x → J4E c6.either (.ref x :: (vs ++ [])) (upd (upd H dx (.own x)) x (.ins c6.either dx [])) (fun v H2=>v = .non ∧ Q (.ref x) H2) E0:=by
 rintro _ H Q ⟨a,b,y,z,rfl,ha,hb,q⟩ x dx nx ndx _
 have ss:=((((Jy ndx (.own x)).upd nx (o:=.ins c6.either dx [])).upd nx (o:=.ins c6.either dx (putF "left" (.ref a) []))).upd nx (o:=.ins c6.either dx [("left",.ref a),("right",.ref b)]))
 exact ⟨x,dx,a,b,rfl,Jd,rfl,q x dx _ ss ⟨dx,a,b,Jd,ha.same ss,hb.same ss⟩ Jd⟩
theorem Jfg {c6 : Cs} : ∀ vs H Q,rNot c6 vs H Q → ∀ x dx,H x = none → H dx = none → dx ≠ x → J98 c6.neg (.ref x :: (vs ++ [])) (upd (upd H dx (.own x)) x (.ins c6.neg dx [])) (fun v H2=>v = .non ∧ Q (.ref x) H2) E0:=by
 rintro _ H Q ⟨a,y,rfl,ha,q⟩ x dx nx ndx _
 have ss:=(((Jy ndx (.own x)).upd nx (o:=.ins c6.neg dx [])).upd nx (o:=.ins c6.neg dx [("inner",.ref a)]))
 exact ⟨x,dx,a,rfl,Jd,rfl,q x dx _ ss ⟨dx,a,Jd,ha.same ss⟩ Jd⟩
theorem J2I {f : Str} {v : V} {r : List (Str × V)} : List.lookup f ((f,v) :: r) = some v:=by rw [List.lookup_cons,beq_self_eq_true]
theorem JN {f g : Str} {v : V} {r : List (Str × V)} (h : f ≠ g) : List.lookup f ((g,v) :: r) = List.lookup f r:=by rw [List.lookup_cons,beq_eq_false_iff_ne.mpr h]
theorem putN {f : Str} {v : V} : ∀ {fs : List (Str × V)},(∀ g ∈ fs.map (·.1),g ≠ f) → putF f v fs = fs ++ [(f,v)]
 | [],_=>rfl
 | (g,x) :: r,h=>by
  have h1 : ¬ g = f:=h g (by simp)
  have ih:=putN (f:=f) (v:=v) (fs:=r) fun g hg=>h g (by rw [List.map_cons]; exact List.mem_cons_of_mem _ hg)
  show (if g = f then (g,v) :: r else (g,x) :: putF f v r) = _
  rw [if_neg h1,ih]
  rfl
noncomputable abbrev fP (a b c d e : V) : List (Str × V):=[("name",a),("skills",b),("most",c),("carried",d),("past",e)]
noncomputable abbrev fH (a b c d e f g h : V) : List (Str × V):=[("days",a),("kinds",b),("needs",c),("persons",d),("leave",e),("wishes",f),("rules",g),("pairs",h)]
theorem J2B (a b c d e : V) : List.lookup ("name" : Str) (fP a b c d e) = some a:=J2I
theorem J5z (a b c d e : V) : List.lookup ("skills" : Str) (fP a b c d e) = some b:=by rw [JN (by decide +kernel),J2I]
theorem J8s (a b c d e : V) : List.lookup ("most" : Str) (fP a b c d e) = some c:=by rw [JN (by decide +kernel),JN (by decide +kernel),J2I]
theorem JaO (a b c d e : V) : List.lookup ("carried" : Str) (fP a b c d e) = some d:=by rw [JN (by decide +kernel),JN (by decide +kernel),JN (by decide +kernel),J2I]
theorem J8T (a b c d e : V) : List.lookup ("past" : Str) (fP a b c d e) = some e:=by rw [JN (by decide +kernel),JN (by decide +kernel),JN (by decide +kernel),JN (by decide +kernel),J2I]
theorem J4I (a b c d e f g h : V) : List.lookup ("days" : Str) (fH a b c d e f g h) = some a:=J2I
theorem J6K (a b c d e f g h : V) : List.lookup ("kinds" : Str) (fH a b c d e f g h) = some b:=by rw [JN (by decide +kernel),J2I]
theorem J6P (a b c d e f g h : V) : List.lookup ("needs" : Str) (fH a b c d e f g h) = some c:=by rw [JN (by decide +kernel),JN (by decide +kernel),J2I]
theorem J28 (a b c d e f g h : V) : List.lookup ("persons" : Str) (fH a b c d e f g h) = some d:=by rw [JN (by decide +kernel),JN (by decide +kernel),JN (by decide +kernel),J2I]
theorem J6A (a b c d e f g h : V) : List.lookup ("leave" : Str) (fH a b c d e f g h) = some e:=by rw [JN (by decide +kernel),JN (by decide +kernel),JN (by decide +kernel),JN (by decide +kernel),J2I]
theorem JbO (a b c d e f g h : V) : List.lookup ("wishes" : Str) (fH a b c d e f g h) = some f:=by rw [JN (by decide +kernel),JN (by decide +kernel),JN (by decide +kernel),JN (by decide +kernel),JN (by decide +kernel),J2I]
theorem J9Q (a b c d e f g h : V) : List.lookup ("rules" : Str) (fH a b c d e f g h) = some g:=by rw [JN (by decide +kernel),JN (by decide +kernel),JN (by decide +kernel),JN (by decide +kernel),JN (by decide +kernel),JN (by decide +kernel),J2I]
theorem J9O (a b c d e f g h : V) : List.lookup ("pairs" : Str) (fH a b c d e f g h) = some h:=by rw [JN (by decide +kernel),JN (by decide +kernel),JN (by decide +kernel),JN (by decide +kernel),JN (by decide +kernel),JN (by decide +kernel),JN (by decide +kernel),J2I]
noncomputable def J5G (C : Addr) (H : Hp) (p : Addr) (nm sk : List Nat) (m c : Int) (pa : List Nat) : Prop:=∃ dx,H p = some (.ins C dx (fP (T nm) (T sk) (.int m) (.int c) (T pa)))
theorem J5G.keeps {C : Addr} {H H' : Hp} {p : Addr} {nm sk pa : List Nat} {m c : Int} (h : J5G C H p nm sk m c pa) (k : J01 H H') : J5G C H' p nm sk m c pa:=let ⟨dx,e⟩:=h; ⟨dx,k _ _ e fun zs z=>by cases z⟩
noncomputable def J4R (C : Addr) (H : Hp) (p : Addr) (d : Int) (k : List Nat) (a1 a2 a3 a4 a5 a6 : Addr) : Prop:=∃ dx,H p = some (.ins C dx (fH (.int d) (T k) (.ref a1) (.ref a2) (.ref a3) (.ref a4) (.ref a5) (.ref a6)))
theorem J4R.keeps {C : Addr} {H H' : Hp} {p : Addr} {d : Int} {k : List Nat} {a1 a2 a3 a4 a5 a6 : Addr} (h : J4R C H p d k a1 a2 a3 a4 a5 a6) (kk : J01 H H') : J4R C H' p d k a1 a2 a3 a4 a5 a6:=let ⟨dx,e⟩:=h; ⟨dx,kk _ _ e fun zs z=>by cases z⟩
noncomputable def But (p : Addr) (H H' : Hp) : Prop:=∀ a o,a ≠ p → H a = some o → H' a = some o
theorem But.refl (p : Addr) (H : Hp) : But p H H:=fun _ _ _ h=>h
theorem But.at {p : Addr} {H H' : Hp} {o : HO} (b : But p H H') : But p H (upd H' p o):=fun a u n e=>by rw [Jn n]; exact b a u n e
theorem But.new {p l : Addr} {H H' : Hp} {o : HO} (b : But p H H') (hl : H' l = none) : But p H (upd H' l o):=fun a u n e=>by
 have:=b a u n e
 rw [Jn (Jj this hl)]; exact this
noncomputable def J9a (C : Addr) : Sp:=fun vs H Q _=>∃ p dx a b c d e,vs = [.ref p,a,b,c,d,e] ∧ H p = some (.ins C dx []) ∧ ∀ H',But p H H' → H' p = some (.ins C dx (fP a b c d e)) → Q .non H'
noncomputable def J9n (C : Addr) : Sp:=fun vs H Q _=>∃ p dx d k b1 b2 b3 b4 b5 b6 x1 x2 x3 x4 x5 x6,vs = [.ref p,d,k,.ref b1,.ref b2,.ref b3,.ref b4,.ref b5,.ref b6] ∧ H p = some (.ins C dx []) ∧
 H b1 = some (.lst x1) ∧ H b2 = some (.lst x2) ∧ H b3 = some (.lst x3) ∧ H b4 = some (.lst x4) ∧ H b5 = some (.lst x5) ∧ H b6 = some (.lst x6) ∧
 ∀ H' a1 a2 a3 a4 a5 a6,But p H H' → H' p = some (.ins C dx (fH d k (.ref a1) (.ref a2) (.ref a3) (.ref a4) (.ref a5) (.ref a6))) → H' a1 = some (.lst x1) → H' a2 = some (.lst x2) → H' a3 = some (.lst x3) → H' a4 = some (.lst x4) → H' a5 = some (.lst x5) → H' a6 = some (.lst x6) →
  H a1 = none → H a2 = none → H a3 = none → H a4 = none → H a5 = none → H a6 = none → Q .non H'
noncomputable def rPer (C : Addr) : List V → Hp → VK → Prop:=fun vs H Q=>∃ nm sk m c pa,vs = [T nm,T sk,.int m,.int c,T pa] ∧ ∀ p H',Same H H' → H p = none → J5G C H' p nm sk m c pa → Q (.ref p) H'
noncomputable def rHou (C : Addr) : List V → Hp → VK → Prop:=fun vs H Q=>∃ d k b1 b2 b3 b4 b5 b6 x1 x2 x3 x4 x5 x6,vs = [.int d,T k,.ref b1,.ref b2,.ref b3,.ref b4,.ref b5,.ref b6] ∧
 H b1 = some (.lst x1) ∧ H b2 = some (.lst x2) ∧ H b3 = some (.lst x3) ∧ H b4 = some (.lst x4) ∧ H b5 = some (.lst x5) ∧ H b6 = some (.lst x6) ∧
 ∀ p H' a1 a2 a3 a4 a5 a6,Same H H' → J4R C H' p d k a1 a2 a3 a4 a5 a6 → H' a1 = some (.lst x1) → H' a2 = some (.lst x2) → H' a3 = some (.lst x3) → H' a4 = some (.lst x4) → H' a5 = some (.lst x5) → H' a6 = some (.lst x6) →
  H a1 = none → H a2 = none → H a3 = none → H a4 = none → H a5 = none → H a6 = none → Q (.ref p) H'
theorem J7D {H H' : Hp} {x dx : Addr} {u o : HO} (nx : H x = none) (nd : H dx = none) (b : But x (upd (upd H dx u) x o) H') : Same H H':=fun a v e=>by
 have h1 : a ≠ x:=Jj e nx
 refine b a v h1 ?_
 rw [Jn h1,Jn (Jj e nd)]
 exact e
theorem J2z {H : Hp} {x dx a : Addr} {u o : HO} (h : upd (upd H dx u) x o a = none) : H a = none:=by
 have h1 : a ≠ x:=fun z=>by subst z; rw [Jd] at h; cases h
 rw [Jn h1] at h
 have h2 : a ≠ dx:=fun z=>by subst z; rw [Jd] at h; cases h
 rw [Jn h2] at h
 exact h
theorem J3Y {H : Hp} {x dx a : Addr} {u o v : HO} (nx : H x = none) (nd : H dx = none) (e : H a = some v) : upd (upd H dx u) x o a = some v:=by
 rw [Jn (Jj e nx),Jn (Jj e nd)]; exact e
theorem JeK {C : Addr} : ∀ vs H Q,rPer C vs H Q → ∀ x dx,H x = none → H dx = none → dx ≠ x → J9a C (.ref x :: (vs ++ [])) (upd (upd H dx (.own x)) x (.ins C dx [])) (fun v H2=>v = .non ∧ Q (.ref x) H2) E0:=by
 rintro _ H Q ⟨nm,sk,m,c,pa,rfl,q⟩ x dx nx nd _
 exact ⟨x,dx,_,_,_,_,_,rfl,Jd,fun H' b e=>⟨rfl,q x H' (J7D nx nd b) nx ⟨dx,e⟩⟩⟩
theorem Jfb {C : Addr} : ∀ vs H Q,rHou C vs H Q → ∀ x dx,H x = none → H dx = none → dx ≠ x → J9n C (.ref x :: (vs ++ [])) (upd (upd H dx (.own x)) x (.ins C dx [])) (fun v H2=>v = .non ∧ Q (.ref x) H2) E0:=by
 rintro _ H Q ⟨d,k,b1,b2,b3,b4,b5,b6,x1,x2,x3,x4,x5,x6,rfl,h1,h2,h3,h4,h5,h6,q⟩ x dx nx nd _
 exact ⟨x,dx,_,_,b1,b2,b3,b4,b5,b6,x1,x2,x3,x4,x5,x6,rfl,Jd,J3Y nx nd h1,J3Y nx nd h2,J3Y nx nd h3,J3Y nx nd h4,J3Y nx nd h5,J3Y nx nd h6,
  fun H' a1 a2 a3 a4 a5 a6 b e e1 e2 e3 e4 e5 e6 n1 n2 n3 n4 n5 n6=>⟨rfl,q x H' a1 a2 a3 a4 a5 a6 (J7D nx nd b) ⟨dx,e⟩ e1 e2 e3 e4 e5 e6 (J2z n1) (J2z n2) (J2z n3) (J2z n4) (J2z n5) (J2z n6)⟩⟩
noncomputable def J15 (ns : List Int) (k : Int) : Int:=ns.getD k.toNat 0
noncomputable def Jch (K : PySem.W.Frag) : Sp:=fun vs H Q _=>∃ (a : Addr) (ns : List Int) (k : Int),vs = [.ref a,.int k] ∧ SqL K H a (ns.map V.int) ∧ 0 ≤ k ∧ Q (.int (J15 ns k)) H
noncomputable def Jai : Sp:=fun vs H Q _=>∃ (c m : Int),vs = [.int c,.int m] ∧ 0 ≤ m ∧ m ≤ 500 ∧ ∀ (a : Addr) (H' : Hp) (xs : List Int),Same H H' → H a = none → H' a = some (.lst (xs.map V.int)) → (xs.length : Int) = m → Q (.ref a) H'
noncomputable abbrev abc : List Nat:=[97,98,99,100,101,102,103,104,105,106,107,108,109,110,111,112,113,114,115,116,117,118,119,120,121,122]
noncomputable abbrev ABC : List Nat:=[65,66,67,68,69,70,71,72,73,74,75,76,77,78,79,80,81,82,83,84,85,86,87,88,89,90]
noncomputable def ltr (i : Int) : Nat:=97 + i.toNat
noncomputable def cap (i : Int) : Nat:=65 + i.toNat
theorem JcE (i : Int) (h0 : 0 ≤ i) (h1 : i < 26) : atI abc i = some (ltr i):=by
 obtain ⟨c,h2,h3⟩:=J2P abc i h0 (by show i < 26; exact h1)
 have key : ∀ n : Nat,n < 26 → abc[n]? = some (97 + n):=by decide
 rw [h2]
 rw [key i.toNat (by omega)] at h3
 exact h3.symm
theorem Jfk (i : Int) (h0 : 0 ≤ i) (h1 : i < 26) : atI ABC i = some (cap i):=by
 obtain ⟨c,h2,h3⟩:=J2P ABC i h0 (by show i < 26; exact h1)
 have key : ∀ n : Nat,n < 26 → ABC[n]? = some (65 + n):=by decide
 rw [h2]
 rw [key i.toNat (by omega)] at h3
 exact h3.symm
noncomputable def J4q (c : Int) : List Nat:=(List.range (1 + c % 4).toNat).map fun (k : Nat)=>cap ((c / 4 + (0 + (k : Int)) * (1 + c / 104 % 6)) % 26)
noncomputable def J2M (c : Int) : List Nat:=(List.range (c / 3 % 8).toNat).map fun (k : Nat)=>ltr (c / (16 + 5 * (0 + (k : Int))) % 26)
theorem J7C (c : Int) : (J2M c).length ≤ 7:=by
 unfold J2M
 rw [List.length_map,List.length_range]
 have h1 : c / 3 % 8 < 8:=Int.emod_lt_of_pos _ (by decide)
 omega
noncomputable def J1u (c p : Int) : List Nat:=cutN (J2M c) none (some (c / 7 % ((J2M c).length + 1))) ++ [ltr ((c + p) % 26)] ++ cutN (J2M c) (some (c / 7 % ((J2M c).length + 1))) none
noncomputable def J2p (c p : Int) : List Nat:=if J1u c p = [97,108,108] then [97,108,108,101] else J1u c p
theorem JaJ (c p : Int) : (J1u c p).length ≤ 15:=by
 unfold J1u
 have h:=J7C c
 have c1:=J17 (J2M c) none (some (c / 7 % ((J2M c).length + 1)))
 have c2:=J17 (J2M c) (some (c / 7 % ((J2M c).length + 1))) none
 simp only [List.length_append,List.length_cons,List.length_nil]
 omega
theorem J7L (c p : Int) : (J2p c p).length ≤ 15:=by
 unfold J2p
 split
 ·decide
 ·exact JaJ c p
theorem J6E {c p q : Int} (hp : 0 ≤ p ∧ p < 26) (hq : 0 ≤ q ∧ q < 26) (h : J1u c p = J1u c q) : p = q:=by
 unfold J1u at h
 have h1:=List.append_cancel_right h
 have h2:=List.append_cancel_left h1
 have h3 : ltr ((c + p) % 26) = ltr ((c + q) % 26):=by simpa using h2
 unfold ltr at h3
 have a0 : 0 ≤ (c + p) % 26:=Int.emod_nonneg _ (by decide)
 have b0 : 0 ≤ (c + q) % 26:=Int.emod_nonneg _ (by decide)
 omega
theorem J7P {c p q : Int} (hp : 0 ≤ p ∧ p < 26) (hq : 0 ≤ q ∧ q < 26) (h : J2p c p = J2p c q) : p = q:=by
 have hl : ∀ p q : Int,0 ≤ p → J1u c p = [97,108,108] → J1u c q = [97,108,108,101] → False:=fun p q _ e1 e2=>by
  have l1:=congrArg List.length e1
  have l2:=congrArg List.length e2
  unfold J1u at l1 l2
  simp only [List.length_append,List.length_cons,List.length_nil] at l1 l2
  omega
 unfold J2p at h
 by_cases h1 : J1u c p = [97,108,108] <;> by_cases h2 : J1u c q = [97,108,108]
 ·exact J6E hp hq (h1.trans h2.symm)
 ·rw [if_pos h1,if_neg h2] at h
  exact (hl p q hp.1 h1 h.symm).elim
 ·rw [if_neg h1,if_pos h2] at h
  exact (hl q p hq.1 h2 h).elim
 ·rw [if_neg h1,if_neg h2] at h
  exact J6E hp hq h
noncomputable def Jcc : Sp:=fun vs H Q _=>∃ (c : Int),vs = [.int c] ∧ ∀ H',Same H H' → Q (T (J4q c)) H'
noncomputable def Jdz : Sp:=fun vs H Q _=>∃ (c p : Int),vs = [.int c,.int p] ∧ ∀ H',Same H H' → Q (T (J2p c p)) H'
noncomputable def onI (g : Int → Nat) : V → V
 | .int i=>T [g i]
 | v=>v
theorem J9D (n : Nat) (g : Int → Nat) : (((List.range n).map fun (i : Nat)=>V.int (0 + (i : Int))).map (onI g)) = (((List.range n).map fun (i : Nat)=>g (0 + (i : Int))).map fun c=>[c]).map T:=by
 simp only [List.map_map]
 rfl
theorem Jcz {ns : List Int} {k : Int} (h0 : 0 ≤ k) (h : k < ns.length) : atI (ns.map V.int) k = some (.int (J15 ns k)):=by
 obtain ⟨z,h1,h2⟩:=J4l ns k h0 h
 unfold J15
 rw [h1,List.getD_eq_getElem?_getD,h2]
 rfl
theorem JcF {ns : List Int} {k : Int} (h : (ns.length : Int) ≤ k) : J15 ns k = 0:=by
 unfold J15
 rw [List.getD_eq_getElem?_getD,List.getElem?_eq_none (by omega)]
 rfl
noncomputable def PerN (C : Addr) : List Nat → V → Hp → Prop:=fun nm y H=>∃ a sk m c pa,y = .ref a ∧ J5G C H a nm sk m c pa
theorem PerN.keeps {C : Addr} (nm : List Nat) (y : V) (Ha Hb : Hp) (k : J01 Ha Hb) (h : PerN C nm y Ha) : PerN C nm y Hb:=by
 obtain ⟨a,sk,m,c,pa,e,h⟩:=h
 exact ⟨a,sk,m,c,pa,e,h.keeps k⟩
noncomputable def HouN (C1 C2 : Addr) (H : Hp) (h : Addr) (nms : List (List Nat)) : Prop:=∃ d k a1 a2 a3 a4 a5 a6 qs,J4R C2 H h d k a1 a2 a3 a4 a5 a6 ∧ H a2 = some (.lst qs) ∧ All2 (PerN C1) H nms qs
theorem HouN.same {C1 C2 : Addr} {H H' : Hp} {h : Addr} {nms : List (List Nat)} (x : HouN C1 C2 H h nms) (s : Same H H') : HouN C1 C2 H' h nms:=by
 obtain ⟨d,k,a1,a2,a3,a4,a5,a6,qs,h1,h2,h3⟩:=x
 exact ⟨d,k,a1,a2,a3,a4,a5,a6,qs,h1.keeps s.keeps,s _ _ h2,h3.imp fun a y=>PerN.keeps a y _ _ s.keeps⟩
noncomputable def Jcl (C1 C2 : Addr) : Sp:=fun vs H Q _=>∃ (h : Addr) (nm : List Nat) (nms : List (List Nat)) (k : Nat),vs = [.ref h,T nm] ∧ HouN C1 C2 H h nms ∧ nms[k]? = some nm ∧ (∀ j < k,¬ nms[j]? = some nm) ∧ ∀ H',Same H H' → Q (.int (k : Nat)) H'
structure Nd where
 day : Int
 kind : Nat
 least : Int
 most : Int
noncomputable def NdAt : Nd → V → Hp → Prop:=fun n y H=>∃ t,y = .ref t ∧ H t = some (.tup [.int n.day,T [n.kind],.int n.least,.int n.most])
theorem NdAt.keeps (n : Nd) (y : V) (Ha Hb : Hp) (k : J01 Ha Hb) (h : NdAt n y Ha) : NdAt n y Hb:=let ⟨t,e,h⟩:=h; ⟨t,e,k _ _ h fun zs z=>by cases z⟩
noncomputable def J2Z : List Nd → Int → Nat → Int × Int
 | [],_,_=>(0,0)
 | n :: r,d,k=>if n.day = d ∧ n.kind = k then (n.least,n.most) else J2Z r d k
noncomputable def LvT : List Nat × Int → V → Hp → Prop:=fun l y H=>∃ t,y = .ref t ∧ H t = some (.tup [T l.1,.int l.2])
theorem LvT.keeps (n : List Nat × Int) (y : V) (Ha Hb : Hp) (k : J01 Ha Hb) (h : LvT n y Ha) : LvT n y Hb:=let ⟨t,e,h⟩:=h; ⟨t,e,k _ _ h fun zs z=>by cases z⟩
noncomputable def lvI (l : List Nat × Int) : List V:=[T l.1,.int l.2]
theorem Jeh {K : PySem.W.Frag} {H : Hp} : ∀ {ls : List (List Nat × Int)} {vs : List V},All2 LvT H ls vs → All2 (TpAt K) H (ls.map lvI) vs
 | [],[],_=>trivial
 | l :: ls,v :: vs,h=>⟨by obtain ⟨t,e,h⟩:=h.1; exact ⟨t,e,SqT.of h,rfl⟩,Jeh h.2⟩
 | [],_ :: _,h=>h.elim
 | _ :: _,[],h=>h.elim
noncomputable def JfA (ls : List (List Nat × Int)) (nm : List Nat) (d : Int) : Bool:=(ls.map lvI).any fun ys=>eqVs ys [T nm,.int d]
theorem J6I {nds : List Nd} {i : Nat} {d : Int} {k : Nat} (h : ∀ j < i,∀ n,nds[j]? = some n → ¬ (n.day = d ∧ n.kind = k)) : J2Z nds d k = J2Z (nds.drop i) d k:=by
 induction i generalizing nds with
 | zero=>rfl
 | succ i ih =>
  cases nds with
  | nil=>rfl
  | cons n r =>
   rw [List.drop_succ_cons,← ih (nds:=r) fun j hj m hm=>h (j + 1) (by omega) m (by simpa using hm)]
   rw [J2Z,if_neg (h 0 (by omega) n rfl)]
theorem Jc0 {nds : List Nd} {i : Nat} {d : Int} {k : Nat} {n : Nd} (h : ∀ j < i,∀ n,nds[j]? = some n → ¬ (n.day = d ∧ n.kind = k)) (hi : nds[i]? = some n) (e : n.day = d ∧ n.kind = k) : J2Z nds d k = (n.least,n.most):=by
 rw [J6I h,List.drop_eq_getElem_cons (List.getElem?_eq_some_iff.mp hi).1,J2Z]
 have : nds[i]'(List.getElem?_eq_some_iff.mp hi).1 = n:=(List.getElem?_eq_some_iff.mp hi).2
 rw [this,if_pos e]
theorem JaL {nds : List Nd} {d : Int} {k : Nat} (h : ∀ j < nds.length,∀ n,nds[j]? = some n → ¬ (n.day = d ∧ n.kind = k)) : J2Z nds d k = (0,0):=by
 rw [J6I h,List.drop_eq_nil_of_le (Nat.le_refl _)]
 rfl
noncomputable def dut (l : List Nat) : Nat:=(l.filter fun c=>!decide (c = 45)).length
theorem Jb6 (l : List Nat) : ((((l.map fun c=>T [c]).filter (fun x=>!decide (x = T [45]))).map (fun x=>x)).length) = dut l:=by
 rw [List.length_map,List.filter_map,List.length_map]
 unfold dut
 congr 1
 refine List.filter_congr fun c _=>?_
 show (!decide (T [c] = T [45])) = _
 by_cases h : c = 45
 ·subst h; simp
 ·rw [decide_eq_false h,decide_eq_false fun z=>h (by simpa using J2N z)]
noncomputable def Jey : Sp:=fun vs H Q _=>∃ l,vs = [T l] ∧ l.length ≤ 1000 ∧ ∀ H',Same H H' → Q (.int (dut l)) H'
structure Ps where
 nm : List Nat
 sk : List Nat
 most : Int
 car : Int
 past : List Nat
noncomputable def PsO (C : Addr) : Ps → V → Hp → Prop:=fun n y H=>∃ a,y = .ref a ∧ J5G C H a n.nm n.sk n.most n.car n.past
theorem PsO.keeps {C : Addr} (n : Ps) (y : V) (Ha Hb : Hp) (k : J01 Ha Hb) (h : PsO C n y Ha) : PsO C n y Hb:=let ⟨a,e,h⟩:=h; ⟨a,e,h.keeps k⟩
theorem Jdc {n i a : Nat} (h : (List.range n)[i]? = some a) : a = i ∧ i < n:=by
 have hi:=(List.getElem?_eq_some_iff.mp h).1
 rw [List.length_range] at hi
 rw [List.getElem?_range hi] at h
 exact ⟨(Option.some.inj h).symm,hi⟩
theorem newl {H : Hp} {l : Addr} {xs : List V} (h : H l = none) : ∃ H',H' = upd H l (.lst xs) ∧ H' l = some (.lst xs) ∧ Same H H':=⟨_,rfl,Jd,Jy h _⟩
theorem newt {H : Hp} {l : Addr} {xs : List V} (h : H l = none) : ∃ H',H' = upd H l (.tup xs) ∧ H' l = some (.tup xs) ∧ Same H H':=⟨_,rfl,Jd,Jy h _⟩
theorem JR.keeps {c : Cs} {H H' : Hp} (k : J01 H H') : ∀ {r : R} {p : Addr},JR c H r p → JR c H' r p
 | .nev _,_,⟨⟨dx,e⟩,l⟩=>⟨⟨dx,k _ _ e fun zs z=>by cases z⟩,l⟩
 | .most _ _ _,_,⟨⟨dx,e⟩,l⟩=>⟨⟨dx,k _ _ e fun zs z=>by cases z⟩,l⟩
 | .least _ _ _,_,⟨⟨dx,e⟩,l⟩=>⟨⟨dx,k _ _ e fun zs z=>by cases z⟩,l⟩
 | .both _ _,_,⟨dx,a,b,e,h1,h2⟩=>⟨dx,a,b,k _ _ e (fun zs z=>by cases z),JR.keeps k h1,JR.keeps k h2⟩
 | .either _ _,_,⟨dx,a,b,e,h1,h2⟩=>⟨dx,a,b,k _ _ e (fun zs z=>by cases z),JR.keeps k h1,JR.keeps k h2⟩
 | .neg _,_,⟨dx,a,e,h1⟩=>⟨dx,a,k _ _ e (fun zs z=>by cases z),JR.keeps k h1⟩
noncomputable abbrev Wd:=List Nat
noncomputable def isUp (c : Nat) : Bool:=65 ≤ c && c ≤ 90
noncomputable def J4P (c : Nat) : Bool:=isUp c || c == 45 || c == 35 || c == 63
noncomputable def Jbp (c : Nat) : Bool:=isUp c || c == 45 || c == 35
noncomputable def J6F (w : Wd) : Bool:=1 ≤ w.length && w.length ≤ 7 && w.all J4P
noncomputable def J9G (w : Wd) : Bool:=1 ≤ w.length && w.length ≤ 8 && w.all Jbp && decide w.Nodup
noncomputable def R.ok : R → Prop
 | .nev w=>J6F w = true
 | .most n m d=>(0 ≤ n ∧ n ≤ 7) ∧ (1 ≤ d ∧ d ≤ 7) ∧ J9G m = true
 | .least n m d=>(0 ≤ n ∧ n ≤ 7) ∧ (1 ≤ d ∧ d ≤ 7) ∧ J9G m = true
 | .both l r=>l.ok ∧ r.ok
 | .either l r=>l.ok ∧ r.ok
 | .neg i=>i.ok
section
variable {P : Program} {w : World} {K : PySem.W.Frag} {mg : Str → Option Value} {base : Heap} {Jk Jo Ji Jp Je Js J8 J4 J6 Jf Jc Ja Jm Jg Jb J5 : Addr}
theorem Jcg (tx : Tx K mg Jk Jo Ji Jp Je Js J8 J4 J6 Jf Jc Ja Jm Jg Jb J5) : FnG P w K mg base "fits" 1 ["sign","mark"] Jdy:=by
 refine tx.Jev.g Jdw (fun _ _ _ _ _ _ us hl=>match us,hl with | [_,_],_=>rfl) (fun vs H Q E h=>?_) (fun f cdv A outer s H vs Q E hr h=>?_)
 ·obtain ⟨a,b,rfl,_⟩:=h
  rfl
 ·obtain ⟨a,b,rfl,q⟩:=h
  refine ⟨_,(J3 (J03 (Jw J0j (pv 0) (JE (l:=[63]) (by decide +kernel)) (JA _)) (Jl (Jx J2h)) JI)
   (J3 (J03 (Jw J0j (pv 0) (JE (l:=[35]) (by decide +kernel)) (JA _)) (Jl (Jx (J3e J6T (pv 1) (JE (l:=[45]) (by decide +kernel)) (JA _)))) JI)
   (Jl (Jx (J3e J0j (pv 0) (pv 1) (JA _)))))),?_⟩
  walk_at "st"
  refine ⟨_,rfl,rfl,_,rfl,?_⟩
  refine ite2 (fun c=>?_) (fun c=>?_)
  ·have e : J3b (T a) (T b) = true:=by unfold J3b; rw [if_pos c]
   rw [e] at q
   exact q
  ·refine ⟨_,rfl,rfl,_,rfl,?_⟩
   refine ite2 (fun c2=>?_) (fun c2=>?_)
   ·have e : J3b (T a) (T b) = !decide (T b = T [45]):=by unfold J3b; rw [if_neg c,if_pos c2]
    rw [e] at q
    exact ⟨_,rfl,rfl,q⟩
   ·have e : J3b (T a) (T b) = decide (T a = T b):=by unfold J3b; rw [if_neg c,if_neg c2]
    rw [e] at q
    exact ⟨_,rfl,_,rfl,rfl,q⟩
theorem J3s (tx : Tx K mg Jk Jo Ji Jp Je Js J8 J4 J6 Jf Jc Ja Jm Jg Jb J5) : FnG P w K mg base "last_marks" 1 ["marks","many"] Jdu:=by
 refine tx.J86.g J7i (fun _ _ _ _ _ _ us hl=>match us,hl with | [_,_],_=>rfl) (fun vs H Q E h=>?_) (fun f cdv A outer s H vs Q E hr h=>?_)
 ·obtain ⟨a,b,rfl,_⟩:=h
  rfl
 ·obtain ⟨l,n,rfl,hl,hn,q⟩:=h
  refine ⟨_,(Jl (Jx (J0v J2m (pv 0) (J0Q (JB (JbX rfl) rfl tx.J8V JeV (J0 Jh (J0 (Jq JaN (JB J0p rfl tx.J0y PySem.boot_len (J0 (pv 0) J7)) (pv 1)) J7)))) J18))),?_⟩
  walk_at "st"
  refine ⟨_,rfl,_,rfl,l,rfl,J5u hl,_,rfl,_,_,rfl,rfl,_,_,rfl,_,rfl,l,rfl,J5u hl,?_⟩
  have e : cutN l (some (if (l.length : Int) - n > 0 then (l.length : Int) - n else 0)) none = l.drop (l.length - n.toNat):=by
   rw [J4J _ _ (by split <;> omega)]
   congr 1
   split <;> omega
  rw [e]
  exact q
theorem Jcq (tx : Tx K mg Jk Jo Ji Jp Je Js J8 J4 J6 Jf Jc Ja Jm Jg Jb J5) : FnG P w K mg base "let_by" 2 ["signs","mark"] Jes:=by
 have Jab:=Jcg (P:=P) (w:=w) (base:=base) tx
 refine tx.Jco.g JbC (fun _ _ _ _ _ _ us hl=>match us,hl with | [_,_],_=>rfl) (fun vs H Q E h=>?_) (fun f cdv A outer s H vs Q E hr h=>?_)
 ·obtain ⟨m,c,rfl,_⟩:=h
  rfl
 ·obtain ⟨m,c,rfl,hm,q⟩:=h
  refine ⟨_,(Jl (Jx (JB (Jat (K:=K) rfl rfl) rfl tx.J99 Jf7 (J0 (J0W (osc:=J9 J2X) (ON:=["signs","mark"]) (N:=["sign","mark"]) (js:=[none,some 1]) ⟨rfl,by decide +kernel,by decide +kernel,by decide +kernel,rfl,by decide +kernel⟩ rfl rfl rfl (J6J (pv 0)) (fun _ _ _ _ _=>JD (i:=0) (show List.Nodup (["sign","mark"] : List Str) from by decide +kernel) rfl (Or.inl rfl)) (fun _ _ _ _ _=>J3P) (fun _ _ _ _ _=>(JQ Jab (hr.mono (by decide)) (J0 (pv 0) (J0 (pv 1) J7))))) J7)))),?_⟩
  walk_at "st"
  refine ⟨_,rfl,m,rfl,?_⟩
  refine J6C (fun x=>match x with | .str z=>.bl (J3b (.str z) (T [c])) | v=>v) (J3Z m) ?_ (fun x hx H' s' R hR=>?_) (fun D H' hD s' hDD=>?_)
  ·rw [List.length_map]; omega
  ·obtain ⟨k,_,rfl⟩:=List.mem_map.mp hx
   exact ⟨_,rfl,_,rfl,[k],[c],rfl,hR H' (Same.refl _)⟩
  refine ⟨D,m.map fun s=>J3b (T [s]) (T [c]),rfl,SqL.of ?_,?_⟩
  ·rw [hDD,List.map_map,List.map_map]
   rfl
  ·exact q H' s'
theorem J4d (tx : Tx K mg Jk Jo Ji Jp Je Js J8 J4 J6 Jf Jc Ja Jm Jg Jb J5) : FnG P w K mg base "count_among" 3 ["signs","marks"] Jck:=by
 have Jci:=Jcq (P:=P) (w:=w) (base:=base) tx
 refine tx.J7e.g J6v (fun _ _ _ _ _ _ us hl=>match us,hl with | [_,_],_=>rfl) (fun vs H Q E h=>?_) (fun f cdv A outer s H vs Q E hr h=>?_)
 ·obtain ⟨m,c,rfl,_⟩:=h
  rfl
 ·obtain ⟨m,l,rfl,hm,hl,q⟩:=h
  refine ⟨_,(Jl (Jx (JB (JS (K:=K) rfl) rfl tx.J0y PySem.boot_len (J0 (J0W (osc:=J9 J0S) (ON:=["signs","marks"]) (N:=["mark","signs"]) (js:=[none,some 0]) ⟨rfl,by decide +kernel,by decide +kernel,by decide +kernel,rfl,by decide +kernel⟩ rfl rfl rfl (J6J (pv 1)) (fun _ _ _ _ _=>JD (i:=0) (show List.Nodup (["mark","signs"] : List Str) from by decide +kernel) rfl (Or.inl rfl)) (fun _ _ _ _ _=>J1E (J34 (JQ Jci (hr.mono (by decide)) (J0 (pv 1) (J0 (pv 0) J7))))) (fun _ _ _ _ _=>(pv 0))) J7)))),?_⟩
  walk_at "st"
  refine ⟨_,rfl,l,rfl,?_⟩
  refine J4H (fun x=>match x with | .str ⟨⟨[c]⟩⟩=>letV m c | _=>false) (fun x=>x) (J3Z l) ?_ (fun x hx H' s' R hR=>?_) (fun x hx hp H' s' R hR=>?_) (fun D H' hD s' hDD=>?_)
  ·rw [List.length_map]; omega
  ·obtain ⟨k,_,rfl⟩:=List.mem_map.mp hx
   exact ⟨_,rfl,_,rfl,m,k,rfl,hm,fun H2 s2=>⟨_,rfl,hR H2 s2⟩⟩
  ·exact ⟨_,rfl,hR H' (Same.refl _)⟩
  refine ⟨D,_,rfl,.inl (SqL.of hDD),?_⟩
  have e : ((((l.map fun c=>T [c]).filter (fun x=>match x with | .str ⟨⟨[c]⟩⟩=>letV m c | _=>false)).map (fun x=>x)).length : Int) = (cntV m l : Int):=by
   rw [List.length_map,List.filter_map,List.length_map]
   rfl
  rw [e]
  exact q H' s'
theorem J8g (tx : Tx K mg Jk Jo Ji Jp Je Js J8 J4 J6 Jf Jc Ja Jm Jg Jb J5) : MtG P w K mg base Jk "__init__" 1 ["self","word"] (JaU Jk):=by
 refine tx.J7S.g tx.J3v.cl J7f (fun _ _ _ _ _ _ us hl=>match us,hl with | [_,_],_=>rfl) (fun vs H Q E h=>?_) (fun f cdv A outer s H vs Q E hr h=>?_)
 ·obtain ⟨p,dx,w,rfl,_⟩:=h
  rfl
 ·obtain ⟨p,dx,w,rfl,hp,q⟩:=h
  refine ⟨_,(Jl (J0r (pv 0) (pv 1) rfl)),?_⟩
  walk_at "st"
  exact ⟨_,rfl,_,rfl,p,Jk,dx,[],rfl,hp,tx.J3v.cl,tx.J0O,by decide,q⟩
theorem J9d (tx : Tx K mg Jk Jo Ji Jp Je Js J8 J4 J6 Jf Jc Ja Jm Jg Jb J5) : MtG P w K mg base Jk "bad" 2 ["self","marks"] (JeB Jk):=by
 have Jab:=Jcg (P:=P) (w:=w) (base:=base) tx
 have J2i:=J3s (P:=P) (w:=w) (base:=base) tx
 refine tx.J9f.g tx.J3v.cl J4D (fun _ _ _ _ _ _ us hl=>match us,hl with | [_,_],_=>rfl) (fun vs H Q E h=>?_) (fun f cdv A outer s H vs Q E hr h=>?_)
 ·obtain ⟨p,w,l,rfl,_⟩:=h
  rfl
 ·obtain ⟨p,w,l,rfl,⟨dx,hp⟩,hw,hl,q⟩:=h
  refine ⟨_,(J3 (J03 (Jw J7M (JB J0p rfl tx.J0y PySem.boot_len (J0 (pv 1) J7)) (JB J0p rfl tx.J0y PySem.boot_len (J0 (Jz (K:=K) rfl (pv 0) rfl) J7)) (JA _)) (Jl (Jx J2h)) JI)
   (J3 (Jr (i:=2) J4D.nd rfl (Or.inl rfl) (JQ J2i (hr.mono (by decide)) (J0 (pv 1) (J0 (JB J0p rfl tx.J0y PySem.boot_len (J0 (Jz (K:=K) rfl (pv 0) rfl) J7)) J7))))
   (Jl (Jx (JB (JaD (K:=K) rfl rfl) rfl tx.J97 JeT (J0 (J0W (osc:=J9 J1A) (ON:=["self","marks","nearest"]) (N:=["sign","mark"]) (js:=[none,none]) ⟨rfl,by decide +kernel,by decide +kernel,by decide +kernel,rfl,by decide +kernel⟩ rfl rfl rfl (Jbk rfl tx.J5C (J0 (Jz (K:=K) rfl (pv 0) rfl) (J0 (pv 2) J7))) (fun _ _ _ _ _=>J5s (K:=K) (i:=0) (j:=1) rfl rfl (show List.Nodup (["sign","mark"] : List Str) from by decide +kernel) rfl rfl (Or.inl rfl) (Or.inl rfl)) (fun _ _ _ _ _=>J3P) (fun _ _ _ _ _=>(JQ Jab (hr.mono (by decide)) (J0 (pv 0) (J0 (pv 1) J7))))) J7)))))),?_⟩
  walk_at "st"
  refine ⟨_,rfl,l,rfl,J5u hl,_,rfl,p,Jk,dx,_,_,rfl,hp,tx.J3v.cl,tx.J0O,wl _,w,rfl,J5u hw,_,_,rfl,rfl,_,rfl,?_⟩
  refine ite2 (fun c=>?_) (fun c=>?_)
  ·have c':=of_decide_eq_true c
   have e : nevB w l = false:=by unfold nevB; rw [if_pos (by omega)]
   have q':=q H (Same.refl _)
   rw [e] at q'
   exact q'
  ·have c' : ¬ ((l.length : Int) < (w.length : Int)):=of_decide_eq_false (Bool.eq_false_iff.mpr c)
   refine ⟨_,rfl,_,rfl,p,Jk,dx,_,_,rfl,hp,tx.J3v.cl,tx.J0O,wl _,w,rfl,J5u hw,l,_,rfl,hl,by omega,?_⟩
   refine ⟨_,rfl,p,Jk,dx,_,_,rfl,hp,tx.J3v.cl,tx.J0O,wl _,_,rfl,w,_,rfl,?_⟩
   refine JbR (fun c d=>.bl (J3b (T [c]) (T [d]))) ?_ (fun c d H' s' R hR=>?_) (fun D H' hD s' hDD=>?_)
   ·omega
   ·exact ⟨_,rfl,_,rfl,_,_,rfl,hR H' (Same.refl _)⟩
   refine ⟨D,((w.zip (l.drop (l.length - (w.length : Int).toNat))).map fun p=>J3b (T [p.1]) (T [p.2])),rfl,SqL.of ?_,?_⟩
   ·rw [hDD,List.map_map]
    rfl
   ·have e : nevB w l = ((w.zip (l.drop (l.length - (w.length : Int).toNat))).map fun p=>J3b (T [p.1]) (T [p.2])).all id:=by
     unfold nevB
     rw [if_neg (by omega),Int.toNat_natCast]
    have q':=q H' s'
    rw [e] at q'
    exact q'
theorem J8X (tx : Tx K mg Jk Jo Ji Jp Je Js J8 J4 J6 Jf Jc Ja Jm Jg Jb J5) : MtG P w K mg base Jo "__init__" 1 ["self","many","marks","days"] (J4A Jo):=by
 refine tx.J95.g tx.J3w.cl J8q (fun _ _ _ _ _ _ us hl=>match us,hl with | [_,_,_,_],_=>rfl) (fun vs H Q E h=>?_) (fun f cdv A outer s H vs Q E hr h=>?_)
 ·obtain ⟨p,dx,n,m,d,rfl,_⟩:=h
  rfl
 ·obtain ⟨p,dx,n,m,d,rfl,hp,q⟩:=h
  refine ⟨_,(J3 (J0r (pv 0) (pv 1) rfl)
   (J3 (J0r (pv 0) (pv 2) rfl)
   (Jl (J0r (pv 0) (pv 3) rfl)))),?_⟩
  walk_at "st"
  refine ⟨_,rfl,_,rfl,p,Jo,dx,[],rfl,hp,tx.J3w.cl,tx.J2f,by decide,?_⟩
  refine ⟨_,rfl,_,rfl,p,Jo,dx,_,rfl,Jd,tx.J3w.cl,tx.J1H,by show 1 < 1000; decide,?_⟩
  refine ⟨_,rfl,_,rfl,p,Jo,dx,_,rfl,Jd,tx.J3w.cl,tx.J2d,?_,?_⟩
  ·have:=J1F "marks" (T m) (putF "many" (.int n) [])
   have h2:=J1F "many" (V.int n) []
   have h3 : ([] : List (Str × V)).length = 0:=rfl
   omega
  rw [put3]
  exact q
theorem Ja7 (tx : Tx K mg Jk Jo Ji Jp Je Js J8 J4 J6 Jf Jc Ja Jm Jg Jb J5) : MtG P w K mg base Jo "bad" 4 ["self","marks"] (JaT Jo Jek):=by
 have J3g:=J4d (P:=P) (w:=w) (base:=base) tx
 have J2i:=J3s (P:=P) (w:=w) (base:=base) tx
 refine tx.Ja0.g tx.J3w.cl J9g (fun _ _ _ _ _ _ us hl=>match us,hl with | [_,_],_=>rfl) (fun vs H Q E h=>?_) (fun f cdv A outer s H vs Q E hr h=>?_)
 ·obtain ⟨p,n,m,d,l,rfl,_⟩:=h
  rfl
 ·obtain ⟨p,n,m,d,l,rfl,⟨dx,hp⟩,hm,hd,hl,q⟩:=h
  refine ⟨_,(Jl (Jx (J3e J7E (JQ J3g (hr.mono (by decide)) (J0 (Jz (K:=K) rfl (pv 0) rfl) (J0 (JQ J2i (hr.mono (by decide)) (J0 (pv 1) (J0 (Jz (K:=K) rfl (pv 0) rfl) J7))) J7))) (Jz (K:=K) rfl (pv 0) rfl) (JA _)))),?_⟩
  walk_at "st"
  refine ⟨_,rfl,p,Jo,dx,_,_,rfl,hp,tx.J3w.cl,tx.J1H,J9y _ _ _,_,rfl,_,rfl,p,Jo,dx,_,_,rfl,hp,tx.J3w.cl,tx.J2d,J8J _ _ _,l,d,rfl,hl,hd,m,_,rfl,hm,?_,fun H' s'=>?_⟩
  ·rw [List.length_drop]; omega
  exact ⟨_,rfl,p,Jo,dx,_,_,rfl,s' _ _ hp,tx.J3w.cl,tx.J2f,Jbi _ _ _,_,_,rfl,rfl,q H' s'⟩
theorem J8a (tx : Tx K mg Jk Jo Ji Jp Je Js J8 J4 J6 Jf Jc Ja Jm Jg Jb J5) : MtG P w K mg base Ji "__init__" 1 ["self","many","marks","days"] (J4A Ji):=by
 refine tx.J8r.g tx.J2A.cl J7k (fun _ _ _ _ _ _ us hl=>match us,hl with | [_,_,_,_],_=>rfl) (fun vs H Q E h=>?_) (fun f cdv A outer s H vs Q E hr h=>?_)
 ·obtain ⟨p,dx,n,m,d,rfl,_⟩:=h
  rfl
 ·obtain ⟨p,dx,n,m,d,rfl,hp,q⟩:=h
  refine ⟨_,(J3 (J0r (pv 0) (pv 1) rfl)
   (J3 (J0r (pv 0) (pv 2) rfl)
   (Jl (J0r (pv 0) (pv 3) rfl)))),?_⟩
  walk_at "st"
  refine ⟨_,rfl,_,rfl,p,Ji,dx,[],rfl,hp,tx.J2A.cl,tx.J1I,by decide,?_⟩
  refine ⟨_,rfl,_,rfl,p,Ji,dx,_,rfl,Jd,tx.J2A.cl,tx.J1f,by show 1 < 1000; decide,?_⟩
  refine ⟨_,rfl,_,rfl,p,Ji,dx,_,rfl,Jd,tx.J2A.cl,tx.J16,?_,?_⟩
  ·have:=J1F "marks" (T m) (putF "many" (.int n) [])
   have h2:=J1F "many" (V.int n) []
   have h3 : ([] : List (Str × V)).length = 0:=rfl
   omega
  rw [put3]
  exact q
theorem J91 (tx : Tx K mg Jk Jo Ji Jp Je Js J8 J4 J6 Jf Jc Ja Jm Jg Jb J5) : MtG P w K mg base Ji "bad" 4 ["self","marks"] (JaT Ji J5v):=by
 have J3g:=J4d (P:=P) (w:=w) (base:=base) tx
 have J2i:=J3s (P:=P) (w:=w) (base:=base) tx
 refine tx.J90.g tx.J2A.cl J8p (fun _ _ _ _ _ _ us hl=>match us,hl with | [_,_],_=>rfl) (fun vs H Q E h=>?_) (fun f cdv A outer s H vs Q E hr h=>?_)
 ·obtain ⟨p,n,m,d,l,rfl,_⟩:=h
  rfl
 ·obtain ⟨p,n,m,d,l,rfl,⟨dx,hp⟩,hm,hd,hl,q⟩:=h
  refine ⟨_,(J3 (J03 (Jw J7M (JB J0p rfl tx.J0y PySem.boot_len (J0 (pv 1) J7)) (Jz (K:=K) rfl (pv 0) rfl) (JA _)) (Jl (Jx J2h)) JI)
   (Jl (Jx (J3e J7M (JQ J3g (hr.mono (by decide)) (J0 (Jz (K:=K) rfl (pv 0) rfl) (J0 (JQ J2i (hr.mono (by decide)) (J0 (pv 1) (J0 (Jz (K:=K) rfl (pv 0) rfl) J7))) J7))) (Jz (K:=K) rfl (pv 0) rfl) (JA _))))),?_⟩
  walk_at "st"
  refine ⟨_,rfl,l,rfl,J5u hl,_,rfl,p,Ji,dx,_,_,rfl,hp,tx.J2A.cl,tx.J16,J8J _ _ _,_,_,rfl,rfl,_,rfl,?_⟩
  refine ite2 (fun c=>?_) (fun c=>?_)
  ·have c':=of_decide_eq_true c
   have e : J5v n m d l = false:=by unfold J5v; rw [if_pos c']
   have q':=q H (Same.refl _)
   rw [e] at q'
   exact q'
  have c' : ¬ ((l.length : Int) < d):=of_decide_eq_false (Bool.eq_false_iff.mpr c)
  have e : J5v n m d l = decide ((cntV m (l.drop (l.length - d.toNat)) : Int) < n):=by unfold J5v; rw [if_neg c']
  refine ⟨_,rfl,p,Ji,dx,_,_,rfl,hp,tx.J2A.cl,tx.J1f,J9y _ _ _,_,rfl,_,rfl,p,Ji,dx,_,_,rfl,hp,tx.J2A.cl,tx.J16,J8J _ _ _,l,d,rfl,hl,hd,m,_,rfl,hm,?_,fun H' s'=>?_⟩
  ·rw [List.length_drop]; omega
  have q':=q H' s'
  rw [e] at q'
  exact ⟨_,rfl,p,Ji,dx,_,_,rfl,s' _ _ hp,tx.J2A.cl,tx.J1I,Jbi _ _ _,_,_,rfl,rfl,q'⟩
theorem J9k (tx : Tx K mg Jk Jo Ji Jp Je Js J8 J4 J6 Jf Jc Ja Jm Jg Jb J5) : MtG P w K mg base Jp "__init__" 1 ["self","left","right"] (J4E Jp):=by
 refine tx.J9j.g tx.J4i.cl J8i (fun _ _ _ _ _ _ us hl=>match us,hl with | [_,_,_],_=>rfl) (fun vs H Q E h=>?_) (fun f cdv A outer s H vs Q E hr h=>?_)
 ·obtain ⟨p,dx,a,b,rfl,_⟩:=h
  rfl
 ·obtain ⟨p,dx,a,b,rfl,hp,q⟩:=h
  refine ⟨_,(J3 (J0r (pv 0) (pv 1) rfl)
   (Jl (J0r (pv 0) (pv 2) rfl))),?_⟩
  walk_at "st"
  refine ⟨_,rfl,_,rfl,p,Jp,dx,[],rfl,hp,tx.J4i.cl,tx.J2g,by decide,?_⟩
  refine ⟨_,rfl,_,rfl,p,Jp,dx,_,rfl,Jd,tx.J4i.cl,tx.J1K,by show 1 < 1000; decide,?_⟩
  rw [put2]
  exact q
theorem J78 (tx : Tx K mg Jk Jo Ji Jp Je Js J8 J4 J6 Jf Jc Ja Jm Jg Jb J5) : MtG P w K mg base Je "__init__" 1 ["self","left","right"] (J4E Je):=by
 refine tx.J79.g tx.J2W.cl J5T (fun _ _ _ _ _ _ us hl=>match us,hl with | [_,_,_],_=>rfl) (fun vs H Q E h=>?_) (fun f cdv A outer s H vs Q E hr h=>?_)
 ·obtain ⟨p,dx,a,b,rfl,_⟩:=h
  rfl
 ·obtain ⟨p,dx,a,b,rfl,hp,q⟩:=h
  refine ⟨_,(J3 (J0r (pv 0) (pv 1) rfl)
   (Jl (J0r (pv 0) (pv 2) rfl))),?_⟩
  walk_at "st"
  refine ⟨_,rfl,_,rfl,p,Je,dx,[],rfl,hp,tx.J2W.cl,tx.J1l,by decide,?_⟩
  refine ⟨_,rfl,_,rfl,p,Je,dx,_,rfl,Jd,tx.J2W.cl,tx.J0X,by show 1 < 1000; decide,?_⟩
  rw [put2]
  exact q
theorem Jac (tx : Tx K mg Jk Jo Ji Jp Je Js J8 J4 J6 Jf Jc Ja Jm Jg Jb J5) : MtG P w K mg base Js "__init__" 1 ["self","inner"] (J98 Js):=by
 refine tx.Ja5.g tx.J94.cl J96 (fun _ _ _ _ _ _ us hl=>match us,hl with | [_,_],_=>rfl) (fun vs H Q E h=>?_) (fun f cdv A outer s H vs Q E hr h=>?_)
 ·obtain ⟨p,dx,a,rfl,_⟩:=h
  rfl
 ·obtain ⟨p,dx,a,rfl,hp,q⟩:=h
  refine ⟨_,(Jl (J0r (pv 0) (pv 1) rfl)),?_⟩
  walk_at "st"
  exact ⟨_,rfl,_,rfl,p,Js,dx,[],rfl,hp,tx.J94.cl,tx.J2c,by decide,q⟩
noncomputable abbrev cs6 (Jk Jo Ji Jp Je Js _Person _House _RotaError _NoDay _NoHouse _NoName _NoRow _NoRule _TooWide _Faulty : Addr) : Cs:=⟨Jk,Jo,Ji,Jp,Je,Js⟩
theorem J5X (tx : Tx K mg Jk Jo Ji Jp Je Js J8 J4 J6 Jf Jc Ja Jm Jg Jb J5) : ∀ r : R,MtG P w K mg base (r.cls (cs6 Jk Jo Ji Jp Je Js J8 J4 J6 Jf Jc Ja Jm Jg Jb J5)) "bad" (5 + r.depth) ["self","marks"] (Jfn (cs6 Jk Jo Ji Jp Je Js J8 J4 J6 Jf Jc Ja Jm Jg Jb J5) r)
 | .nev w=>(J9d tx).imp (fun vs H Q E ⟨p,l,e,h,hl,q⟩=>⟨p,w,l,e,h.1,h.2,hl,q⟩) |>.mono (by show 2 ≤ 5 + _; omega)
 | .most n m d=>(Ja7 tx).imp (fun vs H Q E ⟨p,l,e,h,hl,q⟩=>⟨p,n,m,d,l,e,h.1,h.2.1,h.2.2,hl,q⟩) |>.mono (by show 4 ≤ 5 + _; omega)
 | .least n m d=>(J91 tx).imp (fun vs H Q E ⟨p,l,e,h,hl,q⟩=>⟨p,n,m,d,l,e,h.1,h.2.1,h.2.2,hl,q⟩) |>.mono (by show 4 ≤ 5 + _; omega)
 | .both x y=>by
  have Gx:=J5X tx x
  have Gy:=J5X tx y
  refine MtG.mono (j:=(5 + max x.depth y.depth) + 1) (tx.J9U.g tx.J4i.cl J93 (fun _ _ _ _ _ _ us hl=>match us,hl with | [_,_],_=>rfl) (fun vs H Q E h=>?_) (fun f cdv A outer s H vs Q E hr h=>?_)) (by show _ ≤ 5 + (max x.depth y.depth + 1); omega)
  ·obtain ⟨p,l,rfl,_⟩:=h
   rfl
  ·obtain ⟨p,l,rfl,⟨dx,a,b,e,ha,hb⟩,hl,q⟩:=h
   refine ⟨_,(Jl (Jx (JfW (J4j (P:=P) (w:=w) (K:=K) (mg:=mg) (base:=base) hr (Jz (K:=K) rfl (pv 0) rfl) (J0 (pv 1) J7) rfl rfl rfl rfl rfl) (Jda (J4j (P:=P) (w:=w) (K:=K) (mg:=mg) (base:=base) hr (Jz (K:=K) rfl (pv 0) rfl) (J0 (pv 1) J7) rfl rfl rfl rfl rfl))))),?_⟩
   walk_at "st"
   obtain ⟨dx1,fs1,o1,n1,_⟩:=ha.obj
   refine ⟨_,rfl,p,Jp,dx,_,_,rfl,e,tx.J4i.cl,tx.J2g,Jbj _ _,a,_,dx1,fs1,_,_,_,rfl,o1,n1,Gx,by omega,_,rfl,a,l,rfl,ha,hl,fun H1 s1=>⟨_,rfl,?_⟩⟩
   refine ite2 (fun c=>?_) (fun c=>?_)
   ·have q':=q H1 s1
    rw [show (R.both x y).bad l = true by show (x.bad l || y.bad l) = true; rw [c,Bool.true_or]] at q'
    exact q'
   ·obtain ⟨dx2,fs2,o2,n2,_⟩:=(hb.same s1).obj
    refine ⟨_,rfl,p,Jp,dx,_,_,rfl,s1 _ _ e,tx.J4i.cl,tx.J1K,J9N _ _,b,_,dx2,fs2,_,_,_,rfl,o2,n2,Gy,by omega,_,rfl,b,l,rfl,hb.same s1,hl,fun H2 s2=>?_⟩
    have q':=q H2 (s1.trans s2)
    rw [show (R.both x y).bad l = y.bad l by show (x.bad l || y.bad l) = y.bad l; rw [Bool.eq_false_iff.mpr c,Bool.false_or]] at q'
    exact q'
 | .either x y=>by
  have Gx:=J5X tx x
  have Gy:=J5X tx y
  refine MtG.mono (j:=(5 + max x.depth y.depth) + 1) (tx.J89.g tx.J2W.cl J6Z (fun _ _ _ _ _ _ us hl=>match us,hl with | [_,_],_=>rfl) (fun vs H Q E h=>?_) (fun f cdv A outer s H vs Q E hr h=>?_)) (by show _ ≤ 5 + (max x.depth y.depth + 1); omega)
  ·obtain ⟨p,l,rfl,_⟩:=h
   rfl
  ·obtain ⟨p,l,rfl,⟨dx,a,b,e,ha,hb⟩,hl,q⟩:=h
   refine ⟨_,(Jl (Jx (JeS (J4j (P:=P) (w:=w) (K:=K) (mg:=mg) (base:=base) hr (Jz (K:=K) rfl (pv 0) rfl) (J0 (pv 1) J7) rfl rfl rfl rfl rfl) (Jda (J4j (P:=P) (w:=w) (K:=K) (mg:=mg) (base:=base) hr (Jz (K:=K) rfl (pv 0) rfl) (J0 (pv 1) J7) rfl rfl rfl rfl rfl))))),?_⟩
   walk_at "st"
   obtain ⟨dx1,fs1,o1,n1,_⟩:=ha.obj
   refine ⟨_,rfl,p,Je,dx,_,_,rfl,e,tx.J2W.cl,tx.J1l,Jbj _ _,a,_,dx1,fs1,_,_,_,rfl,o1,n1,Gx,by omega,_,rfl,a,l,rfl,ha,hl,fun H1 s1=>⟨_,rfl,?_⟩⟩
   refine ite2 (fun c=>?_) (fun c=>?_)
   ·obtain ⟨dx2,fs2,o2,n2,_⟩:=(hb.same s1).obj
    refine ⟨_,rfl,p,Je,dx,_,_,rfl,s1 _ _ e,tx.J2W.cl,tx.J0X,J9N _ _,b,_,dx2,fs2,_,_,_,rfl,o2,n2,Gy,by omega,_,rfl,b,l,rfl,hb.same s1,hl,fun H2 s2=>?_⟩
    have q':=q H2 (s1.trans s2)
    rw [show (R.either x y).bad l = y.bad l by show (x.bad l && y.bad l) = y.bad l; rw [c,Bool.true_and]] at q'
    exact q'
   ·have q':=q H1 s1
    rw [show (R.either x y).bad l = false by show (x.bad l && y.bad l) = false; rw [Bool.eq_false_iff.mpr c,Bool.false_and]] at q'
    exact q'
 | .neg x=>by
  have Gx:=J5X tx x
  refine MtG.mono (j:=(5 + x.depth) + 1) (tx.Jbv.g tx.J94.cl Ja6 (fun _ _ _ _ _ _ us hl=>match us,hl with | [_,_],_=>rfl) (fun vs H Q E h=>?_) (fun f cdv A outer s H vs Q E hr h=>?_)) (by show _ ≤ 5 + (x.depth + 1); omega)
  ·obtain ⟨p,l,rfl,_⟩:=h
   rfl
  ·obtain ⟨p,l,rfl,⟨dx,a,e,ha⟩,hl,q⟩:=h
   refine ⟨_,(Jl (Jx (JeX (J4j (P:=P) (w:=w) (K:=K) (mg:=mg) (base:=base) hr (Jz (K:=K) rfl (pv 0) rfl) (J0 (pv 1) J7) rfl rfl rfl rfl rfl)))),?_⟩
   walk_at "st"
   obtain ⟨dx1,fs1,o1,n1,_⟩:=ha.obj
   exact ⟨_,rfl,p,Js,dx,_,_,rfl,e,tx.J94.cl,tx.J2c,Jd7 _,a,_,dx1,fs1,_,_,_,rfl,o1,n1,Gx,Nat.le_refl _,_,rfl,a,l,rfl,ha,hl,fun H1 s1=>⟨_,rfl,q H1 s1⟩⟩
end
noncomputable def dayB (r : R) (past row : List Nat) (d : Nat) : Bool:=r.bad (past ++ row.take (d + 1))
noncomputable def badL (r : R) (past row : List Nat) : List Nat:=(List.range row.length).filter (dayB r past row)
noncomputable def dL (ds : List Nat) : List V:=(ds.map fun (d : Nat)=>(d : Int)).map V.int
noncomputable def JdF (c6 : Cs) : Sp:=fun vs H Q _=>∃ p past row r,vs = [.ref p,T past,T row] ∧ JR c6 H r p ∧ r.depth ≤ 23 ∧ past.length ≤ 300 ∧ row.length ≤ 300 ∧ ∀ D H',Same H H' → H D = none → H' D = some (.lst (dL (badL r past row))) → Q (.ref D) H'
section
variable {P : Program} {w : World} {K : PySem.W.Frag} {mg : Str → Option Value} {base : Heap} {Jk Jo Ji Jp Je Js J8 J4 J6 Jf Jc Ja Jm Jg Jb J5 : Addr}
theorem Jae (tx : Tx K mg Jk Jo Ji Jp Je Js J8 J4 J6 Jf Jc Ja Jm Jg Jb J5) : FnG P w K mg base "bad_days" 30 ["rule","past","row"] (JdF (cs6 Jk Jo Ji Jp Je Js J8 J4 J6 Jf Jc Ja Jm Jg Jb J5)):=by
 refine tx.Jan.g J9e (fun _ _ _ _ _ _ us hl=>match us,hl with | [_,_,_],_=>rfl) (fun vs H Q E h=>?_) (fun f cdv A outer s H vs Q E hr h=>?_)
 ·obtain ⟨p,past,row,r,rfl,_⟩:=h
  rfl
 ·obtain ⟨p,past,row,r,rfl,hR,hd,hp,hw,q⟩:=h
  refine ⟨_,(Jl (Jx (J0W (osc:=J9 J25) (ON:=["rule","past","row"]) (N:=["day","rule","past","row"]) (js:=[none,some 0,some 1,some 2]) ⟨rfl,by decide +kernel,by decide +kernel,by decide +kernel,rfl,by decide +kernel⟩ rfl rfl rfl (J0e rfl tx.J0n (J0 (JB J0p rfl tx.J0y PySem.boot_len (J0 (pv 2) J7)) J7)) (fun _ _ _ _ _=>JD (i:=0) (show List.Nodup (["day","rule","past","row"] : List Str) from by decide +kernel) rfl (Or.inl rfl)) (fun _ _ _ _ _=>J1E (J34 (J4j (P:=P) (w:=w) (K:=K) (mg:=mg) (base:=base) hr (pv 1) (J0 (Jq J0c (pv 2) (J0v J2m (pv 3) J18 (J0Q (Jq JU (pv 0) Jh)))) J7) rfl rfl rfl rfl rfl))) (fun _ _ _ _ _=>(pv 0))))),?_⟩
  walk_at "st"
  have Gb:=J5X (P:=P) (w:=w) (base:=base) tx r
  walk_at "rd"
  refine J4H (fun x=>match x with | .int d=>dayB r past row d.toNat | _=>false) (fun x=>x) (J3d 0 (row.length : Int).toNat) ?_ (fun x hx H' s' R hR'=>?_) (fun x hx hp H' s' R hR'=>?_) (fun D H' hD s' hDD=>?_)
  ·rw [List.length_map,List.length_range]; omega
  ·obtain ⟨k,hk,rfl⟩:=List.mem_map.mp hx
   have hk:=List.mem_range.mp hk
   have rp:=hR.same s'
   obtain ⟨dx,fs,ob,nb,_⟩:=rp.obj
   have hcl:=J17 row none (some (0 + (k : Int) + 1))
   have e : cutN row none (some (0 + (k : Int) + 1)) = row.take (((0 : Int) + (k : Int)).toNat + 1):=by
    rw [Jaz _ _ (by omega),show (0 + (k : Int) + 1).toNat = (0 + (k : Int)).toNat + 1 by omega]
   walk_at "rd"
   intro H2 s2
   walk_at "rd"
   have q2:=hR' H2 s2
   show R (r.bad (past ++ cutN row none (some (0 + (k : Int) + 1)))) H2
   rw [e]
   exact q2
  ·walk_at "rd"
   exact hR' H' (Same.refl _)
  refine q D H' s' hD ?_
  rw [hDD]
  congr 2
  rw [List.map_id',List.filter_map]
  unfold dL badL
  rw [List.map_map]
  have e : (fun (d : Nat)=>(V.int ((d : Int)))) = fun (i : Nat)=>V.int (0 + (i : Int)):=by funext i; rw [Int.zero_add]
  show List.map _ _ = List.map (fun d : Nat=>V.int (d : Int)) _
  rw [e,Int.toNat_natCast]
  congr 1
  refine List.filter_congr fun d _=>?_
  show dayB r past row (0 + (d : Int)).toNat = dayB r past row d
  congr 1
  omega
end
section
variable {P : Program} {w : World} {K : PySem.W.Frag} {mg : Str → Option Value} {base : Heap} {Jk Jo Ji Jp Je Js J8 J4 J6 Jf Jc Ja Jm Jg Jb J5 : Addr}
theorem J7d (tx : Tx K mg Jk Jo Ji Jp Je Js J8 J4 J6 Jf Jc Ja Jm Jg Jb J5) : MtG P w K mg base J8 "__init__" 1 ["self","name","skills","most","carried","past"] (J9a J8):=by
 refine tx.J7a.g tx.J0d.cl J60 (fun _ _ _ _ _ _ us hl=>match us,hl with | [_,_,_,_,_,_],_=>rfl) (fun vs H Q E h=>?_) (fun f cdv A outer s H vs Q E hr h=>?_)
 ·obtain ⟨p,dx,a,b,c,d,e,rfl,_⟩:=h
  rfl
 ·obtain ⟨p,dx,a,b,c,d,e,rfl,hp,q⟩:=h
  refine ⟨_,(J3 (J0r (pv 0) (pv 1) rfl)
   (J3 (J0r (pv 0) (pv 2) rfl)
   (J3 (J0r (pv 0) (pv 3) rfl)
   (J3 (J0r (pv 0) (pv 4) rfl)
   (Jl (J0r (pv 0) (pv 5) rfl)))))),?_⟩
  walk_at "st"
  refine ⟨_,rfl,_,rfl,p,J8,dx,[],rfl,hp,tx.J0d.cl,tx.JM,(by show 0 < 1000; decide),?_⟩
  refine ⟨_,rfl,_,rfl,p,J8,dx,[("name",a)],rfl,Jd,tx.J0d.cl,tx.J0K,(by show 1 < 1000; decide),?_⟩
  rw [putN (fs:=[("name",a)]) (show ∀ g ∈ [("name" : Str)],g ≠ "skills" from by decide +kernel)]
  refine ⟨_,rfl,_,rfl,p,J8,dx,[("name",a),("skills",b)],rfl,Jd,tx.J0d.cl,tx.J1m,(by show 2 < 1000; decide),?_⟩
  rw [putN (fs:=[("name",a),("skills",b)]) (show ∀ g ∈ [("name" : Str),"skills"],g ≠ "most" from by decide +kernel)]
  refine ⟨_,rfl,_,rfl,p,J8,dx,[("name",a),("skills",b),("most",c)],rfl,Jd,tx.J0d.cl,tx.J11,(by show 3 < 1000; decide),?_⟩
  rw [putN (fs:=[("name",a),("skills",b),("most",c)]) (show ∀ g ∈ [("name" : Str),"skills","most"],g ≠ "carried" from by decide +kernel)]
  refine ⟨_,rfl,_,rfl,p,J8,dx,[("name",a),("skills",b),("most",c),("carried",d)],rfl,Jd,tx.J0d.cl,tx.J0V,(by show 4 < 1000; decide),?_⟩
  rw [putN (fs:=[("name",a),("skills",b),("most",c),("carried",d)]) (show ∀ g ∈ [("name" : Str),"skills","most","carried"],g ≠ "past" from by decide +kernel)]
  exact q _ (But.refl p H).at.at.at.at.at Jd
theorem J81 (tx : Tx K mg Jk Jo Ji Jp Je Js J8 J4 J6 Jf Jc Ja Jm Jg Jb J5) : MtG P w K mg base J4 "__init__" 1 ["self","days","kinds","needs","persons","leave","wishes","rules","pairs"] (J9n J4):=by
 refine tx.J8b.g tx.J00.cl J6Y (fun _ _ _ _ _ _ us hl=>match us,hl with | [_,_,_,_,_,_,_,_,_],_=>rfl) (fun vs H Q E h=>?_) (fun f cdv A outer s H vs Q E hr h=>?_)
 ·obtain ⟨p,dx,d,k,b1,b2,b3,b4,b5,b6,x1,x2,x3,x4,x5,x6,rfl,_⟩:=h
  rfl
 ·obtain ⟨p,dx,d,k,b1,b2,b3,b4,b5,b6,x1,x2,x3,x4,x5,x6,rfl,hp,h1,h2,h3,h4,h5,h6,q⟩:=h
  refine ⟨_,(J3 (J0r (pv 0) (pv 1) rfl)
   (J3 (J0r (pv 0) (pv 2) rfl)
   (J3 (J0r (pv 0) (J0M J0g rfl tx.J1Y J0q (J0 (pv 3) J7)) rfl)
   (J3 (J0r (pv 0) (J0M J0g rfl tx.J1Y J0q (J0 (pv 4) J7)) rfl)
   (J3 (J0r (pv 0) (J0M J0g rfl tx.J1Y J0q (J0 (pv 5) J7)) rfl)
   (J3 (J0r (pv 0) (J0M J0g rfl tx.J1Y J0q (J0 (pv 6) J7)) rfl)
   (J3 (J0r (pv 0) (J0M J0g rfl tx.J1Y J0q (J0 (pv 7) J7)) rfl)
   (Jl (J0r (pv 0) (J0M J0g rfl tx.J1Y J0q (J0 (pv 8) J7)) rfl))))))))),?_⟩
  walk_at "st"
  have nb : ∀ {b : Addr} {x : List V},H b = some (.lst x) → b ≠ p:=fun e=>JfE e hp (by intro z; cases z)
  refine ⟨_,rfl,_,rfl,p,J4,dx,[],rfl,hp,tx.J00.cl,tx.J0N,(by show 0 < 1000; decide),?_⟩
  refine ⟨_,rfl,_,rfl,p,J4,dx,[("days",d)],rfl,Jd,tx.J00.cl,tx.J1k,(by show 1 < 1000; decide),?_⟩
  rw [putN (fs:=[("days",d)]) (show ∀ g ∈ [("days" : Str)],g ≠ "kinds" from by decide +kernel)]
  have B0 : But p H (upd (upd H p (.ins J4 dx (putF "days" d []))) p (.ins J4 dx ([(("days" : Str),d)] ++ [(("kinds" : Str),k)]))):=(But.refl p H).at.at
  have e0 : upd (upd H p (.ins J4 dx (putF "days" d []))) p (.ins J4 dx ([(("days" : Str),d)] ++ [(("kinds" : Str),k)])) p = some (.ins J4 dx [("days",d),("kinds",k)]):=Jd
  generalize upd (upd H p (.ins J4 dx (putF "days" d []))) p (.ins J4 dx ([(("days" : Str),d)] ++ [(("kinds" : Str),k)])) = H0 at B0 e0 ⊢
  refine ⟨_,rfl,b1,x1,rfl,.inl (SqL.of (B0 _ _ (nb h1) h1)),fun a1 n1=>?_⟩
  refine ⟨_,rfl,p,J4,dx,[("days",d),("kinds",k)],rfl,(Jn (Jj e0 n1)).trans e0,tx.J00.cl,tx.J1e,(by show 2 < 1000; decide),?_⟩
  rw [putN (fs:=[("days",d),("kinds",k)]) (show ∀ g ∈ [("days" : Str),"kinds"],g ≠ "needs" from by decide +kernel)]
  have z1 : a1 ≠ p:=(Jj e0 n1).symm
  have B1 : But p H (upd (upd H0 a1 (.lst x1)) p (.ins J4 dx ([(("days" : Str),d),("kinds",k)] ++ [(("needs" : Str),.ref a1)]))):=(B0.new n1).at
  have e1 : upd (upd H0 a1 (.lst x1)) p (.ins J4 dx ([(("days" : Str),d),("kinds",k)] ++ [(("needs" : Str),.ref a1)])) p = some (.ins J4 dx [("days",d),("kinds",k),("needs",.ref a1)]):=Jd
  have y1 : upd (upd H0 a1 (.lst x1)) p (.ins J4 dx ([(("days" : Str),d),("kinds",k)] ++ [(("needs" : Str),.ref a1)])) a1 = some (.lst x1):=by rw [Jn z1]; exact Jd
  have m1 : H a1 = none:=by cases hh : H a1 with | none=>rfl | some o=>rw [B0 _ _ z1 hh] at n1; cases n1
  generalize upd (upd H0 a1 (.lst x1)) p (.ins J4 dx ([(("days" : Str),d),("kinds",k)] ++ [(("needs" : Str),.ref a1)])) = H1 at B1 e1 y1 ⊢
  refine ⟨_,rfl,b2,x2,rfl,.inl (SqL.of (B1 _ _ (nb h2) h2)),fun a2 n2=>?_⟩
  refine ⟨_,rfl,p,J4,dx,[("days",d),("kinds",k),("needs",.ref a1)],rfl,(Jn (Jj e1 n2)).trans e1,tx.J00.cl,tx.JV,(by show 3 < 1000; decide),?_⟩
  rw [putN (fs:=[("days",d),("kinds",k),("needs",.ref a1)]) (show ∀ g ∈ [("days" : Str),"kinds","needs"],g ≠ "persons" from by decide +kernel)]
  have z2 : a2 ≠ p:=(Jj e1 n2).symm
  have B2 : But p H (upd (upd H1 a2 (.lst x2)) p (.ins J4 dx ([(("days" : Str),d),("kinds",k),("needs",.ref a1)] ++ [(("persons" : Str),.ref a2)]))):=(B1.new n2).at
  have e2 : upd (upd H1 a2 (.lst x2)) p (.ins J4 dx ([(("days" : Str),d),("kinds",k),("needs",.ref a1)] ++ [(("persons" : Str),.ref a2)])) p = some (.ins J4 dx [("days",d),("kinds",k),("needs",.ref a1),("persons",.ref a2)]):=Jd
  have y2 : upd (upd H1 a2 (.lst x2)) p (.ins J4 dx ([(("days" : Str),d),("kinds",k),("needs",.ref a1)] ++ [(("persons" : Str),.ref a2)])) a2 = some (.lst x2):=by rw [Jn z2]; exact Jd
  have y12 : upd (upd H1 a2 (.lst x2)) p (.ins J4 dx ([(("days" : Str),d),("kinds",k),("needs",.ref a1)] ++ [(("persons" : Str),.ref a2)])) a1 = some (.lst x1):=by rw [Jn z1,Jn (Jj y1 n2)]; exact y1
  have m2 : H a2 = none:=by cases hh : H a2 with | none=>rfl | some o=>rw [B1 _ _ z2 hh] at n2; cases n2
  generalize upd (upd H1 a2 (.lst x2)) p (.ins J4 dx ([(("days" : Str),d),("kinds",k),("needs",.ref a1)] ++ [(("persons" : Str),.ref a2)])) = H2 at B2 e2 y2 y12 ⊢
  refine ⟨_,rfl,b3,x3,rfl,.inl (SqL.of (B2 _ _ (nb h3) h3)),fun a3 n3=>?_⟩
  refine ⟨_,rfl,p,J4,dx,[("days",d),("kinds",k),("needs",.ref a1),("persons",.ref a2)],rfl,(Jn (Jj e2 n3)).trans e2,tx.J00.cl,tx.J1n,(by show 4 < 1000; decide),?_⟩
  rw [putN (fs:=[("days",d),("kinds",k),("needs",.ref a1),("persons",.ref a2)]) (show ∀ g ∈ [("days" : Str),"kinds","needs","persons"],g ≠ "leave" from by decide +kernel)]
  have z3 : a3 ≠ p:=(Jj e2 n3).symm
  have B3 : But p H (upd (upd H2 a3 (.lst x3)) p (.ins J4 dx ([(("days" : Str),d),("kinds",k),("needs",.ref a1),("persons",.ref a2)] ++ [(("leave" : Str),.ref a3)]))):=(B2.new n3).at
  have e3 : upd (upd H2 a3 (.lst x3)) p (.ins J4 dx ([(("days" : Str),d),("kinds",k),("needs",.ref a1),("persons",.ref a2)] ++ [(("leave" : Str),.ref a3)])) p = some (.ins J4 dx [("days",d),("kinds",k),("needs",.ref a1),("persons",.ref a2),("leave",.ref a3)]):=Jd
  have y3 : upd (upd H2 a3 (.lst x3)) p (.ins J4 dx ([(("days" : Str),d),("kinds",k),("needs",.ref a1),("persons",.ref a2)] ++ [(("leave" : Str),.ref a3)])) a3 = some (.lst x3):=by rw [Jn z3]; exact Jd
  have y13 : upd (upd H2 a3 (.lst x3)) p (.ins J4 dx ([(("days" : Str),d),("kinds",k),("needs",.ref a1),("persons",.ref a2)] ++ [(("leave" : Str),.ref a3)])) a1 = some (.lst x1):=by rw [Jn z1,Jn (Jj y12 n3)]; exact y12
  have y23 : upd (upd H2 a3 (.lst x3)) p (.ins J4 dx ([(("days" : Str),d),("kinds",k),("needs",.ref a1),("persons",.ref a2)] ++ [(("leave" : Str),.ref a3)])) a2 = some (.lst x2):=by rw [Jn z2,Jn (Jj y2 n3)]; exact y2
  have m3 : H a3 = none:=by cases hh : H a3 with | none=>rfl | some o=>rw [B2 _ _ z3 hh] at n3; cases n3
  generalize upd (upd H2 a3 (.lst x3)) p (.ins J4 dx ([(("days" : Str),d),("kinds",k),("needs",.ref a1),("persons",.ref a2)] ++ [(("leave" : Str),.ref a3)])) = H3 at B3 e3 y3 y13 y23 ⊢
  refine ⟨_,rfl,b4,x4,rfl,.inl (SqL.of (B3 _ _ (nb h4) h4)),fun a4 n4=>?_⟩
  refine ⟨_,rfl,p,J4,dx,[("days",d),("kinds",k),("needs",.ref a1),("persons",.ref a2),("leave",.ref a3)],rfl,(Jn (Jj e3 n4)).trans e3,tx.J00.cl,tx.J1z,(by show 5 < 1000; decide),?_⟩
  rw [putN (fs:=[("days",d),("kinds",k),("needs",.ref a1),("persons",.ref a2),("leave",.ref a3)]) (show ∀ g ∈ [("days" : Str),"kinds","needs","persons","leave"],g ≠ "wishes" from by decide +kernel)]
  have z4 : a4 ≠ p:=(Jj e3 n4).symm
  have B4 : But p H (upd (upd H3 a4 (.lst x4)) p (.ins J4 dx ([(("days" : Str),d),("kinds",k),("needs",.ref a1),("persons",.ref a2),("leave",.ref a3)] ++ [(("wishes" : Str),.ref a4)]))):=(B3.new n4).at
  have e4 : upd (upd H3 a4 (.lst x4)) p (.ins J4 dx ([(("days" : Str),d),("kinds",k),("needs",.ref a1),("persons",.ref a2),("leave",.ref a3)] ++ [(("wishes" : Str),.ref a4)])) p = some (.ins J4 dx [("days",d),("kinds",k),("needs",.ref a1),("persons",.ref a2),("leave",.ref a3),("wishes",.ref a4)]):=Jd
  have y4 : upd (upd H3 a4 (.lst x4)) p (.ins J4 dx ([(("days" : Str),d),("kinds",k),("needs",.ref a1),("persons",.ref a2),("leave",.ref a3)] ++ [(("wishes" : Str),.ref a4)])) a4 = some (.lst x4):=by rw [Jn z4]; exact Jd
  have y14 : upd (upd H3 a4 (.lst x4)) p (.ins J4 dx ([(("days" : Str),d),("kinds",k),("needs",.ref a1),("persons",.ref a2),("leave",.ref a3)] ++ [(("wishes" : Str),.ref a4)])) a1 = some (.lst x1):=by rw [Jn z1,Jn (Jj y13 n4)]; exact y13
  have y24 : upd (upd H3 a4 (.lst x4)) p (.ins J4 dx ([(("days" : Str),d),("kinds",k),("needs",.ref a1),("persons",.ref a2),("leave",.ref a3)] ++ [(("wishes" : Str),.ref a4)])) a2 = some (.lst x2):=by rw [Jn z2,Jn (Jj y23 n4)]; exact y23
  have y34 : upd (upd H3 a4 (.lst x4)) p (.ins J4 dx ([(("days" : Str),d),("kinds",k),("needs",.ref a1),("persons",.ref a2),("leave",.ref a3)] ++ [(("wishes" : Str),.ref a4)])) a3 = some (.lst x3):=by rw [Jn z3,Jn (Jj y3 n4)]; exact y3
  have m4 : H a4 = none:=by cases hh : H a4 with | none=>rfl | some o=>rw [B3 _ _ z4 hh] at n4; cases n4
  generalize upd (upd H3 a4 (.lst x4)) p (.ins J4 dx ([(("days" : Str),d),("kinds",k),("needs",.ref a1),("persons",.ref a2),("leave",.ref a3)] ++ [(("wishes" : Str),.ref a4)])) = H4 at B4 e4 y4 y14 y24 y34 ⊢
  refine ⟨_,rfl,b5,x5,rfl,.inl (SqL.of (B4 _ _ (nb h5) h5)),fun a5 n5=>?_⟩
  refine ⟨_,rfl,p,J4,dx,[("days",d),("kinds",k),("needs",.ref a1),("persons",.ref a2),("leave",.ref a3),("wishes",.ref a4)],rfl,(Jn (Jj e4 n5)).trans e4,tx.J00.cl,tx.J1o,(by show 6 < 1000; decide),?_⟩
  rw [putN (fs:=[("days",d),("kinds",k),("needs",.ref a1),("persons",.ref a2),("leave",.ref a3),("wishes",.ref a4)]) (show ∀ g ∈ [("days" : Str),"kinds","needs","persons","leave","wishes"],g ≠ "rules" from by decide +kernel)]
  have z5 : a5 ≠ p:=(Jj e4 n5).symm
  have B5 : But p H (upd (upd H4 a5 (.lst x5)) p (.ins J4 dx ([(("days" : Str),d),("kinds",k),("needs",.ref a1),("persons",.ref a2),("leave",.ref a3),("wishes",.ref a4)] ++ [(("rules" : Str),.ref a5)]))):=(B4.new n5).at
  have e5 : upd (upd H4 a5 (.lst x5)) p (.ins J4 dx ([(("days" : Str),d),("kinds",k),("needs",.ref a1),("persons",.ref a2),("leave",.ref a3),("wishes",.ref a4)] ++ [(("rules" : Str),.ref a5)])) p = some (.ins J4 dx [("days",d),("kinds",k),("needs",.ref a1),("persons",.ref a2),("leave",.ref a3),("wishes",.ref a4),("rules",.ref a5)]):=Jd
  have y5 : upd (upd H4 a5 (.lst x5)) p (.ins J4 dx ([(("days" : Str),d),("kinds",k),("needs",.ref a1),("persons",.ref a2),("leave",.ref a3),("wishes",.ref a4)] ++ [(("rules" : Str),.ref a5)])) a5 = some (.lst x5):=by rw [Jn z5]; exact Jd
  have y15 : upd (upd H4 a5 (.lst x5)) p (.ins J4 dx ([(("days" : Str),d),("kinds",k),("needs",.ref a1),("persons",.ref a2),("leave",.ref a3),("wishes",.ref a4)] ++ [(("rules" : Str),.ref a5)])) a1 = some (.lst x1):=by rw [Jn z1,Jn (Jj y14 n5)]; exact y14
  have y25 : upd (upd H4 a5 (.lst x5)) p (.ins J4 dx ([(("days" : Str),d),("kinds",k),("needs",.ref a1),("persons",.ref a2),("leave",.ref a3),("wishes",.ref a4)] ++ [(("rules" : Str),.ref a5)])) a2 = some (.lst x2):=by rw [Jn z2,Jn (Jj y24 n5)]; exact y24
  have y35 : upd (upd H4 a5 (.lst x5)) p (.ins J4 dx ([(("days" : Str),d),("kinds",k),("needs",.ref a1),("persons",.ref a2),("leave",.ref a3),("wishes",.ref a4)] ++ [(("rules" : Str),.ref a5)])) a3 = some (.lst x3):=by rw [Jn z3,Jn (Jj y34 n5)]; exact y34
  have y45 : upd (upd H4 a5 (.lst x5)) p (.ins J4 dx ([(("days" : Str),d),("kinds",k),("needs",.ref a1),("persons",.ref a2),("leave",.ref a3),("wishes",.ref a4)] ++ [(("rules" : Str),.ref a5)])) a4 = some (.lst x4):=by rw [Jn z4,Jn (Jj y4 n5)]; exact y4
  have m5 : H a5 = none:=by cases hh : H a5 with | none=>rfl | some o=>rw [B4 _ _ z5 hh] at n5; cases n5
  generalize upd (upd H4 a5 (.lst x5)) p (.ins J4 dx ([(("days" : Str),d),("kinds",k),("needs",.ref a1),("persons",.ref a2),("leave",.ref a3),("wishes",.ref a4)] ++ [(("rules" : Str),.ref a5)])) = H5 at B5 e5 y5 y15 y25 y35 y45 ⊢
  refine ⟨_,rfl,b6,x6,rfl,.inl (SqL.of (B5 _ _ (nb h6) h6)),fun a6 n6=>?_⟩
  refine ⟨_,rfl,p,J4,dx,[("days",d),("kinds",k),("needs",.ref a1),("persons",.ref a2),("leave",.ref a3),("wishes",.ref a4),("rules",.ref a5)],rfl,(Jn (Jj e5 n6)).trans e5,tx.J00.cl,tx.J1d,(by show 7 < 1000; decide),?_⟩
  rw [putN (fs:=[("days",d),("kinds",k),("needs",.ref a1),("persons",.ref a2),("leave",.ref a3),("wishes",.ref a4),("rules",.ref a5)]) (show ∀ g ∈ [("days" : Str),"kinds","needs","persons","leave","wishes","rules"],g ≠ "pairs" from by decide +kernel)]
  have z6 : a6 ≠ p:=(Jj e5 n6).symm
  have m6 : H a6 = none:=by cases hh : H a6 with | none=>rfl | some o=>rw [B5 _ _ z6 hh] at n6; cases n6
  refine q _ a1 a2 a3 a4 a5 a6 (B5.new n6).at Jd ?_ ?_ ?_ ?_ ?_ ?_ m1 m2 m3 m4 m5 m6
  ·rw [Jn z1,Jn (Jj y15 n6)]; exact y15
  ·rw [Jn z2,Jn (Jj y25 n6)]; exact y25
  ·rw [Jn z3,Jn (Jj y35 n6)]; exact y35
  ·rw [Jn z4,Jn (Jj y45 n6)]; exact y45
  ·rw [Jn z5,Jn (Jj y5 n6)]; exact y5
  ·rw [Jn z6]; exact Jd
end
theorem lH_m {m : Str} (a b c d e f g h : V) (h1 : m ≠ "days") (h2 : m ≠ "kinds") (h3 : m ≠ "needs") (h4 : m ≠ "persons") (h5 : m ≠ "leave") (h6 : m ≠ "wishes") (h7 : m ≠ "rules") (h8 : m ≠ "pairs") : List.lookup m (fH a b c d e f g h) = none:=by
 rw [JN h1,JN h2,JN h3,JN h4,JN h5,JN h6,JN h7,JN h8]
 rfl
theorem J8B (a b c d e f g h : V) : List.lookup ("need" : Str) (fH a b c d e f g h) = none:=lH_m _ _ _ _ _ _ _ _ (by decide +kernel) (by decide +kernel) (by decide +kernel) (by decide +kernel) (by decide +kernel) (by decide +kernel) (by decide +kernel) (by decide +kernel)
noncomputable def Hk (C1 C2 : Addr) (H : Hp) (h : Addr) (dd : Int) (ks : List Nat) (nds : List Nd) (ps : List Ps) (ls : List (List Nat × Int)) : Prop :=
 ∃ a1 a2 a3 a4 a5 a6 xs ys zs ws,J4R C2 H h dd ks a1 a2 a3 a4 a5 a6 ∧ H a1 = some (.lst xs) ∧ All2 NdAt H nds xs ∧ H a2 = some (.lst ys) ∧ All2 (PsO C1) H ps ys ∧ H a3 = some (.lst zs) ∧ All2 LvT H ls zs ∧ H a4 = some (.lst ws)
noncomputable def Jcn (C1 C2 : Addr) : Sp:=fun vs H Q _=>∃ (h : Addr) (d : Int) (k : Nat) (dd : Int) (ks : List Nat) (nds : List Nd) (ps : List Ps) (ls : List (List Nat × Int)),vs = [.ref h,.int d,T [k]] ∧ Hk C1 C2 H h dd ks nds ps ls ∧ ∀ (t : Addr) (H' : Hp),Same H H' → H' t = some (.tup [.int (J2Z nds d k).1,.int (J2Z nds d k).2]) → Q (.ref t) H'
theorem at0 (a b : V) : atI [a,b] 0 = some a:=by simp [atI,ixN]
theorem at1 (a b : V) : atI [a,b] 1 = some b:=by simp [atI,ixN]
section
variable {P : Program} {w : World} {K : PySem.W.Frag} {mg : Str → Option Value} {base : Heap} {Jk Jo Ji Jp Je Js J8 J4 J6 Jf Jc Ja Jm Jg Jb J5 : Addr}
local macro_rules | `(tactic| walk_at "lk")=>`(tactic| first | exact J2B _ _ _ _ _ | exact J5z _ _ _ _ _ | exact J8s _ _ _ _ _ | exact JaO _ _ _ _ _ | exact J28 _ _ _ _ _ _ _ _ | exact J6P _ _ _ _ _ _ _ _ | exact J6A _ _ _ _ _ _ _ _ | exact J6K _ _ _ _ _ _ _ _ | exact JbO _ _ _ _ _ _ _ _ | exact J8B _ _ _ _ _ _ _ _ | exact Or.inr (SqT.of (by with_reducible assumption)))
theorem JeA (tx : Tx K mg Jk Jo Ji Jp Je Js J8 J4 J6 Jf Jc Ja Jm Jg Jb J5) : MtG P w K mg base J4 "need" 1 ["self","day","kind"] (Jcn J8 J4):=by
 refine tx.J7V.g tx.J00.cl J21 (fun _ _ _ _ _ _ us hl=>match us,hl with | [_,_,_],_=>rfl) (fun vs H Q E h=>?_) (fun f cdv A outer s H vs Q E hr h=>?_)
 ·obtain ⟨h,d,k,dd,ks,nds,pns,ls,rfl,_⟩:=h
  rfl
 ·obtain ⟨h,d,k,dd,ks,nds,pns,ls,rfl,⟨a1,a2,a3,a4,a5,a6,xs,ys,zs,ws,⟨dx,h1⟩,h2,h3,_⟩,q⟩:=h
  refine ⟨_,(J3 (J0I PassesOwn.never rfl (J2o (K:=K) rfl (Jz (K:=K) rfl (pv 0) rfl)) (J33 rfl (JY (JD (i:=3) J21.nd rfl (Or.inl rfl)) (JY (JD (i:=4) J21.nd rfl (Or.inl rfl)) (JY (JD (i:=5) J21.nd rfl (Or.inl rfl)) (JY (JD (i:=6) J21.nd rfl (Or.inl rfl)) J2l))))) (Jl (J03 (PW.pt (J3h (Jw J0j (pv 3) (pv 1) (JA _)) (J3f (Jw J0j (pv 4) (pv 2) (JA _))))) (Jl (Jx (J02 (J0 (pv 5) (J0 (pv 6) J7))))) JI)))
   (Jl (Jx (J02 (J0 Jh (J0 Jh J7)))))),?_⟩
  walk_at "st"
  have cH:=tx.J00.cl
  have nH:=tx.J1e
  walk_at "rd"
  refine J4K (K:=K) (xs:=xs) (fun i σ H2=>Here (∃ v1 v2 v3 v4,σ = [some (.ref h),some (.int d),some (T [k]),v1,v2,v3,v4] ∧ (∀ j < i,∀ n,nds[j]? = some n → ¬ (n.day = d ∧ n.kind = k)) ∧ H2 = H)) (Here.mk ⟨none,none,none,none,rfl,fun j hj=>absurd hj (Nat.not_lt_zero _),rfl⟩) (fun i σ H2 _ hv=>by obtain ⟨_,_,_,_,_,_,e⟩:=hv.out; rw [e]; exact SqL.of h2) ?_ ?_
  ·rintro i x σ H2 hx hv
   obtain ⟨v1,v2,v3,v4,rfl,hno,rfl⟩:=hv.out
   obtain ⟨n,hn,t,rfl,ht⟩:=h3.back hx
   have nx : ¬ (n.day = d ∧ n.kind = k) → ∀ j < i + 1,∀ m,nds[j]? = some m → ¬ (m.day = d ∧ m.kind = k):=fun z j hj m hm=>by
    rcases Nat.lt_or_ge j i with y | y
    ·exact hno j y m hm
    ·have : j = i:=by omega
     subst this
     rw [hn] at hm
     cases hm
     exact z
   walk_at "rd"
   refine ite2 (fun e1=>?_) (fun e1=>?_)
   ·have e1' : n.day = d:=by have:=of_decide_eq_true e1; injection this
    walk_at "rd"
    refine ite2 (fun e2=>?_) (fun e2=>?_)
    ·have e2' : n.kind = k:=by have:=J2N (of_decide_eq_true e2); simpa using this
     walk_at "rd"
     intro t2 ht2
     refine q t2 _ (Jy ht2 _) ?_
     rw [Jd,Jc0 hno hn ⟨e1',e2'⟩]
    ·exact Here.mk ⟨_,_,_,_,rfl,nx fun z=>e2 (decide_eq_true (by rw [z.2])),rfl⟩
   ·walk_at "rd"
    exact Here.mk ⟨_,_,_,_,rfl,nx fun z=>e1 (decide_eq_true (by rw [z.1])),rfl⟩
  ·rintro σ H2 hv
   obtain ⟨v1,v2,v3,v4,rfl,hno,rfl⟩:=hv.out
   walk_at "rd"
   intro t2 ht2
   refine q t2 _ (Jy ht2 _) ?_
   rw [Jd,JaL (by rw [← h3.len]; exact hno)]
end
section
variable {P : Program} {w : World} {K : PySem.W.Frag} {mg : Str → Option Value} {base : Heap} {Jk Jo Ji Jp Je Js J8 J4 J6 Jf Jc Ja Jm Jg Jb J5 : Addr}
local macro_rules | `(tactic| walk_at "lk")=>`(tactic| first | exact J2B _ _ _ _ _ | exact J28 _ _ _ _ _ _ _ _)
theorem J8U (tx : Tx K mg Jk Jo Ji Jp Je Js J8 J4 J6 Jf Jc Ja Jm Jg Jb J5) : FnG P w K mg base "duties_in" 1 ["marks"] Jey:=by
 refine tx.J9m.g J8n (fun _ _ _ _ _ _ us hl=>match us,hl with | [_],_=>rfl) (fun vs H Q E h=>?_) (fun f cdv A outer s H vs Q E hr h=>?_)
 ·obtain ⟨l,rfl,_⟩:=h
  rfl
 ·obtain ⟨l,rfl,hl,q⟩:=h
  refine ⟨_,(Jl (Jx (JB (JS (K:=K) rfl) rfl tx.J0y PySem.boot_len (J0 (J0W (osc:=J9 J1y) (ON:=["marks"]) (N:=["mark"]) (js:=[none]) ⟨rfl,by decide +kernel,by decide +kernel,by decide +kernel,rfl,by decide +kernel⟩ rfl rfl rfl (J6J (pv 0)) (fun _ _ _ _ _=>JD (i:=0) (show List.Nodup (["mark"] : List Str) from by decide +kernel) rfl (Or.inl rfl)) (fun _ _ _ _ _=>J1E (Jw J6T (pv 0) (JE (l:=[45]) (by decide +kernel)) (JA _))) (fun _ _ _ _ _=>(pv 0))) J7)))),?_⟩
  walk_at "st"
  walk_at "rd"
  refine J4H (fun x=>!decide (x = T [45])) (fun x=>x) (J3Z l) ?_ (fun x hx H' s' R hR=>?_) (fun x hx hp H' s' R hR=>?_) (fun D H' hD s' hDD=>?_)
  ·rw [List.length_map]; omega
  ·obtain ⟨k,_,rfl⟩:=List.mem_map.mp hx
   walk_at "rd"
   exact hR H' (Same.refl _)
  ·walk_at "rd"
   exact hR H' (Same.refl _)
  refine ⟨D,_,rfl,.inl (SqL.of hDD),?_⟩
  rw [Jb6]
  exact q H' s'
theorem J9W (tx : Tx K mg Jk Jo Ji Jp Je Js J8 J4 J6 Jf Jc Ja Jm Jg Jb J5) : MtG P w K mg base J4 "place_of" 1 ["self","name"] (Jcl J8 J4):=by
 refine tx.J3k.g tx.J00.cl J0k (fun _ _ _ _ _ _ us hl=>match us,hl with | [_,_],_=>rfl) (fun vs H Q E h=>?_) (fun f cdv A outer s H vs Q E hr h=>?_)
 ·obtain ⟨h,nm,nms,i,rfl,_⟩:=h
  rfl
 ·obtain ⟨h,nm,nms,k,rfl,hC,hk,hb,q⟩:=h
  refine ⟨_,(J3 (J0I PassesOwn.never rfl (J3q (K:=K) rfl rfl tx.J0P (J0 (Jz (K:=K) rfl (pv 0) rfl) J7)) (J33 rfl (JY (JD (i:=2) J0k.nd rfl (Or.inl rfl)) (JY (JD (i:=3) J0k.nd rfl (Or.inl rfl)) J2l))) (Jl (J03 (Jw J0j (Jz (K:=K) rfl (pv 3) rfl) (pv 1) (JA _)) (Jl (Jx (pv 2))) JI)))
   (Jl Jde)),?_⟩
  walk_at "st"
  obtain ⟨d,kk,a1,a2,a3,a4,a5,a6,qs,⟨dx,h1⟩,h2,h3⟩:=hC
  have cH:=tx.J00.cl
  have nH:=tx.JV
  have cP:=tx.J0d.cl
  have nP:=tx.JM
  walk_at "rd"
  refine J44 (K:=K) (xs:=qs) (fun i σ H2=>Here (∃ v1 v2,σ = [some (.ref h),some (T nm),v1,v2] ∧ i ≤ k ∧ Same H H2)) (Here.mk ⟨none,none,rfl,Nat.zero_le _,Same.refl _⟩) (fun i σ H2 _ hv=>by obtain ⟨_,_,_,_,s2⟩:=hv.out; exact SqL.of (s2 _ _ h2)) ?_ ?_
  ·rintro i x p σ H2 hx hp hv
   obtain ⟨v1,v2,rfl,hi,s2⟩:=hv.out
   obtain ⟨n2,hn2,p1,sk,m,c,pa,rfl,dx2,hp2⟩:=h3.back hx
   have s3 : Same H2 (upd H2 p (.tup [.int i,.ref p1])):=Jy hp _
   have hp3:=s3 _ _ (s2 _ _ hp2)
   walk_at "rd"
   refine ite2 (fun e=>?_) (fun e=>?_)
   ·have e' : n2 = nm:=J2N (of_decide_eq_true e)
    subst e'
    have hik : i = k:=by
     rcases Nat.lt_or_ge i k with z | z
     ·exact absurd hn2 (hb i z)
     ·omega
    subst hik
    walk_at "rd"
    exact q _ (s2.trans s3)
   ·have e' : ¬ n2 = nm:=fun z=>e (decide_eq_true (by rw [z]))
    refine Here.mk ⟨_,_,rfl,?_,s2.trans s3⟩
    rcases Nat.lt_or_ge i k with z | z
    ·exact z
    ·have : i = k:=by omega
     subst this
     rw [hk] at hn2
     exact absurd (Option.some.inj hn2).symm e'
  ·rintro σ H2 hv
   obtain ⟨v1,v2,rfl,hi,s2⟩:=hv.out
   have:=h3.len
   have hkl:=(List.getElem?_eq_some_iff.mp hk).1
   exact absurd hi (by omega)
end
theorem J4O (a b c d e f g h : V) : List.lookup ("rules_for" : Str) (fH a b c d e f g h) = none:=by
 rw [JN (by decide +kernel),JN (by decide +kernel),JN (by decide +kernel),JN (by decide +kernel),JN (by decide +kernel),JN (by decide +kernel),JN (by decide +kernel),JN (by decide +kernel)]
 rfl
noncomputable def TpV : List V → V → Hp → Prop:=fun xs y H=>∃ t,y = .ref t ∧ H t = some (.tup xs)
noncomputable def OnT (C : Addr) : Ps × List Nat → V → Hp → Prop:=fun p y H=>∃ t a,y = .ref t ∧ H t = some (.tup [.ref a,T p.2]) ∧ J5G C H a p.1.nm p.1.sk p.1.most p.1.car p.1.past
theorem TpV.keeps (n : List V) (y : V) (Ha Hb : Hp) (k : J01 Ha Hb) (h : TpV n y Ha) : TpV n y Hb:=let ⟨t,e,h⟩:=h; ⟨t,e,k _ _ h fun zs z=>by cases z⟩
theorem OnT.keeps {C : Addr} (n : Ps × List Nat) (y : V) (Ha Hb : Hp) (k : J01 Ha Hb) (h : OnT C n y Ha) : OnT C n y Hb:=let ⟨t,a,e,h,g⟩:=h; ⟨t,a,e,k _ _ h (fun zs z=>by cases z),g.keeps k⟩
noncomputable def mkA (row : List Nat) (d : Int) : Nat:=row.getD d.toNat 0
theorem J5H {row : List Nat} {d : Int} (h0 : 0 ≤ d) (h : d < row.length) : atI row d = some (mkA row d):=by
 obtain ⟨c,h1,h2⟩:=J2P row d h0 h
 rw [h1]
 unfold mkA
 rw [List.getD_eq_getElem?_getD,h2]
 rfl
structure Ru where
 nm : List Nat
 B : List Nat → Bool
structure Pr where
 wd : List Nat
 one : List Nat
 two : List Nat
 i : Nat
 j : Nat
noncomputable def BadQ (P : Program) (w : World) (K : PySem.W.Frag) (mg : Str → Option Value) (base : Heap) (H : Hp) (a : Addr) (B : List Nat → Bool) : Prop:=∃ (C dx : Addr) (fs : List (Str × V)) (k : Nat) (ps : List Str) (sp : Sp),H a = some (.ins C dx fs) ∧ fs.lookup ("bad" : Str) = none ∧ MtG P w K mg base C "bad" k ps sp ∧ k ≤ 9 ∧ ∀ (m : List Nat),m.length ≤ 200 → ∀ (H' : Hp) (Q' : VK),J01 H H' → (∀ H'',Same H' H'' → Q' (.bl (B m)) H'') → sp [.ref a,T m] H' Q' E0
theorem BadQ.keeps {P : Program} {w : World} {K : PySem.W.Frag} {mg : Str → Option Value} {base : Heap} {H H' : Hp} {a : Addr} {B : List Nat → Bool} (x : BadQ P w K mg base H a B) (k : J01 H H') : BadQ P w K mg base H' a B:=by
 obtain ⟨C,dx,fs,n,ps,sp,h1,h2,h3,h4,h5⟩:=x
 exact ⟨C,dx,fs,n,ps,sp,k _ _ h1 (fun zs z=>by cases z),h2,h3,h4,fun m hm H2 Q' k2 q=>h5 m hm H2 Q' (k.trans k2) q⟩
noncomputable def RuT (P : Program) (w : World) (K : PySem.W.Frag) (mg : Str → Option Value) (base : Heap) : Ru → V → Hp → Prop:=fun r y H=>∃ t a,y = .ref t ∧ H t = some (.tup [T r.nm,.ref a]) ∧ BadQ P w K mg base H a r.B
theorem RuT.keeps {P : Program} {w : World} {K : PySem.W.Frag} {mg : Str → Option Value} {base : Heap} (r : Ru) (y : V) (Ha Hb : Hp) (k : J01 Ha Hb) (h : RuT P w K mg base r y Ha) : RuT P w K mg base r y Hb:=let ⟨t,a,e,h1,h2⟩:=h; ⟨t,a,e,k _ _ h1 (fun zs z=>by cases z),h2.keeps k⟩
noncomputable def PrT : Pr → V → Hp → Prop:=fun p y H=>∃ t,y = .ref t ∧ H t = some (.tup [T p.wd,T p.one,T p.two])
theorem PrT.keeps (r : Pr) (y : V) (Ha Hb : Hp) (k : J01 Ha Hb) (h : PrT r y Ha) : PrT r y Hb:=let ⟨t,e,h1⟩:=h; ⟨t,e,k _ _ h1 (fun zs z=>by cases z)⟩
noncomputable def PrIn (ps : List Ps) (p : Pr) : Prop:=((ps.map (·.nm))[p.i]? = some p.one ∧ ∀ j < p.i,¬ (ps.map (·.nm))[j]? = some p.one) ∧ (ps.map (·.nm))[p.j]? = some p.two ∧ ∀ j < p.j,¬ (ps.map (·.nm))[j]? = some p.two
noncomputable abbrev wAll : List Nat:=[97,108,108]
noncomputable abbrev JfG : List Nat:=[114,117,108,101]
noncomputable abbrev Jbh : List Nat:=[112,97,105,114]
noncomputable abbrev J2k : List Nat:=[97,112,97,114,116]
noncomputable def ruAt (rls : List Ru) (i : Nat) : Ru:=rls.getD i ⟨[],fun _=>false⟩
theorem JaW {rls : List Ru} {i : Nat} {a : Ru} (h : rls[i]? = some a) : ruAt rls i = a:=by
 unfold ruAt
 rw [List.getD_eq_getElem?_getD,h]
 rfl
noncomputable def JaZ (rls : List Ru) (nm : List Nat) (i : Nat) : Bool:=decide ((ruAt rls i).nm ∈ [wAll,nm])
noncomputable def ruI (rls : List Ru) (nm : List Nat) : List Nat:=(List.range rls.length).filter (JaZ rls nm)
noncomputable def FdT (P : Program) (w : World) (K : PySem.W.Frag) (mg : Str → Option Value) (base : Heap) (rls : List Ru) : Nat → V → Hp → Prop:=fun i y H=>∃ t a,y = .ref t ∧ H t = some (.tup [.int (i : Nat),.ref a]) ∧ BadQ P w K mg base H a (ruAt rls i).B
theorem FdT.keeps {P : Program} {w : World} {K : PySem.W.Frag} {mg : Str → Option Value} {base : Heap} {rls : List Ru} (i : Nat) (y : V) (Ha Hb : Hp) (k : J01 Ha Hb) (h : FdT P w K mg base rls i y Ha) : FdT P w K mg base rls i y Hb:=let ⟨t,a,e,h1,h2⟩:=h; ⟨t,a,e,k _ _ h1 (fun zs z=>by cases z),h2.keeps k⟩
noncomputable def ruV (d : Int) (nm : List Nat) (i : Nat) : List V:=[.int d,T JfG,T nm,.int (i : Nat)]
noncomputable def ruB (rls : List Ru) (m : List Nat) (i : Nat) : Bool:=(ruAt rls i).B m
noncomputable def ruP (rls : List Ru) (d : Int) (a : Ps × List Nat) : List (List V):=((ruI rls a.1.nm).filter (ruB rls (a.1.past ++ cutN a.2 none (some (d + 1))))).map (ruV d a.1.nm)
noncomputable def ruF (rls : List Ru) (ps : List Ps) (rows : List (List Nat)) (d : Int) : List (List V):=((ps.zip rows).map (ruP rls d)).flatten
theorem Jb1 (rls : List Ru) (nm : List Nat) : (ruI rls nm).length ≤ rls.length:=Nat.le_trans (List.length_filter_le _ _) (by rw [List.length_range]; exact Nat.le_refl _)
theorem Je4 (rls : List Ru) (d : Int) (a : Ps × List Nat) : (ruP rls d a).length ≤ rls.length:=by
 unfold ruP
 rw [List.length_map]
 exact Nat.le_trans (List.length_filter_le _ _) (Jb1 _ _)
theorem J8S (rls : List Ru) (d : Int) (h6 : rls.length ≤ 8) : ∀ l : List (Ps × List Nat),((l.map (ruP rls d)).flatten).length ≤ 8 * l.length
 | []=>Nat.le_refl _
 | a :: l=>by
  have h1:=Je4 rls d a
  have h2:=J8S rls d h6 l
  rw [List.map_cons,List.flatten_cons,List.length_append,List.length_cons]
  omega
theorem Jbu {rls : List Ru} {ps : List Ps} {rows : List (List Nat)} {d : Int} (h6 : rls.length ≤ 8) (hp : ps.length ≤ 8) : (ruF rls ps rows d).length ≤ 64:=by
 have h:=J8S rls d h6 (ps.zip rows)
 rw [List.length_zip] at h
 unfold ruF
 omega
noncomputable def brkB (wd : List Nat) (m o : Nat) : Bool:=!decide (m = 45) && (if wd = J2k then decide (m = o) else !decide (m = o))
noncomputable def paB (rows : List (List Nat)) (d : Int) (p : Pr) : Bool:=brkB p.wd (mkA (rows.getD p.i []) d) (mkA (rows.getD p.j []) d)
noncomputable def prAt (prs : List Pr) (i : Nat) : Pr:=prs.getD i ⟨[],[],[],0,0⟩
noncomputable def paV (d : Int) (prs : List Pr) (i : Nat) : List V:=[.int d,T Jbh,T (prAt prs i).one,.int (i : Nat)]
noncomputable def paL (prs : List Pr) (rows : List (List Nat)) (d : Int) (n : Nat) : List (List V):=((List.range n).filter fun i=>paB rows d (prAt prs i)).map (paV d prs)
noncomputable def paF (prs : List Pr) (rows : List (List Nat)) (d : Int) : List (List V):=paL prs rows d prs.length
theorem J8y (prs : List Pr) (rows : List (List Nat)) (d : Int) (n : Nat) : (paL prs rows d n).length ≤ n:=by
 unfold paL
 rw [List.length_map]
 exact Nat.le_trans (List.length_filter_le _ _) (by rw [List.length_range]; exact Nat.le_refl _)
noncomputable def Hq (C1 C2 : Addr) (H : Hp) (h : Addr) (dd : Int) (ks : List Nat) (nds : List Nd) (ps : List Ps) (ls : List (List Nat × Int)) (u5 u6 : List V) : Prop :=
 ∃ a1 a2 a3 a4 a5 a6 xs ys zs ws,J4R C2 H h dd ks a1 a2 a3 a4 a5 a6 ∧ H a1 = some (.lst xs) ∧ All2 NdAt H nds xs ∧ H a2 = some (.lst ys) ∧ All2 (PsO C1) H ps ys ∧ H a3 = some (.lst zs) ∧ All2 LvT H ls zs ∧ H a4 = some (.lst ws) ∧ H a5 = some (.lst u5) ∧ H a6 = some (.lst u6)
theorem Hq.same {C1 C2 : Addr} {H H' : Hp} {h : Addr} {dd : Int} {ks : List Nat} {nds : List Nd} {ps : List Ps} {ls : List (List Nat × Int)} {u5 u6 : List V} (x : Hq C1 C2 H h dd ks nds ps ls u5 u6) (s : Same H H') : Hq C1 C2 H' h dd ks nds ps ls u5 u6:=by
 obtain ⟨a1,a2,a3,a4,a5,a6,xs,ys,zs,ws,h1,h2,h3,h4,h5,h6,h7,h8,h9,h10⟩:=x
 exact ⟨a1,a2,a3,a4,a5,a6,xs,ys,zs,ws,h1.keeps s.keeps,s _ _ h2,h3.imp fun a y=>NdAt.keeps a y _ _ s.keeps,s _ _ h4,h5.imp fun a y=>PsO.keeps a y _ _ s.keeps,s _ _ h6,h7.imp fun a y=>LvT.keeps a y _ _ s.keeps,s _ _ h8,s _ _ h9,s _ _ h10⟩
theorem Hq.k {C1 C2 : Addr} {H : Hp} {h : Addr} {dd : Int} {ks : List Nat} {nds : List Nd} {ps : List Ps} {ls : List (List Nat × Int)} {u5 u6 : List V} (x : Hq C1 C2 H h dd ks nds ps ls u5 u6) : Hk C1 C2 H h dd ks nds ps ls:=by
 obtain ⟨a1,a2,a3,a4,a5,a6,xs,ys,zs,ws,h1,h2,h3,h4,h5,h6,h7,h8,h9,h10⟩:=x
 exact ⟨a1,a2,a3,a4,a5,a6,xs,ys,zs,ws,h1,h2,h3,h4,h5,h6,h7,h8⟩
theorem Hq.n {C1 C2 : Addr} {H : Hp} {h : Addr} {dd : Int} {ks : List Nat} {nds : List Nd} {ps : List Ps} {ls : List (List Nat × Int)} {u5 u6 : List V} (x : Hq C1 C2 H h dd ks nds ps ls u5 u6) : HouN C1 C2 H h (ps.map (·.nm)):=by
 obtain ⟨a1,a2,a3,a4,a5,a6,xs,ys,zs,ws,h1,h2,h3,h4,h5,_⟩:=x
 exact ⟨_,_,a1,a2,a3,a4,a5,a6,ys,h1,h4,All2.mapL (P:=PerN C1) (h5.imp fun a y ⟨b,e,hp⟩=>⟨b,_,_,_,_,e,hp⟩)⟩
noncomputable abbrev Jf8 : List Nat:=[115,107,105,108,108]
noncomputable abbrev Jfj : List Nat:=[108,101,97,118,101]
noncomputable abbrev J4G : List Nat:=[110,101,101,100]
noncomputable abbrev wMoF : List Nat:=[109,111,115,116]
noncomputable def onB (d : Int) (p : Ps × List Nat) : Bool:=!decide (mkA p.2 d = 45)
noncomputable def skB (d : Int) (p : Ps × List Nat) : Bool:=!decide (mkA p.2 d ∈ p.1.sk)
noncomputable def lvB (ls : List (List Nat × Int)) (d : Int) (p : Ps × List Nat) : Bool:=JfA ls p.1.nm d
noncomputable def moB (d : Int) (p : Ps × List Nat) : Bool:=decide (p.1.most < (dut (cutN p.2 none (some (d + 1))) : Int))
noncomputable def cntF (rows : List (List Nat)) (d : Int) (k : Nat) : Nat:=(rows.filter fun r=>decide (mkA r d = k)).length
noncomputable def neB (nds : List Nd) (rows : List (List Nat)) (d : Int) (k : Nat) : Bool:=decide ((cntF rows d k : Int) < (J2Z nds d k).1) || decide ((J2Z nds d k).2 < (cntF rows d k : Int))
noncomputable def skV (d : Int) (p : Ps × List Nat) : List V:=[.int d,T Jf8,T p.1.nm,T [mkA p.2 d]]
noncomputable def lvV (d : Int) (p : Ps × List Nat) : List V:=[.int d,T Jfj,T p.1.nm,T [mkA p.2 d]]
noncomputable def moV (d : Int) (p : Ps × List Nat) : List V:=[.int d,T wMoF,T p.1.nm,.int (dut (cutN p.2 none (some (d + 1))) : Int)]
noncomputable def neV (rows : List (List Nat)) (d : Int) (k : Nat) : List V:=[.int d,T J4G,T [k],.int (cntF rows d k : Int)]
noncomputable def skF (ps : List Ps) (rows : List (List Nat)) (d : Int) : List (List V):=(((ps.zip rows).filter (onB d)).filter (skB d)).map (skV d)
noncomputable def lvF (ls : List (List Nat × Int)) (ps : List Ps) (rows : List (List Nat)) (d : Int) : List (List V):=(((ps.zip rows).filter (onB d)).filter (lvB ls d)).map (lvV d)
noncomputable def moF (ps : List Ps) (rows : List (List Nat)) (d : Int) : List (List V):=(((ps.zip rows).filter (onB d)).filter (moB d)).map (moV d)
noncomputable def neF (ks : List Nat) (nds : List Nd) (rows : List (List Nat)) (d : Int) : List (List V):=(ks.filter (neB nds rows d)).map (neV rows d)
noncomputable def dayF (ks : List Nat) (nds : List Nd) (ls : List (List Nat × Int)) (rls : List Ru) (prs : List Pr) (ps : List Ps) (rows : List (List Nat)) (d : Int) : List (List V):=skF ps rows d ++ lvF ls ps rows d ++ neF ks nds rows d ++ moF ps rows d ++ ruF rls ps rows d ++ paF prs rows d
noncomputable def allF (ks : List Nat) (nds : List Nd) (ls : List (List Nat × Int)) (rls : List Ru) (prs : List Pr) (ps : List Ps) (rows : List (List Nat)) : Nat → List (List V)
 | 0=>[]
 | n + 1=>allF ks nds ls rls prs ps rows n ++ dayF ks nds ls rls prs ps rows (0 + (n : Int))
theorem J5q {ps : List Ps} {rows : List (List Nat)} (f g : Ps × List Nat → Bool) (v : Ps × List Nat → List V) (hp : ps.length ≤ 8) : ((((ps.zip rows).filter f).filter g).map v).length ≤ 8:=by
 rw [List.length_map]
 have h1:=List.length_filter_le g ((ps.zip rows).filter f)
 have h2:=List.length_filter_le f (ps.zip rows)
 rw [List.length_zip] at h2
 omega
theorem Jdr {ks : List Nat} {nds : List Nd} {rows : List (List Nat)} {d : Int} (hk : ks.length ≤ 4) : (neF ks nds rows d).length ≤ 4:=by
 unfold neF
 rw [List.length_map]
 have h1:=List.length_filter_le (neB nds rows d) ks
 omega
theorem Je1 {ks : List Nat} {nds : List Nd} {ls : List (List Nat × Int)} {rls : List Ru} {prs : List Pr} {ps : List Ps} {rows : List (List Nat)} {d : Int} (hp : ps.length ≤ 8) (hk : ks.length ≤ 4) (h6 : rls.length ≤ 8) (h2' : prs.length ≤ 8) : (dayF ks nds ls rls prs ps rows d).length ≤ 100:=by
 unfold dayF
 have h1 : (skF ps rows d).length ≤ 8:=J5q _ _ _ hp
 have h2 : (lvF ls ps rows d).length ≤ 8:=J5q _ _ _ hp
 have h3 : (moF ps rows d).length ≤ 8:=J5q _ _ _ hp
 have h4:=Jdr (nds:=nds) (rows:=rows) (d:=d) hk
 have h5:=Jbu (rows:=rows) (d:=d) h6 hp
 have h7 : (paF prs rows d).length ≤ prs.length:=J8y _ _ _ _
 simp only [List.length_append]
 omega
theorem Jbg {ks : List Nat} {nds : List Nd} {ls : List (List Nat × Int)} {rls : List Ru} {prs : List Pr} {ps : List Ps} {rows : List (List Nat)} (hp : ps.length ≤ 8) (hk : ks.length ≤ 4) (h6 : rls.length ≤ 8) (h2' : prs.length ≤ 8) : ∀ n,(allF ks nds ls rls prs ps rows n).length ≤ 100 * n
 | 0=>Nat.le_refl _
 | n + 1=>by
  have h:=Jbg (nds:=nds) (ls:=ls) (rows:=rows) hp hk h6 h2' n
  have h2:=Je1 (nds:=nds) (ls:=ls) (rows:=rows) (d:=0 + (n : Int)) hp hk h6 h2'
  rw [allF,List.length_append]
  omega
noncomputable def ROk (rows : List (List Nat)) (d : Int) : Prop:=0 ≤ d ∧ ∀ r ∈ rows,d < (r.length : Int) ∧ r.length ≤ 100
noncomputable def Jfr (C1 C2 : Addr) : Sp:=fun vs H Q _=>∃ (h r : Addr) (d dd : Int) (ks : List Nat) (nds : List Nd) (ps : List Ps) (ls : List (List Nat × Int)) (u5 u6 : List V) (rows : List (List Nat)),vs = [.ref h,.ref r,.int d] ∧ Hq C1 C2 H h dd ks nds ps ls u5 u6 ∧ H r = some (.lst (rows.map T)) ∧ rows.length = ps.length ∧ ps.length ≤ 8 ∧ ROk rows d ∧
 ∀ (D : Addr) (H' : Hp) (ys : List V),Same H H' → H D = none → H' D = some (.lst ys) → All2 (OnT C1) H' ((ps.zip rows).filter (onB d)) ys → Q (.ref D) H'
noncomputable def JdC (C1 C2 : Addr) (F : List Nat → List Nd → List (List Nat × Int) → List Ps → List (List Nat) → Int → List (List V)) : Sp:=fun vs H Q _=>∃ (h r : Addr) (d dd : Int) (ks : List Nat) (nds : List Nd) (ps : List Ps) (ls : List (List Nat × Int)) (u5 u6 : List V) (rows : List (List Nat)),vs = [.ref h,.ref r,.int d] ∧ Hq C1 C2 H h dd ks nds ps ls u5 u6 ∧ H r = some (.lst (rows.map T)) ∧ rows.length = ps.length ∧ ps.length ≤ 8 ∧ ks.length ≤ 4 ∧ ROk rows d ∧
 ∀ (D : Addr) (H' : Hp) (ys : List V),Same H H' → H D = none → H' D = some (.lst ys) → All2 TpV H' (F ks nds ls ps rows d) ys → Q (.ref D) H'
noncomputable def JdA (P : Program) (w : World) (K : PySem.W.Frag) (mg : Str → Option Value) (base : Heap) (C1 C2 : Addr) : Sp:=fun vs H Q _=>∃ (h : Addr) (p dd : Int) (ks : List Nat) (nds : List Nd) (ps : List Ps) (ls : List (List Nat × Int)) (u5 u6 : List V) (n : Ps) (rls : List Ru),vs = [.ref h,.int p] ∧ Hq C1 C2 H h dd ks nds ps ls u5 u6 ∧ 0 ≤ p ∧ ps[p.toNat]? = some n ∧ All2 (RuT P w K mg base) H rls u5 ∧ rls.length ≤ 8 ∧ ∀ (D : Addr) (H' : Hp) (ys : List V),Same H H' → H' D = some (.lst ys) → All2 (FdT P w K mg base rls) H' (ruI rls n.nm) ys → Q (.ref D) H'
noncomputable def Jfq (P : Program) (w : World) (K : PySem.W.Frag) (mg : Str → Option Value) (base : Heap) (C1 C2 : Addr) : Sp:=fun vs H Q _=>∃ (h r : Addr) (d dd : Int) (ks : List Nat) (nds : List Nd) (ps : List Ps) (ls : List (List Nat × Int)) (u5 u6 : List V) (rows : List (List Nat)) (rls : List Ru),vs = [.ref h,.ref r,.int d] ∧ Hq C1 C2 H h dd ks nds ps ls u5 u6 ∧ H r = some (.lst (rows.map T)) ∧ rows.length = ps.length ∧ ps.length ≤ 8 ∧ ROk rows d ∧ (∀ n ∈ ps,n.past.length ≤ 100) ∧ All2 (RuT P w K mg base) H rls u5 ∧ rls.length ≤ 8 ∧
 ∀ (D : Addr) (H' : Hp) (ys : List V),Same H H' → H D = none → H' D = some (.lst ys) → All2 TpV H' (ruF rls ps rows d) ys → Q (.ref D) H'
noncomputable def Jfp (C1 C2 : Addr) : Sp:=fun vs H Q _=>∃ (h r : Addr) (d dd : Int) (ks : List Nat) (nds : List Nd) (ps : List Ps) (ls : List (List Nat × Int)) (u5 u6 : List V) (rows : List (List Nat)) (prs : List Pr),vs = [.ref h,.ref r,.int d] ∧ Hq C1 C2 H h dd ks nds ps ls u5 u6 ∧ H r = some (.lst (rows.map T)) ∧ rows.length = ps.length ∧ ps.length ≤ 8 ∧ ROk rows d ∧ All2 PrT H prs u6 ∧ prs.length ≤ 8 ∧ (∀ p ∈ prs,PrIn ps p) ∧
 ∀ (D : Addr) (H' : Hp) (ys : List V),Same H H' → H D = none → H' D = some (.lst ys) → All2 TpV H' (paF prs rows d) ys → Q (.ref D) H'
noncomputable def Jew : Sp:=fun vs H Q _=>∃ (wd : List Nat) (m o : Nat),vs = [T wd,T [m],T [o]] ∧ Q (.bl (brkB wd m o)) H
noncomputable def Jbx (P : Program) (w : World) (K : PySem.W.Frag) (mg : Str → Option Value) (base : Heap) (C1 C2 : Addr) : Sp:=fun vs H Q _=>∃ (h r : Addr) (dd : Int) (ks : List Nat) (nds : List Nd) (ps : List Ps) (ls : List (List Nat × Int)) (u5 u6 : List V) (rows : List (List Nat)) (rls : List Ru) (prs : List Pr),vs = [.ref h,.ref r] ∧ Hq C1 C2 H h dd ks nds ps ls u5 u6 ∧ H r = some (.lst (rows.map T)) ∧ rows.length = ps.length ∧ ps.length ≤ 8 ∧ ks.length ≤ 4 ∧ 0 ≤ dd ∧ dd ≤ 14 ∧ (∀ r ∈ rows,(r.length : Int) = dd) ∧ (∀ n ∈ ps,n.past.length ≤ 100) ∧ All2 (RuT P w K mg base) H rls u5 ∧ rls.length ≤ 8 ∧ All2 PrT H prs u6 ∧ prs.length ≤ 8 ∧ (∀ p ∈ prs,PrIn ps p) ∧
 ∀ (D : Addr) (H' : Hp) (ys : List V),Same H H' → H D = none → H' D = some (.lst ys) → All2 TpV H' (allF ks nds ls rls prs ps rows dd.toNat) ys → Q (.ref D) H'
theorem J3c (a b c d e f g h : V) : List.lookup ("place_of" : Str) (fH a b c d e f g h) = none:=lH_m _ _ _ _ _ _ _ _ (by decide +kernel) (by decide +kernel) (by decide +kernel) (by decide +kernel) (by decide +kernel) (by decide +kernel) (by decide +kernel) (by decide +kernel)
section
variable {P : Program} {w : World} {K : PySem.W.Frag} {mg : Str → Option Value} {base : Heap} {Jk Jo Ji Jp Je Js J8 J4 J6 Jf Jc Ja Jm Jg Jb J5 : Addr}
local macro_rules | `(tactic| walk_at "lk")=>`(tactic| first | exact J2B _ _ _ _ _ | exact J5z _ _ _ _ _ | exact J8s _ _ _ _ _ | exact J8T _ _ _ _ _ | exact J28 _ _ _ _ _ _ _ _ | exact J6P _ _ _ _ _ _ _ _ | exact J6A _ _ _ _ _ _ _ _ | exact J6K _ _ _ _ _ _ _ _ | exact J4I _ _ _ _ _ _ _ _ | exact J9Q _ _ _ _ _ _ _ _ | exact J9O _ _ _ _ _ _ _ _ | exact J8B _ _ _ _ _ _ _ _ | exact J4O _ _ _ _ _ _ _ _ | exact J3c _ _ _ _ _ _ _ _ | exact Or.inr (SqT.of (by with_reducible assumption)))
theorem J52 (tx : Tx K mg Jk Jo Ji Jp Je Js J8 J4 J6 Jf Jc Ja Jm Jg Jb J5) : FnG P w K mg base "on_duty" 1 ["house","rota","day"] (Jfr J8 J4):=by
 refine tx.JbB.g Ja3 (fun _ _ _ _ _ _ us hl=>match us,hl with | [_,_,_],_=>rfl) (fun vs H Q E h=>?_) (fun f cdv A outer s H vs Q E hr h=>?_)
 ·obtain ⟨h,r,d,dd,ks,nds,ps,ls,u5,u6,rows,rfl,_⟩:=h
  rfl
 ·obtain ⟨h,r,d,dd,ks,nds,ps,ls,u5,u6,rows,rfl,⟨a1,a2,a3,a4,a5,a6,xs,ys,zs,ws,⟨dx,h1⟩,h2,h3,h4,h5,_⟩,hr1,hl,hp8,hR,q⟩:=h
  refine ⟨_,(Jl (Jx (J0W (osc:=J9 J2r) (ON:=["house","rota","day"]) (N:=["person","row","day"]) (js:=[none,none,some 2]) ⟨rfl,by decide +kernel,by decide +kernel,by decide +kernel,rfl,by decide +kernel⟩ rfl rfl rfl (J9z (K:=K) rfl rfl tx.J5C (J0 (Jz (K:=K) rfl (pv 0) rfl) (J0 (pv 1) J7))) (fun _ _ _ _ _=>J5s (K:=K) (i:=0) (j:=1) rfl rfl (show List.Nodup (["person","row","day"] : List Str) from by decide +kernel) rfl rfl (Or.inl rfl) (Or.inl rfl)) (fun _ _ _ _ _=>J1E (Jw J6T (JF J0x (pv 1) (pv 2) (fun _ _=>rfl)) (JE (l:=[45]) (by decide +kernel)) (JA _))) (fun _ _ _ _ _=>(J02 (J0 (pv 0) (J0 (pv 1) J7))))))),?_⟩
  walk_at "st"
  have cH:=tx.J00.cl
  have nH:=tx.JV
  have hyl:=h5.len
  walk_at "rd"
  refine JaE (ps.zip rows) (onB d) (OnT J8) (fun σ=>∃ v1 v2,σ = [v1,v2,some (.int d)]) (SqL.of h4) (SqL.of hr1) ?_ ?_ ?_ ⟨_,_,rfl⟩ (fun a y Ha Hb k h=>OnT.keeps a y Ha Hb k h) (fun i a u v p σ H' ha hu hv hσ s' hp Rf Rt hF hR'=>?_) (fun D H' ys hD s' hys hDD=>?_)
  ·rw [List.length_zip]; omega
  ·rw [List.length_zip,List.length_map]; omega
  ·rw [List.length_zip]; omega
  ·obtain ⟨v1,v2,rfl⟩:=hσ
   obtain ⟨n,row⟩:=a
   obtain ⟨hn,hrow⟩:=List.getElem?_zip_eq_some.mp ha
   obtain ⟨y,hy,pa,rfl,hpa⟩:=h5.get hn
   rw [hu] at hy
   cases hy
   rw [List.getElem?_map,hrow] at hv
   cases hv
   obtain ⟨hd,hrl⟩:=hR.2 row (List.mem_of_getElem? hrow)
   have e:=J5H hR.1 hd
   have s2 : Same H' (upd H' p (.tup [V.ref pa,T row])):=Jy hp _
   walk_at "rd"
   refine ite2 (fun c=>?_) (fun c=>?_)
   ·walk_at "rd"
    intro t ht
    have s3:=s2.trans (Jy ht (.tup [V.ref pa,T row]))
    refine hR' _ _ _ ?_ ⟨_,_,rfl⟩ s3 ⟨t,pa,rfl,Jd,hpa.keeps (s'.trans s3).keeps⟩
    unfold onB
    rw [decide_eq_false fun z=>?_]
    ·rfl
    ·have z' : mkA row d = 45:=z
     rw [z'] at c
     exact absurd c (by decide)
   ·refine hF _ _ ?_ ⟨_,_,rfl⟩ s2
    unfold onB
    have : mkA row d = 45:=Decidable.byContradiction fun z=>c (by rw [decide_eq_false fun y=>z (by simpa using J2N y)]; rfl)
    rw [decide_eq_true this]
    rfl
  ·exact q D H' ys s' hD hDD hys
theorem J6m (tx : Tx K mg Jk Jo Ji Jp Je Js J8 J4 J6 Jf Jc Ja Jm Jg Jb J5) : FnG P w K mg base "skill_faults" 2 ["house","rota","day"] (JdC J8 J4 fun _ _ _ ps rows d=>skF ps rows d):=by
 have J2b:=J52 (P:=P) (w:=w) (base:=base) tx
 refine tx.J6a.g J3E (fun _ _ _ _ _ _ us hl=>match us,hl with | [_,_,_],_=>rfl) (fun vs H Q E h=>?_) (fun f cdv A outer s H vs Q E hr h=>?_)
 ·obtain ⟨h,r,d,dd,ks,nds,ps,ls,u5,u6,rows,rfl,_⟩:=h
  rfl
 ·obtain ⟨h,r,d,dd,ks,nds,ps,ls,u5,u6,rows,rfl,hq,hr1,hl,hp8,hk4,hR,q⟩:=h
  refine ⟨_,(J3 (Jr (i:=3) J3E.nd rfl (Or.inl rfl) (JQ J2b (hr.mono (by decide)) (J0 (pv 0) (J0 (pv 1) (J0 (pv 2) J7)))))
   (Jl (Jx (J0W (osc:=J9 J0D) (ON:=["house","rota","day","having"]) (N:=["person","row","day"]) (js:=[none,none,some 2]) ⟨rfl,by decide +kernel,by decide +kernel,by decide +kernel,rfl,by decide +kernel⟩ rfl rfl rfl (J2o (K:=K) rfl (pv 3)) (fun _ _ _ _ _=>J5s (K:=K) (i:=0) (j:=1) rfl rfl (show List.Nodup (["person","row","day"] : List Str) from by decide +kernel) rfl rfl (Or.inl rfl) (Or.inl rfl)) (fun _ _ _ _ _=>J1E (Jw JbM (JF J0x (pv 1) (pv 2) (fun _ _=>rfl)) (Jz (K:=K) rfl (pv 0) rfl) rfl)) (fun _ _ _ _ _=>(J02 (J0 (pv 2) (J0 (JE (l:=[115,107,105,108,108]) (by decide +kernel)) (J0 (Jz (K:=K) rfl (pv 0) rfl) (J0 (JF J0x (pv 1) (pv 2) (fun _ _=>rfl)) J7)))))))))),?_⟩
  walk_at "st"
  clear J2b
  have cP:=tx.J0d.cl
  have nP1:=tx.JM
  have nP2:=tx.J0K
  walk_at "rd"
  intro D1 H1 ys s1 nD1 hD1 hA
  have hyl:=hA.len
  have hfl:=List.length_filter_le (onB d) (ps.zip rows)
  rw [List.length_zip] at hfl
  walk_at "rd"
  refine J31 ((ps.zip rows).filter (onB d)) (skB d) (fun p y H=>TpV (skV d p) y H) (fun σ=>∃ v1 v2,σ = [v1,v2,some (.int d)]) (J30 (SqL.of hD1)) hyl ?_ ⟨_,_,rfl⟩ (fun a y Ha Hb k h=>TpV.keeps _ y Ha Hb k h) (fun i a v σ H' ha hv hσ s' Rf Rt hF hR'=>?_) (fun D H' zs hD s' hzs hDD=>?_)
  ·omega
  ·obtain ⟨v1,v2,rfl⟩:=hσ
   obtain ⟨n,row⟩:=a
   obtain ⟨y,hy,t,pa,rfl,ht,dxp,hpa⟩:=hA.get ha
   rw [hv] at hy
   cases hy
   have hm:=(List.mem_filter.mp (List.mem_of_getElem? ha)).1
   obtain ⟨hd,hrl⟩:=hR.2 row (List.of_mem_zip hm).2
   have e:=J5H hR.1 hd
   have ht':=s' _ _ ht
   have hpa':=s' _ _ hpa
   walk_at "rd"
   refine ite2 (fun c=>?_) (fun c=>?_)
   ·walk_at "rd"
    intro t2 ht2
    exact hR' _ _ _ c ⟨_,_,rfl⟩ (Jy ht2 _) ⟨t2,rfl,Jd⟩
   ·exact hF _ _ (Bool.eq_false_iff.mpr c) ⟨_,_,rfl⟩ (Same.refl _)
  ·exact q D H' zs (s1.trans s') (s1.free hD) hDD hzs.mapL
theorem J6r (tx : Tx K mg Jk Jo Ji Jp Je Js J8 J4 J6 Jf Jc Ja Jm Jg Jb J5) : FnG P w K mg base "leave_faults" 2 ["house","rota","day"] (JdC J8 J4 fun _ _ ls ps rows d=>lvF ls ps rows d):=by
 have J2b:=J52 (P:=P) (w:=w) (base:=base) tx
 refine tx.J6d.g J3F (fun _ _ _ _ _ _ us hl=>match us,hl with | [_,_,_],_=>rfl) (fun vs H Q E h=>?_) (fun f cdv A outer s H vs Q E hr h=>?_)
 ·obtain ⟨h,r,d,dd,ks,nds,ps,ls,u5,u6,rows,rfl,_⟩:=h
  rfl
 ·obtain ⟨h,r,d,dd,ks,nds,ps,ls,u5,u6,rows,rfl,hq,hr1,hl,hp8,hk4,hR,q⟩:=h
  refine ⟨_,(J3 (Jr (i:=3) J3F.nd rfl (Or.inl rfl) (JQ J2b (hr.mono (by decide)) (J0 (pv 0) (J0 (pv 1) (J0 (pv 2) J7)))))
   (Jl (Jx (J0W (osc:=J9 J0F) (ON:=["house","rota","day","having"]) (N:=["person","row","day","house"]) (js:=[none,none,some 2,some 0]) ⟨rfl,by decide +kernel,by decide +kernel,by decide +kernel,rfl,by decide +kernel⟩ rfl rfl rfl (J2o (K:=K) rfl (pv 3)) (fun _ _ _ _ _=>J5s (K:=K) (i:=0) (j:=1) rfl rfl (show List.Nodup (["person","row","day","house"] : List Str) from by decide +kernel) rfl rfl (Or.inl rfl) (Or.inl rfl)) (fun _ _ _ _ _=>J1E (Jw (JeJ (K:=K) rfl (JfN hr)) (J02 (J0 (Jz (K:=K) rfl (pv 0) rfl) (J0 (pv 2) J7))) (Jz (K:=K) rfl (pv 3) rfl) rfl)) (fun _ _ _ _ _=>(J02 (J0 (pv 2) (J0 (JE (l:=[108,101,97,118,101]) (by decide +kernel)) (J0 (Jz (K:=K) rfl (pv 0) rfl) (J0 (JF J0x (pv 1) (pv 2) (fun _ _=>rfl)) J7)))))))))),?_⟩
  walk_at "st"
  clear J2b
  have cH:=tx.J00.cl
  have nH:=tx.J1n
  have cP:=tx.J0d.cl
  have nP1:=tx.JM
  walk_at "rd"
  intro D1 H1 ys s1 nD1 hD1 hA
  have hyl:=hA.len
  have hfl:=List.length_filter_le (onB d) (ps.zip rows)
  rw [List.length_zip] at hfl
  obtain ⟨a1,a2,a3,a4,a5,a6,xs',ys',zs',ws',⟨dx,h1⟩,_,_,_,_,h6,h7,_⟩:=hq
  walk_at "rd"
  refine J31 ((ps.zip rows).filter (onB d)) (lvB ls d) (fun p y H=>TpV (lvV d p) y H) (fun σ=>∃ v1 v2,σ = [v1,v2,some (.int d),some (.ref h)]) (J30 (SqL.of hD1)) hyl ?_ ⟨_,_,rfl⟩ (fun a y Ha Hb k h=>TpV.keeps _ y Ha Hb k h) (fun i a v σ H' ha hv hσ s' Rf Rt hF hR'=>?_) (fun D H' zs hD s' hzs hDD=>?_)
  ·omega
  ·obtain ⟨v1,v2,rfl⟩:=hσ
   obtain ⟨n,row⟩:=a
   obtain ⟨y,hy,t,pa,rfl,ht,dxp,hpa⟩:=hA.get ha
   rw [hv] at hy
   cases hy
   have hm:=(List.mem_filter.mp (List.mem_of_getElem? ha)).1
   obtain ⟨hd,hrl⟩:=hR.2 row (List.of_mem_zip hm).2
   have e:=J5H hR.1 hd
   have ht':=s' _ _ ht
   have hpa':=s' _ _ hpa
   have t1:=s1.trans s'
   walk_at "rd"
   intro t2 ht2
   obtain ⟨H2,e2,ht22,s2⟩:=newt (xs:=[T n.nm,V.int d]) ht2
   rw [← e2]
   have k1:=s2 _ _ (t1 _ _ h1)
   have k6:=s2 _ _ (t1 _ _ h6)
   have kp:=s2 _ _ hpa'
   have k7:=Jeh (K:=K) (h7.imp fun a y=>LvT.keeps a y _ _ (t1.trans s2).keeps)
   have fl : ([T n.nm,V.int d] : List V).all J09 = true:=rfl
   walk_at "rd"
   refine ite2 (fun c=>?_) (fun c=>?_)
   ·walk_at "rd"
    intro t3 ht3
    exact hR' _ _ _ c ⟨_,_,rfl⟩ (s2.trans (Jy ht3 _)) ⟨t3,rfl,Jd⟩
   ·exact hF _ _ (Bool.eq_false_iff.mpr c) ⟨_,_,rfl⟩ s2
  ·exact q D H' zs (s1.trans s') (s1.free hD) hDD hzs.mapL
theorem J76 (tx : Tx K mg Jk Jo Ji Jp Je Js J8 J4 J6 Jf Jc Ja Jm Jg Jb J5) : FnG P w K mg base "need_faults" 2 ["house","rota","day"] (JdC J8 J4 fun ks nds _ _ rows d=>neF ks nds rows d):=by
 have Jcj:=JeA (P:=P) (w:=w) (base:=base) tx
 refine tx.J7b.g J1C (fun _ _ _ _ _ _ us hl=>match us,hl with | [_,_,_],_=>rfl) (fun vs H Q E h=>?_) (fun f cdv A outer s H vs Q E hr h=>?_)
 ·obtain ⟨h,r,d,dd,ks,nds,ps,ls,u5,u6,rows,rfl,_⟩:=h
  rfl
 ·obtain ⟨h,r,d,dd,ks,nds,ps,ls,u5,u6,rows,rfl,hq,hr1,hl,hp8,hk4,hR,q⟩:=h
  refine ⟨_,(J3 (Jr (i:=3) J1C.nd rfl (Or.inl rfl) (J0f J7))
   (J3 (J0I PassesOwn.never rfl (J6J (Jz (K:=K) rfl (pv 0) rfl)) (JD (i:=4) J1C.nd rfl (Or.inr rfl)) (J3 (Jr (i:=5) J1C.nd rfl (Or.inl rfl) (Jbt Jcj (hr.mono (by decide)) (pv 0) (J0 (pv 2) (J0 (pv 4) J7))))
   (J3 (Jr (i:=6) J1C.nd rfl (Or.inl rfl) (JB (JS (K:=K) rfl) rfl tx.J0y PySem.boot_len (J0 (J0W (osc:=J9 J0U) (ON:=["house","rota","day","found","kind","need","many"]) (N:=["row","kind","day"]) (js:=[none,some 4,some 2]) ⟨rfl,by decide +kernel,by decide +kernel,by decide +kernel,rfl,by decide +kernel⟩ rfl rfl rfl (J2o (K:=K) rfl (pv 1)) (fun _ _ _ _ _=>JD (i:=0) (show List.Nodup (["row","kind","day"] : List Str) from by decide +kernel) rfl (Or.inl rfl)) (fun _ _ _ _ _=>J1E (Jw J0j (JF J0x (pv 0) (pv 2) (fun _ _=>rfl)) (pv 1) (JA _))) (fun _ _ _ _ _=>(pv 0))) J7)))
   (Jl (J26 (J03 (PW.pt (J6M (Jw J7M (pv 6) (JF (J1v (K:=K) rfl) (pv 5) Jh (fun _ _=>rfl)) (JA _)) (J4m (Jw J7E (pv 6) (JF (J1v (K:=K) rfl) (pv 5) Jh (fun _ _=>rfl)) (JA _))))) (Jl (J1W (J3H PySem.F.plainAttrs_list PySem.F.slot_list_append PySem.F.type_list_append J0L (pv 3) (J0 (J02 (J0 (pv 2) (J0 (JE (l:=[110,101,101,100]) (by decide +kernel)) (J0 (pv 4) (J0 (pv 6) J7))))) J7)))) JI))))))
   (Jl (Jx (pv 3))))),?_⟩
  walk_at "st"
  clear Jcj
  have cH:=tx.J00.cl
  have nH:=tx.J1k
  have hq0:=hq
  obtain ⟨a1,a2,a3,a4,a5,a6,xs',ys',zs',ws',⟨dx,h1⟩,_⟩:=hq0
  walk_at "rd"
  intro fl nfl
  have k1:=Jy nfl (.lst []) _ _ h1
  walk_at "rd"
  refine JdP (l:=ks) (fun i σ H2=>Here (∃ v1 v2 v3 xs,σ = [some (.ref h),some (.ref r),some (.int d),some (.ref fl),v1,v2,v3] ∧ H2 fl = some (.lst xs) ∧ All2 TpV H2 (((ks.take i).filter (neB nds rows d)).map (neV rows d)) xs ∧ Same H H2)) (Here.mk ⟨none,none,none,[],rfl,Jd,trivial,Jy nfl _⟩) ?_ ?_
  ·rintro i k σ H2 hk hv
   obtain ⟨v1,v2,v3,xs,rfl,hf2,hA2,s2⟩:=hv.out
   have hq2:=(hq.same s2).k
   have ob2:=s2 _ _ h1
   have hxl : xs.length ≤ 10:=by
    have h1:=hA2.len
    have h2:=List.length_filter_le (neB nds rows d) (ks.take i)
    rw [List.length_map] at h1
    rw [List.length_take] at h2
    omega
   walk_at "rd"
   intro t1 H3 s3 ht1
   have hr3:=s3 _ _ (s2 _ _ hr1)
   walk_at "rd"
   refine J31 rows (fun r=>decide (mkA r d = k)) (fun _ _ _=>True) (fun σ=>∃ v,σ = [v,some (T [k]),some (.int d)]) (J30 (SqL.of hr3)) (by rw [List.length_map]) (by omega) ⟨_,rfl⟩ (fun _ _ _ _ _ z=>z) (fun j row v σ H' hj hv hσ s' Rf Rt hF hR'=>?_) (fun D H4 ys hD s4 hys hDD=>?_)
   ·obtain ⟨w1,rfl⟩:=hσ
    rw [List.getElem?_map,hj] at hv
    cases hv
    obtain ⟨hd,hrl⟩:=hR.2 row (List.mem_of_getElem? hj)
    have e:=J5H hR.1 hd
    walk_at "rd"
    refine ite2 (fun c=>?_) (fun c=>?_)
    ·have c' : mkA row d = k:=by simpa using J2N (of_decide_eq_true c)
     walk_at "rd"
     exact hR' _ _ _ (decide_eq_true c') ⟨_,rfl⟩ (Same.refl _) trivial
    ·exact hF _ _ (decide_eq_false fun z=>c (decide_eq_true (by rw [z]))) ⟨_,rfl⟩ (Same.refl _)
   have hyl : ys.length = cntF rows d k:=hys.len
   have ht4:=s4 _ _ ht1
   have hf4:=s4 _ _ (s3 _ _ hf2)
   have e0:=at0 (V.int (J2Z nds d k).1) (V.int (J2Z nds d k).2)
   have e1:=at1 (V.int (J2Z nds d k).1) (V.int (J2Z nds d k).2)
   have t24:=s3.trans s4
   have ek : ((ks.take (i + 1)).filter (neB nds rows d)).map (neV rows d) = ((ks.take i).filter (neB nds rows d)).map (neV rows d) ++ (if neB nds rows d k = true then [neV rows d k] else []):=by
    rw [List.take_add_one,hk,List.filter_append,List.map_append]
    congr 1
    show (List.filter (neB nds rows d) [k]).map _ = _
    rw [List.filter_cons]
    split <;> rfl
   walk_at "rd"
   rw [hyl]
   refine tCut.mk (fun σ' H'=>Here (∃ v1 v2 v3 xs',σ' = [some (.ref h),some (.ref r),some (.int d),some (.ref fl),v1,v2,v3] ∧ H' fl = some (.lst xs') ∧ All2 TpV H' (((ks.take (i + 1)).filter (neB nds rows d)).map (neV rows d)) xs' ∧ Same H H')) ?_ (fun σ' H' hv=>hv)
   have put : neB nds rows d k = true → ∀ t2,H4 t2 = none → Here (∃ v1 v2 v3 xs',[some (V.ref h),some (.ref r),some (.int d),some (.ref fl),some (T [k]),some (.ref t1),some (.int (cntF rows d k : Nat))] = [some (.ref h),some (.ref r),some (.int d),some (.ref fl),v1,v2,v3] ∧ upd (upd H4 t2 (.tup [.int d,T J4G,T [k],.int (cntF rows d k : Nat)])) fl (.lst (xs ++ [.ref t2])) fl = some (.lst xs') ∧ All2 TpV (upd (upd H4 t2 (.tup [.int d,T J4G,T [k],.int (cntF rows d k : Nat)])) fl (.lst (xs ++ [.ref t2]))) (((ks.take (i + 1)).filter (neB nds rows d)).map (neV rows d)) xs' ∧ Same H (upd (upd H4 t2 (.tup [.int d,T J4G,T [k],.int (cntF rows d k : Nat)])) fl (.lst (xs ++ [.ref t2])))):=fun hb t2 ht2=>by
    have s5 : Same H4 (upd H4 t2 (.tup [.int d,T J4G,T [k],.int (cntF rows d k : Nat)])):=Jy ht2 _
    have kk : J01 (upd H4 t2 (.tup [.int d,T J4G,T [k],.int (cntF rows d k : Nat)])) (upd (upd H4 t2 (.tup [.int d,T J4G,T [k],.int (cntF rows d k : Nat)])) fl (.lst (xs ++ [.ref t2]))):=J0a (s5 _ _ hf4)
    refine Here.mk ⟨_,_,_,xs ++ [.ref t2],rfl,Jd,?_,((s2.trans t24).trans s5).upd nfl⟩
    rw [ek,if_pos hb]
    exact All2.snoc (hA2.imp fun a y=>TpV.keeps a y _ _ ((t24.trans s5).keeps.trans kk)) ⟨t2,rfl,kk _ _ Jd (fun zs z=>by cases z)⟩
   walk_at "rd"
   refine ite2 (fun c1=>?_) (fun c1=>?_)
   ·walk_at "rd"
    intro t2 ht2
    have hf5:=Jy ht2 (.tup [.int d,T J4G,T [k],.int (cntF rows d k : Nat)]) _ _ hf4
    walk_at "rd"
    exact put (by unfold neB; rw [c1]; rfl) t2 ht2
   ·walk_at "rd"
    refine ite2 (fun c2=>?_) (fun c2=>?_)
    ·walk_at "rd"
     intro t2 ht2
     have hf5:=Jy ht2 (.tup [.int d,T J4G,T [k],.int (cntF rows d k : Nat)]) _ _ hf4
     walk_at "rd"
     exact put (by unfold neB; rw [c2,Bool.or_true]) t2 ht2
    ·have hb : ¬ neB nds rows d k = true:=by unfold neB; rw [Bool.eq_false_iff.mpr c1,Bool.eq_false_iff.mpr c2]; decide
     walk_at "rd"
     refine Here.mk ⟨_,_,_,xs,rfl,hf4,?_,s2.trans t24⟩
     rw [ek,if_neg hb,List.append_nil]
     exact hA2.imp fun a y=>TpV.keeps a y _ _ t24.keeps
  ·rintro σ H2 hv
   obtain ⟨v1,v2,v3,xs,rfl,hf2,hA2,s2⟩:=hv.out
   rw [List.take_of_length_le (Nat.le_refl _)] at hA2
   walk_at "rd"
   exact q fl H2 xs s2 nfl hf2 hA2
theorem J7j (tx : Tx K mg Jk Jo Ji Jp Je Js J8 J4 J6 Jf Jc Ja Jm Jg Jb J5) : FnG P w K mg base "most_faults" 2 ["house","rota","day"] (JdC J8 J4 fun _ _ _ ps rows d=>moF ps rows d):=by
 have J2b:=J52 (P:=P) (w:=w) (base:=base) tx
 have J5D:=J8U (P:=P) (w:=w) (base:=base) tx
 refine tx.J74.g J1D (fun _ _ _ _ _ _ us hl=>match us,hl with | [_,_,_],_=>rfl) (fun vs H Q E h=>?_) (fun f cdv A outer s H vs Q E hr h=>?_)
 ·obtain ⟨h,r,d,dd,ks,nds,ps,ls,u5,u6,rows,rfl,_⟩:=h
  rfl
 ·obtain ⟨h,r,d,dd,ks,nds,ps,ls,u5,u6,rows,rfl,hq,hr1,hl,hp8,hk4,hR,q⟩:=h
  refine ⟨_,(J3 (Jr (i:=3) J1D.nd rfl (Or.inl rfl) (J0f J7))
   (J3 (J0I PassesOwn.never rfl (J2o (K:=K) rfl (JQ J2b (hr.mono (by decide)) (J0 (pv 0) (J0 (pv 1) (J0 (pv 2) J7))))) (J33 rfl (JY (JD (i:=4) J1D.nd rfl (Or.inl rfl)) (JY (JD (i:=5) J1D.nd rfl (Or.inl rfl)) J2l))) (J3 (Jr (i:=6) J1D.nd rfl (Or.inl rfl) (JQ J5D (hr.mono (by decide)) (J0 (J0v J2m (pv 5) J18 (J0Q (Jq JU (pv 2) Jh))) J7)))
   (Jl (J26 (J03 (Jw J7E (pv 6) (Jz (K:=K) rfl (pv 4) rfl) (JA _)) (Jl (J1W (J3H PySem.F.plainAttrs_list PySem.F.slot_list_append PySem.F.type_list_append J0L (pv 3) (J0 (J02 (J0 (pv 2) (J0 (JE (l:=[109,111,115,116]) (by decide +kernel)) (J0 (Jz (K:=K) rfl (pv 4) rfl) (J0 (pv 6) J7))))) J7)))) JI)))))
   (Jl (Jx (pv 3))))),?_⟩
  walk_at "st"
  clear J2b J5D
  have cP:=tx.J0d.cl
  have nP1:=tx.JM
  have nP2:=tx.J1m
  walk_at "rd"
  intro fl nfl
  obtain ⟨H0,e0,hf0,s0⟩:=newl (xs:=[]) nfl
  rw [← e0]
  have hq0:=hq.same s0
  have hr0:=s0 _ _ hr1
  walk_at "rd"
  intro D1 H1 ys s1 nD1 hD1 hA
  have hyl:=hA.len
  have hfl:=List.length_filter_le (onB d) (ps.zip rows)
  rw [List.length_zip] at hfl
  have hf1:=s1 _ _ hf0
  have nfD : D1 ≠ fl:=(Jj hf0 nD1).symm
  walk_at "rd"
  generalize hon : (ps.zip rows).filter (onB d) = on at hA hyl hfl
  refine J4K (K:=K) (xs:=ys) (fun i σ H2=>Here (∃ v1 v2 v3 xs,σ = [some (.ref h),some (.ref r),some (.int d),some (.ref fl),v1,v2,v3] ∧ H2 fl = some (.lst xs) ∧ All2 TpV H2 (((on.take i).filter (moB d)).map (moV d)) xs ∧ H2 D1 = some (.lst ys) ∧ J01 H1 H2 ∧ Same H H2)) (Here.mk ⟨none,none,none,[],rfl,hf1,trivial,hD1,(Same.refl _).keeps,s0.trans s1⟩) (fun i σ H2 _ hv=>by obtain ⟨_,_,_,_,_,_,_,e,_⟩:=hv.out; exact SqL.of e) ?_ ?_
  ·rintro i x σ H2 hx hv
   obtain ⟨v1,v2,v3,xs,rfl,hf2,hA2,hD2,k2,s2⟩:=hv.out
   obtain ⟨p,hp,hpt⟩:=hA.back hx
   have hm : p ∈ ps.zip rows:=by rw [← hon] at hp; exact (List.mem_filter.mp (List.mem_of_getElem? hp)).1
   obtain ⟨n,row⟩:=p
   obtain ⟨t,pa,rfl,ht,dxp,hpa⟩:=OnT.keeps _ _ _ _ k2 hpt
   obtain ⟨hd,hrl⟩:=hR.2 row (List.of_mem_zip hm).2
   have hxl : xs.length ≤ 10:=by
    have h1:=hA2.len
    have h2:=List.length_filter_le (moB d) (on.take i)
    rw [List.length_map] at h1
    rw [List.length_take] at h2
    omega
   have cl:=J17 row none (some (d + 1))
   have ek : ((on.take (i + 1)).filter (moB d)).map (moV d) = ((on.take i).filter (moB d)).map (moV d) ++ (if moB d (n,row) = true then [moV d (n,row)] else []):=by
    rw [List.take_add_one,hp,List.filter_append,List.map_append]
    congr 1
    show (List.filter (moB d) [(n,row)]).map _ = _
    rw [List.filter_cons]
    split <;> rfl
   walk_at "rd"
   intro H3 s3
   have hpa3:=s3 _ _ hpa
   have hf3:=s3 _ _ hf2
   walk_at "rd"
   refine tCut.mk (fun σ' H'=>Here (∃ v1 v2 v3 xs',σ' = [some (.ref h),some (.ref r),some (.int d),some (.ref fl),v1,v2,v3] ∧ H' fl = some (.lst xs') ∧ All2 TpV H' (((on.take (i + 1)).filter (moB d)).map (moV d)) xs' ∧ H' D1 = some (.lst ys) ∧ J01 H1 H' ∧ Same H H')) ?_ (fun σ' H' hv=>hv)
   walk_at "rd"
   refine ite2 (fun c1=>?_) (fun c1=>?_)
   ·walk_at "rd"
    intro t2 ht2
    obtain ⟨H4,e4,ht4,s4⟩:=newt (xs:=[.int d,T wMoF,T n.nm,.int (dut (cutN row none (some (d + 1))) : Nat)]) ht2
    rw [← e4]
    have hf4:=s4 _ _ hf3
    walk_at "rd"
    have kk : J01 H4 (upd H4 fl (.lst (xs ++ [.ref t2]))):=J0a hf4
    refine Here.mk ⟨_,_,_,xs ++ [.ref t2],rfl,Jd,?_,?_,k2.trans ((s3.trans s4).keeps.trans kk),((s2.trans s3).trans s4).upd nfl⟩
    ·rw [ek,if_pos (show moB d (n,row) = true from c1)]
     exact All2.snoc (hA2.imp fun a y=>TpV.keeps a y _ _ ((s3.trans s4).keeps.trans kk)) ⟨t2,rfl,kk _ _ ht4 (fun zs z=>by cases z)⟩
    ·rw [Jn nfD]
     exact s4 _ _ (s3 _ _ hD2)
   ·walk_at "rd"
    refine Here.mk ⟨_,_,_,xs,rfl,hf3,?_,s3 _ _ hD2,k2.trans s3.keeps,s2.trans s3⟩
    rw [ek,if_neg (show ¬ moB d (n,row) = true from c1),List.append_nil]
    exact hA2.imp fun a y=>TpV.keeps a y _ _ s3.keeps
  ·rintro σ H2 hv
   obtain ⟨v1,v2,v3,xs,rfl,hf2,hA2,hD2,k2,s2⟩:=hv.out
   rw [hyl,List.take_of_length_le (Nat.le_refl _),← hon] at hA2
   walk_at "rd"
   exact q fl H2 xs s2 nfl hf2 hA2
end
theorem Jfy (a b : List Nat) : eqV (T a) (T b) = decide (a = b):=by
 by_cases h : a = b
 ·subst h
  rw [decide_eq_true rfl]
  exact decide_eq_true rfl
 ·rw [decide_eq_false h]
  exact decide_eq_false fun z=>h (J2N (congrArg V.str z))
theorem JcJ (nm : List Nat) : ∀ nms : List (List Nat),inV (T nm) (nms.map T) = decide (nm ∈ nms)
 | []=>rfl
 | n :: r=>by
  have ih:=JcJ nm r
  unfold inV at ih ⊢
  rw [List.map_cons,List.any_cons,ih,Jfy]
  have h : decide (n = nm) = decide (nm = n):=by
   by_cases z : n = nm
   ·subst z; rfl
   ·rw [decide_eq_false z,decide_eq_false fun y=>z y.symm]
  rw [h]
  simp [List.mem_cons,Bool.decide_or]
section
variable {P : Program} {w : World} {K : PySem.W.Frag} {mg : Str → Option Value} {base : Heap} {Jk Jo Ji Jp Je Js J8 J4 J6 Jf Jc Ja Jm Jg Jb J5 : Addr}
local macro_rules | `(tactic| walk_at "lk")=>`(tactic| first | exact J2B _ _ _ _ _ | exact J5z _ _ _ _ _ | exact J8s _ _ _ _ _ | exact J8T _ _ _ _ _ | exact J28 _ _ _ _ _ _ _ _ | exact J6P _ _ _ _ _ _ _ _ | exact J6A _ _ _ _ _ _ _ _ | exact J6K _ _ _ _ _ _ _ _ | exact J4I _ _ _ _ _ _ _ _ | exact J9Q _ _ _ _ _ _ _ _ | exact J9O _ _ _ _ _ _ _ _ | exact J8B _ _ _ _ _ _ _ _ | exact J4O _ _ _ _ _ _ _ _ | exact J3c _ _ _ _ _ _ _ _ | exact Or.inr (SqT.of (by with_reducible assumption)))
theorem J9l (tx : Tx K mg Jk Jo Ji Jp Je Js J8 J4 J6 Jf Jc Ja Jm Jg Jb J5) : MtG P w K mg base J4 "rules_for" 1 ["self","p"] (JdA P w K mg base J8 J4):=by
 refine tx.J4r.g tx.J00.cl J2Y (fun _ _ _ _ _ _ us hl=>match us,hl with | [_,_],_=>rfl) (fun vs H Q E h=>?_) (fun f cdv A outer s H vs Q E hr h=>?_)
 ·obtain ⟨h,p,dd,ks,nds,ps,ls,u5,u6,n,rls,rfl,_⟩:=h
  rfl
 ·obtain ⟨h,p,dd,ks,nds,ps,ls,u5,u6,n,rls,rfl,hq,p0,hn,hR,h6,q⟩:=h
  refine ⟨_,(J3 (Jr (i:=2) J2Y.nd rfl (Or.inr rfl) (J02 (J0 (JE (l:=[97,108,108]) (by decide +kernel)) (J0 (Jz (K:=K) rfl (JF (JH (K:=K) rfl) (Jz (K:=K) rfl (pv 0) rfl) (pv 1) (fun _ _=>rfl)) rfl) J7))))
   (Jl (Jx (J0W (osc:=J9 J06) (ON:=["self","p","names"]) (N:=["number","told","names"]) (js:=[none,none,some 2]) ⟨rfl,by decide +kernel,by decide +kernel,by decide +kernel,rfl,by decide +kernel⟩ rfl rfl rfl (J3q (K:=K) rfl rfl tx.J0P (J0 (Jz (K:=K) rfl (pv 0) rfl) J7)) (fun _ _ _ _ _=>J5s (K:=K) (i:=0) (j:=1) rfl rfl (show List.Nodup (["number","told","names"] : List Str) from by decide +kernel) rfl rfl (Or.inl rfl) (Or.inl rfl)) (fun _ _ _ _ _=>J1E (Jw (J8D (K:=K) rfl) (JF (J1v (K:=K) rfl) (pv 1) Jh (fun _ _=>rfl)) (pv 2) rfl)) (fun _ _ _ _ _=>(J02 (J0 (pv 0) (J0 (JF (J1v (K:=K) rfl) (pv 1) Jh (fun _ _=>rfl)) J7)))))))),?_⟩
  walk_at "st"
  obtain ⟨a1,a2,a3,a4,a5,a6,xs,ys,zs,ws,⟨dx,h0⟩,y1,y1',y2,hP,y3,y3',y4,y5,y6⟩:=hq
  have cH:=tx.J00.cl
  have nH1:=tx.JV
  have nH2:=tx.J1o
  have cP:=tx.J0d.cl
  have nP:=tx.JM
  obtain ⟨y,hy,pa,rfl,dxp,hpp⟩:=hP.get hn
  have hix : atI ys p = some (.ref pa):=by have:=J05 hy; rwa [Int.toNat_of_nonneg p0] at this
  walk_at "rd"
  intro t ht
  obtain ⟨H1,e1,ht1,s1⟩:=newt (xs:=[T wAll,T n.nm]) ht
  rw [← e1]
  have h01:=s1 _ _ h0
  have y51:=s1 _ _ y5
  clear e1
  walk_at "rd"
  refine JaB (List.range rls.length) (JaZ rls n.nm) (FdT P w K mg base rls) (fun σ=>∃ v1 v2,σ = [v1,v2,some (.ref t)]) (SqL.of y51) (by rw [List.length_range]; exact hR.len) (by rw [List.length_range]; omega) ⟨_,_,rfl⟩ FdT.keeps (fun i a v qq σ H' ha hv hσ s' hq Rf Rt hf hT=>?_) (fun D H' ys hD s' hys hDD=>q D H' ys (s1.trans s') hDD hys)
  obtain ⟨w1,w2,rfl⟩:=hσ
  obtain ⟨rfl,hil⟩:=Jdc ha
  obtain ⟨r0,hr0,tt,pp,rfl,htt,hru⟩:=hR.back hv
  have sA : Same H H':=s1.trans s'
  have sQ : Same H' (upd H' qq (.tup [.int (a : Nat),.ref tt])):=Jy hq _
  have htt2:=(sA.trans sQ) _ _ htt
  have ht2:=(s'.trans sQ) _ _ ht1
  have eB : JaZ rls n.nm a = inV (T r0.nm) [T wAll,T n.nm]:=by
   unfold JaZ
   rw [JaW hr0]
   exact (JcJ r0.nm [wAll,n.nm]).symm
  have u0:=at0 (T r0.nm) (V.ref pp)
  have u1:=at1 (T r0.nm) (V.ref pp)
  have f1 : J09 (T r0.nm) = true:=rfl
  have f2 : [T wAll,T n.nm].all J09 = true:=rfl
  have hI2 : SqL K (upd H' qq (.tup [.int (a : Nat),.ref tt])) t [T wAll,T n.nm] ∨ SqT K (upd H' qq (.tup [.int (a : Nat),.ref tt])) t [T wAll,T n.nm]:=.inr (SqT.of ht2)
  walk_at "rd"
  refine ite2 (fun c=>?_) (fun c=>?_)
  ·walk_at "rd"
   intro t3 ht3
   have s3:=sQ.trans (Jy ht3 (.tup [.int (a : Nat),.ref pp]))
   exact hT _ _ _ (eB.trans c) ⟨_,_,rfl⟩ s3 ⟨t3,pp,rfl,Jd,by rw [JaW hr0]; exact hru.keeps (sA.trans s3).keeps⟩
  ·exact hf _ _ (eB.trans (Bool.eq_false_iff.mpr c)) ⟨_,_,rfl⟩ sQ
theorem J70 (tx : Tx K mg Jk Jo Ji Jp Je Js J8 J4 J6 Jf Jc Ja Jm Jg Jb J5) : FnG P w K mg base "rule_faults" 11 ["house","rota","day"] (Jfq P w K mg base J8 J4):=by
 have J5A:=J9l (P:=P) (w:=w) (base:=base) tx
 refine tx.J7h.g J0B (fun _ _ _ _ _ _ us hl=>match us,hl with | [_,_,_],_=>rfl) (fun vs H Q E h=>?_) (fun f cdv A outer s H vs Q E hr h=>?_)
 ·obtain ⟨h,r,d,dd,ks,nds,ps,ls,u5,u6,rows,rls,rfl,_⟩:=h
  rfl
 ·obtain ⟨h,r,d,dd,ks,nds,ps,ls,u5,u6,rows,rls,rfl,hq,hr1,hl,hp8,hR,hpast,hRu,h6,q⟩:=h
  refine ⟨_,(J3 (Jr (i:=3) J0B.nd rfl (Or.inl rfl) (J0f J7))
   (J3 (J0I PassesOwn.never rfl (J3q (K:=K) rfl rfl tx.J0P (J0 (Jz (K:=K) rfl (pv 0) rfl) J7)) (J33 rfl (JY (JD (i:=4) J0B.nd rfl (Or.inl rfl)) (JY (JD (i:=5) J0B.nd rfl (Or.inr rfl)) J2l))) (J3 (Jr (i:=6) J0B.nd rfl (Or.inr rfl) (Jq J0c (Jz (K:=K) rfl (pv 5) rfl) (J0v J2m (JF (JH (K:=K) rfl) (pv 1) (pv 4) (fun _ _=>rfl)) J18 (J0Q (Jq JU (pv 2) Jh)))))
   (J3 (Jr (i:=7) J0B.nd rfl (Or.inl rfl) (Jbt J5A (hr.mono (by decide)) (pv 0) (J0 (pv 4) J7)))
   (Jl (J4k (i:=3) J0B.nd rfl (Or.inl rfl) (J0W (osc:=J9 J0T) (ON:=["house","rota","day","found","p","person","marks","bound"]) (N:=["number","rule","day","person","marks"]) (js:=[none,none,some 2,some 5,some 6]) ⟨rfl,by decide +kernel,by decide +kernel,by decide +kernel,rfl,by decide +kernel⟩ rfl rfl rfl (J2o (K:=K) rfl (pv 7)) (fun _ _ _ _ _=>J5s (K:=K) (i:=0) (j:=1) rfl rfl (show List.Nodup (["number","rule","day","person","marks"] : List Str) from by decide +kernel) rfl rfl (Or.inl rfl) (Or.inl rfl)) (fun _ _ _ _ _=>J1E (J34 (J4j (P:=P) (w:=w) (K:=K) (mg:=mg) (base:=base) hr (pv 1) (J0 (pv 4) J7) rfl rfl rfl rfl rfl))) (fun _ _ _ _ _=>(J02 (J0 (pv 2) (J0 (JE (l:=[114,117,108,101]) (by decide +kernel)) (J0 (Jz (K:=K) rfl (pv 3) rfl) (J0 (pv 0) J7))))))) J3y)))))
   (Jl (Jx (pv 3))))),?_⟩
  walk_at "st"
  clear J5A
  have cH:=tx.J00.cl
  have nH:=tx.JV
  have cP:=tx.J0d.cl
  have nP:=tx.J0V
  have nP2:=tx.JM
  have hq0:=hq
  obtain ⟨a1,a2,a3,a4,a5,a6,xs',ys',zs',ws',⟨dx,h1⟩,_,_,h4,h5,_⟩:=hq0
  have hyl:=h5.len
  walk_at "rd"
  intro fl nfl
  have s1 : Same H (upd H fl (.lst [])):=Jy nfl _
  have k1:=s1 _ _ h1
  have k4:=s1 _ _ h4
  walk_at "rd"
  refine J44 (K:=K) (xs:=ys') (fun i σ H2=>Here (∃ v1 v2 v3 v4 xs,σ = [some (.ref h),some (.ref r),some (.int d),some (.ref fl),v1,v2,v3,v4] ∧ H2 fl = some (.lst xs) ∧ All2 TpV H2 ((((ps.zip rows).take i).map (ruP rls d)).flatten) xs ∧ Same H H2)) (Here.mk ⟨none,none,none,none,[],rfl,Jd,trivial,s1⟩) (fun i σ H2 _ hv=>by obtain ⟨_,_,_,_,_,_,_,_,s2⟩:=hv.out; exact SqL.of (s2 _ _ h4)) ?_ ?_
  ·rintro i x p σ H2 hx hp hv
   obtain ⟨v1,v2,v3,v4,xs,rfl,hf2,hA2,s2⟩:=hv.out
   have hi : i < ys'.length:=(List.getElem?_eq_some_iff.mp hx).1
   obtain ⟨n,hn,pa,rfl,dxp,hpa⟩:=h5.back hx
   have hpl:=hpast n (List.mem_of_getElem? hn)
   obtain ⟨H3,e3,hp3,s3⟩:=newt (xs:=[V.int (i : Int),V.ref pa]) hp
   rw [← e3]
   have S3:=s2.trans s3
   have hpa3:=S3 _ _ hpa
   have hr3:=S3 _ _ hr1
   have hq3:=hq.same S3
   have ob3:=S3 _ _ h1
   have hRu3:=hRu.imp fun a y=>RuT.keeps a y _ _ S3.keeps
   have hrow : rows[i]? = some (rows[i]'(by omega)):=List.getElem?_eq_getElem (by omega)
   generalize rows[i]'(by omega) = row at hrow
   have er : atI (rows.map T) (i : Int) = some (T row):=J05 (by rw [List.getElem?_map,hrow]; rfl)
   obtain ⟨hd,hrl⟩:=hR.2 row (List.mem_of_getElem? hrow)
   have cl:=J17 row none (some (d + 1))
   have hsum : n.past.length + (cutN row none (some (d + 1))).length ≤ sizeLine:=Nat.le_trans (show _ ≤ 1100 by omega) (by decide)
   have hm2 : (n.past ++ cutN row none (some (d + 1))).length ≤ 200:=by rw [List.length_append]; omega
   have i0 : (0 : Int) ≤ (i : Int):=by omega
   have hn' : ps[((i : Int)).toNat]? = some n:=by rw [Int.toNat_natCast]; exact hn
   have hzl:=J8S rls d h6 ((ps.zip rows).take i)
   have hxl : xs.length ≤ 64:=by
    have h1:=hA2.len
    rw [List.length_take,List.length_zip] at hzl
    omega
   have ek : (((ps.zip rows).take (i + 1)).map (ruP rls d)).flatten = (((ps.zip rows).take i).map (ruP rls d)).flatten ++ ruP rls d (n,row):=by
    rw [List.take_add_one,show (ps.zip rows)[i]? = some (n,row) from List.getElem?_zip_eq_some.mpr ⟨hn,hrow⟩,List.map_append,List.flatten_append]
    simp
   have eRu : ruP rls d (n,row) = ((ruI rls n.nm).filter (ruB rls (n.past ++ cutN row none (some (d + 1))))).map (ruV d n.nm):=rfl
   rw [ek,eRu]
   walk_at "rd"
   intro D2 H4 ys4 s4 hD2 hF4
   have hf4:=s4 _ _ (s3 _ _ hf2)
   have hpa4:=s4 _ _ hpa3
   have hil:=Jb1 rls n.nm
   have hyl4:=hF4.len
   generalize n.past ++ cutN row none (some (d + 1)) = mm at hm2 ⊢
   walk_at "rd"
   refine J31 (ruI rls n.nm) (ruB rls mm) (fun i y H=>TpV (ruV d n.nm i) y H) (fun σ=>∃ v1 v2,σ = [v1,v2,some (.int d),some (.ref pa),some (T mm)]) (J30 (SqL.of hD2)) hyl4 (by omega) ⟨_,_,rfl⟩ (fun a y Ha Hb k h=>TpV.keeps _ y Ha Hb k h) (fun i' a v σ H' ha hv hσ s' Rf Rt hF hR'=>?_) (fun D H5 zs hD s5 hzs hDD=>?_)
   ·obtain ⟨v1,v2,rfl⟩:=hσ
    obtain ⟨a',ha',t1,ra,rfl,ht1,hbq⟩:=hF4.back hv
    rw [ha] at ha'
    cases ha'
    have ht1':=s' _ _ ht1
    obtain ⟨C,dxr,fs,kk,psr,spr,hra,lk1,M1,hk4,A1⟩:=hbq.keeps s'.keeps
    have hpa':=s' _ _ hpa4
    walk_at "rd"
    refine A1 mm hm2 _ _ (Same.refl _).keeps fun H6 s6=>?_
    have hpa6:=s6 _ _ hpa'
    walk_at "rd"
    refine ite2 (fun c=>?_) (fun c=>?_)
    ·walk_at "rd"
     intro t3 ft3
     exact hR' _ _ _ c ⟨_,_,rfl⟩ (s6.trans (Jy ft3 _)) ⟨t3,rfl,Jd⟩
    ·exact hF _ _ (Bool.eq_false_iff.mpr c) ⟨_,_,rfl⟩ s6
   have hf5:=s5 _ _ hf4
   have kk : J01 H5 (upd H5 fl (.lst (xs ++ zs))):=J0a hf5
   have hzl2 : zs.length ≤ 8:=by
    have h1:=hzs.len
    have h2:=List.length_filter_le (ruB rls mm) (ruI rls n.nm)
    omega
   walk_at "rd"
   exact Here.mk ⟨_,_,_,_,xs ++ zs,rfl,Jd,All2.app (hA2.imp fun a y=>TpV.keeps a y _ _ (((s3.trans s4).trans s5).keeps.trans kk)) ((All2.mapL (P:=TpV) hzs).imp fun a y=>TpV.keeps a y _ _ kk),((S3.trans s4).trans s5).upd nfl⟩
  ·rintro σ H2 hv
   obtain ⟨v1,v2,v3,v4,xs,rfl,hf2,hA2,s2⟩:=hv.out
   rw [List.take_of_length_le (by rw [List.length_zip]; omega)] at hA2
   walk_at "rd"
   exact q fl H2 xs s2 nfl hf2 hA2
theorem J6X (tx : Tx K mg Jk Jo Ji Jp Je Js J8 J4 J6 Jf Jc Ja Jm Jg Jb J5) : FnG P w K mg base "breaks_pair" 1 ["word","mark","other"] Jew:=by
 refine tx.J72.g J63 (fun _ _ _ _ _ _ us hl=>match us,hl with | [_,_,_],_=>rfl) (fun vs H Q E h=>?_) (fun f cdv A outer s H vs Q E hr h=>?_)
 ·obtain ⟨wd,m,o,rfl,_⟩:=h
  rfl
 ·obtain ⟨wd,m,o,rfl,q⟩:=h
  refine ⟨_,(J3 (J03 (Jw J0j (pv 1) (JE (l:=[45]) (by decide +kernel)) (JA _)) (Jl (Jx J2h)) JI)
   (Jl (Jx (Jdd (Jw J0j (pv 0) (JE (l:=[97,112,97,114,116]) (by decide +kernel)) (JA _)) (J3e J0j (pv 1) (pv 2) (JA _)) (J3e J6T (pv 1) (pv 2) (JA _)))))),?_⟩
  walk_at "st"
  have dT : ∀ a b : Nat,decide (T [a] = T [b]) = decide (a = b):=fun a b=>decide_eq_decide.mpr ⟨fun z=>by simpa using J2N z,fun z=>by rw [z]⟩
  walk_at "rd"
  refine ite2 (fun e=>?_) (fun e=>?_)
  ·have e' : m = 45:=by simpa using J2N (of_decide_eq_true e)
   unfold brkB at q
   rw [decide_eq_true e'] at q
   walk_at "rd"
   exact q
  have e1 : ¬ m = 45:=fun z=>e (decide_eq_true (by rw [z]))
  unfold brkB at q
  rw [decide_eq_false e1,Bool.not_false,Bool.true_and] at q
  walk_at "rd"
  refine ite2 (fun e=>?_) (fun e=>?_)
  ·have e' : wd = J2k:=J2N (of_decide_eq_true e)
   rw [if_pos e',← dT] at q
   walk_at "rd"
   exact q
  ·have e' : ¬ wd = J2k:=fun z=>e (decide_eq_true (by rw [z]))
   rw [if_neg e',← dT] at q
   walk_at "rd"
   exact q
theorem J7o (tx : Tx K mg Jk Jo Ji Jp Je Js J8 J4 J6 Jf Jc Ja Jm Jg Jb J5) : FnG P w K mg base "pair_faults" 2 ["house","rota","day"] (Jfp J8 J4):=by
 have J4g:=J9W (P:=P) (w:=w) (base:=base) tx
 have J4f:=J6X (P:=P) (w:=w) (base:=base) tx
 refine tx.J73.g J13 (fun _ _ _ _ _ _ us hl=>match us,hl with | [_,_,_],_=>rfl) (fun vs H Q E h=>?_) (fun f cdv A outer s H vs Q E hr h=>?_)
 ·obtain ⟨h,r,d,dd,ks,nds,ps,ls,u5,u6,rows,prs,rfl,_⟩:=h
  rfl
 ·obtain ⟨h,r,d,dd,ks,nds,ps,ls,u5,u6,rows,prs,rfl,hq,hr1,hl,hp8,hR,hPr,h2,hIn,q⟩:=h
  refine ⟨_,(J3 (Jr (i:=3) J13.nd rfl (Or.inl rfl) (J0f J7))
   (J3 (J0I PassesOwn.never rfl (J3q (K:=K) rfl rfl tx.J0P (J0 (Jz (K:=K) rfl (pv 0) rfl) J7)) (J33 rfl (JY (JD (i:=4) J13.nd rfl (Or.inl rfl)) (JY (JD (i:=5) J13.nd rfl (Or.inl rfl)) J2l))) (J3 (Jr (i:=6) J13.nd rfl (Or.inl rfl) (JF J0x (JF (JH (K:=K) rfl) (pv 1) (Jbt J4g (hr.mono (by decide)) (pv 0) (J0 (JF (J1v (K:=K) rfl) (pv 5) Jh (fun _ _=>rfl)) J7)) (fun _ _=>rfl)) (pv 2) (fun _ _=>rfl)))
   (J3 (Jr (i:=7) J13.nd rfl (Or.inl rfl) (JF J0x (JF (JH (K:=K) rfl) (pv 1) (Jbt J4g (hr.mono (by decide)) (pv 0) (J0 (JF (J1v (K:=K) rfl) (pv 5) Jh (fun _ _=>rfl)) J7)) (fun _ _=>rfl)) (pv 2) (fun _ _=>rfl)))
   (Jl (J03 (J34 (JQ J4f (hr.mono (by decide)) (J0 (JF (J1v (K:=K) rfl) (pv 5) Jh (fun _ _=>rfl)) (J0 (pv 6) (J0 (pv 7) J7))))) (Jl (J1W (J3H PySem.F.plainAttrs_list PySem.F.slot_list_append PySem.F.type_list_append J0L (pv 3) (J0 (J02 (J0 (pv 2) (J0 (JE (l:=[112,97,105,114]) (by decide +kernel)) (J0 (JF (J1v (K:=K) rfl) (pv 5) Jh (fun _ _=>rfl)) (J0 (pv 4) J7))))) J7)))) JI)))))
   (Jl (Jx (pv 3))))),?_⟩
  walk_at "st"
  clear J4g J4f
  have cH:=tx.J00.cl
  have nH:=tx.J1d
  have hN:=hq.n
  obtain ⟨a1,a2,a3,a4,a5,a6,xs',ys',zs',ws',⟨dx,h1⟩,_,_,_,_,_,_,_,_,h10⟩:=hq
  have hul:=hPr.len
  walk_at "rd"
  intro fl nfl
  have s1 : Same H (upd H fl (.lst [])):=Jy nfl _
  have k1:=s1 _ _ h1
  have k10:=s1 _ _ h10
  walk_at "rd"
  refine J44 (K:=K) (xs:=u6) (fun i σ H2=>Here (∃ v1 v2 v3 v4 xs,σ = [some (.ref h),some (.ref r),some (.int d),some (.ref fl),v1,v2,v3,v4] ∧ H2 fl = some (.lst xs) ∧ All2 TpV H2 (paL prs rows d i) xs ∧ Same H H2)) (Here.mk ⟨none,none,none,none,[],rfl,Jd,trivial,s1⟩) (fun i σ H2 _ hv=>by obtain ⟨_,_,_,_,_,_,_,_,s2⟩:=hv.out; exact SqL.of (s2 _ _ h10)) ?_ ?_
  ·rintro i x p σ H2 hx hp hv
   obtain ⟨v1,v2,v3,v4,xs,rfl,hf2,hA2,s2⟩:=hv.out
   have hi : i < u6.length:=(List.getElem?_eq_some_iff.mp hx).1
   obtain ⟨pr,hpr,tp,rfl,htp⟩:=hPr.back hx
   have epr : prAt prs i = pr:=by unfold prAt; rw [List.getD_eq_getElem?_getD,hpr]; rfl
   obtain ⟨⟨i1,i2⟩,j1,j2⟩:=hIn pr (List.mem_of_getElem? hpr)
   obtain ⟨H3,e3,hp3,s3⟩:=newt (xs:=[V.int (i : Int),V.ref tp]) hp
   rw [← e3]
   have S3:=s2.trans s3
   have htp3:=S3 _ _ htp
   have hr3:=S3 _ _ hr1
   have ob3:=S3 _ _ h1
   have hN3:=hN.same S3
   have b0 : atI [T pr.wd,T pr.one,T pr.two] 0 = some (T pr.wd):=by simp [atI,ixN]
   have b1 : atI [T pr.wd,T pr.one,T pr.two] 1 = some (T pr.one):=by simp [atI,ixN]
   have b2 : atI [T pr.wd,T pr.one,T pr.two] 2 = some (T pr.two):=by simp [atI,ixN]
   have hil : pr.i < rows.length:=by have:=(List.getElem?_eq_some_iff.mp i1).1; rw [List.length_map] at this; omega
   have hjl : pr.j < rows.length:=by have:=(List.getElem?_eq_some_iff.mp j1).1; rw [List.length_map] at this; omega
   have ri : rows[pr.i]? = some (rows[pr.i]'hil):=List.getElem?_eq_getElem hil
   have rj : rows[pr.j]? = some (rows[pr.j]'hjl):=List.getElem?_eq_getElem hjl
   have gi : rows.getD pr.i [] = rows[pr.i]'hil:=by rw [List.getD_eq_getElem?_getD,ri]; rfl
   have gj : rows.getD pr.j [] = rows[pr.j]'hjl:=by rw [List.getD_eq_getElem?_getD,rj]; rfl
   have ai : atI (rows.map T) (pr.i : Int) = some (T (rows[pr.i]'hil)):=J05 (by rw [List.getElem?_map,ri]; rfl)
   have aj : atI (rows.map T) (pr.j : Int) = some (T (rows[pr.j]'hjl)):=J05 (by rw [List.getElem?_map,rj]; rfl)
   obtain ⟨di,li⟩:=hR.2 _ (List.mem_of_getElem? ri)
   obtain ⟨dj,lj⟩:=hR.2 _ (List.mem_of_getElem? rj)
   generalize rows[pr.i]'hil = rowi at ri gi ai di li
   generalize rows[pr.j]'hjl = rowj at rj gj aj dj lj
   have mi:=J5H hR.1 di
   have mj:=J5H hR.1 dj
   have li' : rowi.length ≤ 1000:=by omega
   have lj' : rowj.length ≤ 1000:=by omega
   have ek : paL prs rows d (i + 1) = paL prs rows d i ++ (if brkB pr.wd (mkA rowi d) (mkA rowj d) = true then [paV d prs i] else []):=by
    unfold paL
    rw [List.range_succ,List.filter_append,List.map_append]
    congr 1
    rw [List.filter_cons]
    have eb : paB rows d (prAt prs i) = brkB pr.wd (mkA rowi d) (mkA rowj d):=by unfold paB; rw [epr,gi,gj]
    rw [eb]
    split <;> rfl
   have eV : paV d prs i = [.int d,T Jbh,T pr.one,.int (i : Nat)]:=by unfold paV; rw [epr]
   have hxl : xs.length ≤ 8:=by
    have h1:=hA2.len
    have h2:=J8y prs rows d i
    omega
   walk_at "rd"
   intro H4 s4
   have hr4:=s4 _ _ hr3
   have htp4:=s4 _ _ htp3
   have ob4:=s4 _ _ ob3
   have hN4:=hN3.same s4
   walk_at "rd"
   intro H5 s5
   have hr5:=s5 _ _ hr4
   have htp5:=s5 _ _ htp4
   have hf5:=((s3.trans s4).trans s5) _ _ hf2
   have S35:=(s3.trans s4).trans s5
   have S5:=s2.trans S35
   walk_at "rd"
   refine ite2 (fun c=>?_) (fun c=>?_)
   ·walk_at "rd"
    intro t2 ft2
    obtain ⟨H6,e6,yt6,s6⟩:=newt (xs:=[.int d,T Jbh,T pr.one,.int (i : Nat)]) ft2
    have e6' : upd H5 t2 (.tup [.int d,T Jbh,T pr.one,.int (i : Nat)]) = H6:=e6.symm
    rw [e6']
    have hf6:=s6 _ _ hf5
    have kk : J01 H6 (upd H6 fl (.lst (xs ++ [.ref t2]))):=J0a hf6
    walk_at "rd"
    refine Here.mk ⟨_,_,_,_,xs ++ [.ref t2],rfl,Jd,?_,(S5.trans s6).upd nfl⟩
    rw [ek,if_pos c]
    exact All2.snoc (hA2.imp fun a y=>TpV.keeps a y _ _ ((S35.trans s6).keeps.trans kk)) ⟨t2,rfl,by rw [eV]; exact kk _ _ yt6 (fun zs z=>by cases z)⟩
   ·walk_at "rd"
    refine Here.mk ⟨_,_,_,_,xs,rfl,hf5,?_,S5⟩
    rw [ek,if_neg c,List.append_nil]
    exact hA2.imp fun a y=>TpV.keeps a y _ _ S35.keeps
  ·rintro σ H2 hv
   obtain ⟨v1,v2,v3,v4,xs,rfl,hf2,hA2,s2⟩:=hv.out
   rw [hul] at hA2
   walk_at "rd"
   exact q fl H2 xs s2 nfl hf2 hA2
theorem J9c (tx : Tx K mg Jk Jo Ji Jp Je Js J8 J4 J6 Jf Jc Ja Jm Jg Jb J5) : FnG P w K mg base "faults" 12 ["house","rota"] (Jbx P w K mg base J8 J4):=by
 have J3N:=J6m (P:=P) (w:=w) (base:=base) tx
 have J3M:=J6r (P:=P) (w:=w) (base:=base) tx
 have J47:=J76 (P:=P) (w:=w) (base:=base) tx
 have J4a:=J7j (P:=P) (w:=w) (base:=base) tx
 have J4b:=J70 (P:=P) (w:=w) (base:=base) tx
 have J48:=J7o (P:=P) (w:=w) (base:=base) tx
 refine tx.Jcf.g J1L (fun _ _ _ _ _ _ us hl=>match us,hl with | [_,_],_=>rfl) (fun vs H Q E h=>?_) (fun f cdv A outer s H vs Q E hr h=>?_)
 ·obtain ⟨h,r,dd,ks,nds,ps,ls,u5,u6,rows,rls,prs,rfl,_⟩:=h
  rfl
 ·obtain ⟨h,r,dd,ks,nds,ps,ls,u5,u6,rows,rls,prs,rfl,hq,hr1,hl,hp8,hk4,d0,d1,hrl,hpast,hRu,h6,hPr,hp2,hIn,q⟩:=h
  refine ⟨_,(J3 (Jr (i:=2) J1L.nd rfl (Or.inl rfl) (J0f J7))
   (J3 (J0I PassesOwn.never rfl (J0e rfl tx.J0n (J0 (Jz (K:=K) rfl (pv 0) rfl) J7)) (JD (i:=3) J1L.nd rfl (Or.inl rfl)) (J3 (J4k (i:=2) J1L.nd rfl (Or.inl rfl) (JQ J3N (hr.mono (by decide)) (J0 (pv 0) (J0 (pv 1) (J0 (pv 3) J7)))) J3y)
   (J3 (J4k (i:=2) J1L.nd rfl (Or.inl rfl) (JQ J3M (hr.mono (by decide)) (J0 (pv 0) (J0 (pv 1) (J0 (pv 3) J7)))) J3y)
   (J3 (J4k (i:=2) J1L.nd rfl (Or.inl rfl) (JQ J47 (hr.mono (by decide)) (J0 (pv 0) (J0 (pv 1) (J0 (pv 3) J7)))) J3y)
   (J3 (J4k (i:=2) J1L.nd rfl (Or.inl rfl) (JQ J4a (hr.mono (by decide)) (J0 (pv 0) (J0 (pv 1) (J0 (pv 3) J7)))) J3y)
   (J3 (J4k (i:=2) J1L.nd rfl (Or.inl rfl) (JQ J4b (hr.mono (by decide)) (J0 (pv 0) (J0 (pv 1) (J0 (pv 3) J7)))) J3y)
   (Jl (J4k (i:=2) J1L.nd rfl (Or.inl rfl) (JQ J48 (hr.mono (by decide)) (J0 (pv 0) (J0 (pv 1) (J0 (pv 3) J7)))) J3y))))))))
   (Jl (Jx (pv 2))))),?_⟩
  walk_at "st"
  clear J3N J3M J47 J4a J4b J48
  have cH:=tx.J00.cl
  have nH:=tx.J0N
  have hq0:=hq
  obtain ⟨a1,a2,a3,a4,a5,a6,xs',ys',zs',ws',⟨dx,h1⟩,_⟩:=hq0
  walk_at "rd"
  intro fl nfl
  have k1:=Jy nfl (.lst []) _ _ h1
  walk_at "rd"
  refine J14 (n:=dd.toNat) (fun i σ H2=>Here (∃ v1 xs,σ = [some (.ref h),some (.ref r),some (.ref fl),v1] ∧ H2 fl = some (.lst xs) ∧ All2 TpV H2 (allF ks nds ls rls prs ps rows i) xs ∧ Same H H2)) (Here.mk ⟨none,[],rfl,Jd,trivial,Jy nfl _⟩) ?_ ?_
  ·rintro i σ H2 hi hv
   obtain ⟨v1,x0,rfl,hf0,hA0,s0⟩:=hv.out
   have hR : ROk rows (0 + (i : Int)):=⟨by omega,fun r hr=>by have:=hrl r hr; omega⟩
   have hq0:=hq.same s0
   have hz0:=s0 _ _ hr1
   have l0 : x0.length ≤ 1400:=by
    have h1:=hA0.len
    have h2:=Jbg (nds:=nds) (ls:=ls) (rows:=rows) hp8 hk4 h6 hp2 i
    omega
   walk_at "rd"
   intro D1 G1 y1 t1 nD1 hD1 hB1
   have l1 : y1.length ≤ 8:=by rw [hB1.len]; exact (J5q _ _ _ hp8)
   have hf1':=t1 _ _ hf0
   have kk1 : J01 G1 (upd G1 fl (.lst (x0 ++ y1))):=J0a hf1'
   have hA1 : All2 TpV (upd G1 fl (.lst (x0 ++ y1))) (allF ks nds ls rls prs ps rows i ++ skF ps rows (0 + (i : Int))) (x0 ++ y1):=All2.app (hA0.imp fun a y=>TpV.keeps a y _ _ (t1.keeps.trans kk1)) (hB1.imp fun a y=>TpV.keeps a y _ _ kk1)
   have s1 : Same H (upd G1 fl (.lst (x0 ++ y1))):=(s0.trans t1).upd nfl
   have hf1 : (upd G1 fl (.lst (x0 ++ y1))) fl = some (.lst (x0 ++ y1)):=Jd
   have hq1:=hq.same s1
   have hz1:=s1 _ _ hr1
   walk_at "rd"
   clear hq0 hz0
   intro D2 G2 y2 t2 nD2 hD2 hB2
   have l2 : y2.length ≤ 8:=by rw [hB2.len]; exact (J5q _ _ _ hp8)
   have hf2':=t2 _ _ hf1
   have kk2 : J01 G2 (upd G2 fl (.lst (x0 ++ y1 ++ y2))):=J0a hf2'
   have hA2 : All2 TpV (upd G2 fl (.lst (x0 ++ y1 ++ y2))) (allF ks nds ls rls prs ps rows i ++ skF ps rows (0 + (i : Int)) ++ lvF ls ps rows (0 + (i : Int))) (x0 ++ y1 ++ y2):=All2.app (hA1.imp fun a y=>TpV.keeps a y _ _ (t2.keeps.trans kk2)) (hB2.imp fun a y=>TpV.keeps a y _ _ kk2)
   have s2 : Same H (upd G2 fl (.lst (x0 ++ y1 ++ y2))):=(s1.trans t2).upd nfl
   have hf2 : (upd G2 fl (.lst (x0 ++ y1 ++ y2))) fl = some (.lst (x0 ++ y1 ++ y2)):=Jd
   have hq2:=hq.same s2
   have hz2:=s2 _ _ hr1
   walk_at "rd"
   clear hq1 hz1
   intro D3 G3 y3 t3 nD3 hD3 hB3
   have l3 : y3.length ≤ 4:=by rw [hB3.len]; exact (Jdr hk4)
   have hf3':=t3 _ _ hf2
   have kk3 : J01 G3 (upd G3 fl (.lst (x0 ++ y1 ++ y2 ++ y3))):=J0a hf3'
   have hA3 : All2 TpV (upd G3 fl (.lst (x0 ++ y1 ++ y2 ++ y3))) (allF ks nds ls rls prs ps rows i ++ skF ps rows (0 + (i : Int)) ++ lvF ls ps rows (0 + (i : Int)) ++ neF ks nds rows (0 + (i : Int))) (x0 ++ y1 ++ y2 ++ y3):=All2.app (hA2.imp fun a y=>TpV.keeps a y _ _ (t3.keeps.trans kk3)) (hB3.imp fun a y=>TpV.keeps a y _ _ kk3)
   have s3 : Same H (upd G3 fl (.lst (x0 ++ y1 ++ y2 ++ y3))):=(s2.trans t3).upd nfl
   have hf3 : (upd G3 fl (.lst (x0 ++ y1 ++ y2 ++ y3))) fl = some (.lst (x0 ++ y1 ++ y2 ++ y3)):=Jd
   have hq3:=hq.same s3
   have hz3:=s3 _ _ hr1
   walk_at "rd"
   clear hq2 hz2
   intro D4 G4 y4 t4 nD4 hD4 hB4
   have l4 : y4.length ≤ 8:=by rw [hB4.len]; exact (J5q _ _ _ hp8)
   have hf4':=t4 _ _ hf3
   have kk4 : J01 G4 (upd G4 fl (.lst (x0 ++ y1 ++ y2 ++ y3 ++ y4))):=J0a hf4'
   have hA4 : All2 TpV (upd G4 fl (.lst (x0 ++ y1 ++ y2 ++ y3 ++ y4))) (allF ks nds ls rls prs ps rows i ++ skF ps rows (0 + (i : Int)) ++ lvF ls ps rows (0 + (i : Int)) ++ neF ks nds rows (0 + (i : Int)) ++ moF ps rows (0 + (i : Int))) (x0 ++ y1 ++ y2 ++ y3 ++ y4):=All2.app (hA3.imp fun a y=>TpV.keeps a y _ _ (t4.keeps.trans kk4)) (hB4.imp fun a y=>TpV.keeps a y _ _ kk4)
   have s4 : Same H (upd G4 fl (.lst (x0 ++ y1 ++ y2 ++ y3 ++ y4))):=(s3.trans t4).upd nfl
   have hf4 : (upd G4 fl (.lst (x0 ++ y1 ++ y2 ++ y3 ++ y4))) fl = some (.lst (x0 ++ y1 ++ y2 ++ y3 ++ y4)):=Jd
   have hq4:=hq.same s4
   have hRu4:=hRu.imp fun a y=>RuT.keeps a y _ _ s4.keeps
   have hz4:=s4 _ _ hr1
   walk_at "rd"
   clear hq3 hz3
   intro D5 G5 y5 t5 nD5 hD5 hB5
   have l5 : y5.length ≤ 64:=by rw [hB5.len]; exact Jbu h6 hp8
   have hf5':=t5 _ _ hf4
   have kk5 : J01 G5 (upd G5 fl (.lst (x0 ++ y1 ++ y2 ++ y3 ++ y4 ++ y5))):=J0a hf5'
   have hA5 : All2 TpV (upd G5 fl (.lst (x0 ++ y1 ++ y2 ++ y3 ++ y4 ++ y5))) (allF ks nds ls rls prs ps rows i ++ skF ps rows (0 + (i : Int)) ++ lvF ls ps rows (0 + (i : Int)) ++ neF ks nds rows (0 + (i : Int)) ++ moF ps rows (0 + (i : Int)) ++ ruF rls ps rows (0 + (i : Int))) (x0 ++ y1 ++ y2 ++ y3 ++ y4 ++ y5):=All2.app (hA4.imp fun a y=>TpV.keeps a y _ _ (t5.keeps.trans kk5)) (hB5.imp fun a y=>TpV.keeps a y _ _ kk5)
   have s5 : Same H (upd G5 fl (.lst (x0 ++ y1 ++ y2 ++ y3 ++ y4 ++ y5))):=(s4.trans t5).upd nfl
   have hf5 : (upd G5 fl (.lst (x0 ++ y1 ++ y2 ++ y3 ++ y4 ++ y5))) fl = some (.lst (x0 ++ y1 ++ y2 ++ y3 ++ y4 ++ y5)):=Jd
   have hq5:=hq.same s5
   have hPr5:=hPr.imp fun a y=>PrT.keeps a y _ _ s5.keeps
   have hz5:=s5 _ _ hr1
   walk_at "rd"
   clear hq4 hz4
   intro D6 G6 y6 t6 nD6 hD6 hB6
   have l6 : y6.length ≤ 8:=by rw [hB6.len]; exact Nat.le_trans (J8y _ _ _ _) hp2
   have hf6':=t6 _ _ hf5
   have kk6 : J01 G6 (upd G6 fl (.lst (x0 ++ y1 ++ y2 ++ y3 ++ y4 ++ y5 ++ y6))):=J0a hf6'
   have hA6 : All2 TpV (upd G6 fl (.lst (x0 ++ y1 ++ y2 ++ y3 ++ y4 ++ y5 ++ y6))) (allF ks nds ls rls prs ps rows i ++ skF ps rows (0 + (i : Int)) ++ lvF ls ps rows (0 + (i : Int)) ++ neF ks nds rows (0 + (i : Int)) ++ moF ps rows (0 + (i : Int)) ++ ruF rls ps rows (0 + (i : Int)) ++ paF prs rows (0 + (i : Int))) (x0 ++ y1 ++ y2 ++ y3 ++ y4 ++ y5 ++ y6):=All2.app (hA5.imp fun a y=>TpV.keeps a y _ _ (t6.keeps.trans kk6)) (hB6.imp fun a y=>TpV.keeps a y _ _ kk6)
   have s6 : Same H (upd G6 fl (.lst (x0 ++ y1 ++ y2 ++ y3 ++ y4 ++ y5 ++ y6))):=(s5.trans t6).upd nfl
   have hf6 : (upd G6 fl (.lst (x0 ++ y1 ++ y2 ++ y3 ++ y4 ++ y5 ++ y6))) fl = some (.lst (x0 ++ y1 ++ y2 ++ y3 ++ y4 ++ y5 ++ y6)):=Jd
   have hq6:=hq.same s6
   have hz6:=s6 _ _ hr1
   walk_at "rd"
   clear hq5 hz5
   refine Here.mk ⟨_,_,rfl,Jd,?_,s6⟩
   have e : allF ks nds ls rls prs ps rows (i + 1) = allF ks nds ls rls prs ps rows i ++ skF ps rows (0 + (i : Int)) ++ lvF ls ps rows (0 + (i : Int)) ++ neF ks nds rows (0 + (i : Int)) ++ moF ps rows (0 + (i : Int)) ++ ruF rls ps rows (0 + (i : Int)) ++ paF prs rows (0 + (i : Int)):=by
    rw [allF,dayF]
    simp only [List.append_assoc]
   rw [e]
   exact hA6
  ·rintro σ H2 hv
   obtain ⟨v1,x0,rfl,hf0,hA0,s0⟩:=hv.out
   walk_at "rd"
   exact q fl H2 x0 s0 nfl hf0 hA0
end
section
variable {P : Program} {w : World} {K : PySem.W.Frag} {mg : Str → Option Value} {base : Heap} {Jk Jo Ji Jp Je Js J8 J4 J6 Jf Jc Ja Jm Jg Jb J5 : Addr}
theorem J20 (tx : Tx K mg Jk Jo Ji Jp Je Js J8 J4 J6 Jf Jc Ja Jm Jg Jb J5) : FnG P w K mg base "_law_cell_at" 1 ["_law_script","_law_k"] (Jch K):=by
 refine tx.J77.g J5S (fun _ _ _ _ _ _ us hl=>match us,hl with | [_,_],_=>rfl) (fun vs H Q E h=>?_) (fun f cdv A outer s H vs Q E hr h=>?_)
 ·obtain ⟨a,ns,k,rfl,_⟩:=h
  rfl
 ·obtain ⟨a,ns,k,rfl,hS,h0,q⟩:=h
  refine ⟨_,(J3 (J03 (Jw J7M (pv 1) (JB (JS (K:=K) rfl) rfl tx.J0y PySem.boot_len (J0 (pv 0) J7)) (JA _)) (Jl (Jx (JF (JH (K:=K) rfl) (pv 0) (pv 1) (fun _ _=>rfl)))) JI)
   (Jl (Jx Jh))),?_⟩
  walk_at "st"
  walk_at "rd"
  refine ite2 (fun c=>?_) (fun c=>?_)
  ·have c' : k < ((ns.map V.int).length : Int):=of_decide_eq_true c
   rw [List.length_map] at c'
   have hv:=Jcz h0 c'
   walk_at "rd"
   exact q
  ·have c' : ¬ k < ((ns.map V.int).length : Int):=of_decide_eq_false (Bool.eq_false_iff.mpr c)
   rw [List.length_map] at c'
   walk_at "rd"
   rw [JcF (by omega)] at q
   exact q
theorem J2O (tx : Tx K mg Jk Jo Ji Jp Je Js J8 J4 J6 Jf Jc Ja Jm Jg Jb J5) : FnG P w K mg base "_law_stream" 1 ["_law_cell","_law_many"] Jai:=by
 refine tx.J8h.g J1Z (fun _ _ _ _ _ _ us hl=>match us,hl with | [_,_],_=>rfl) (fun vs H Q E h=>?_) (fun f cdv A outer s H vs Q E hr h=>?_)
 ·obtain ⟨c,m,rfl,_⟩:=h
  rfl
 ·obtain ⟨c,m,rfl,h0,h1,q⟩:=h
  refine ⟨_,(J3 (Jr (i:=2) J1Z.nd rfl (Or.inl rfl) (J0f J7))
   (J3 (Jr (i:=3) J1Z.nd rfl (Or.inl rfl) (Jq JU (Jq JK (pv 0) Jh) Jh))
   (J3 (J0I PassesOwn.never rfl (J0e rfl tx.J0n (J0 (Jq JU (pv 1) Jh) J7)) (JD (i:=4) J1Z.nd rfl (Or.inl rfl)) (J3 (Jr (i:=3) J1Z.nd rfl (Or.inl rfl) (Jq JK (Jq JU (Jq JU (Jq J32 (pv 3) (pv 3)) (Jq J32 Jh (pv 3))) (pv 4)) Jh))
   (Jl (J1W (J3H PySem.F.plainAttrs_list PySem.F.slot_list_append PySem.F.type_list_append J0L (pv 2) (J0 (pv 3) J7))))))
   (Jl (Jx (J0v (J9J (K:=K) rfl) (pv 2) (J0Q Jh) J18)))))),?_⟩
  walk_at "st"
  have b0 : 0 ≤ c % 2147483647:=Int.emod_nonneg _ (by decide)
  have b1 : c % 2147483647 < 2147483647:=Int.emod_lt_of_pos _ (by decide)
  walk_at "rd"
  intro p hp
  walk_at "rd"
  refine J14 (n:=(m + 1).toNat) (fun i σ H2=>Here (∃ (n : Int) (v : Option V) (ys : List Int),σ = [some (.int c),some (.int m),some (.ref p),some (.int n),v] ∧ 0 ≤ n ∧ n < 2147600000 ∧ ys.length = i ∧ H2 p = some (.lst (ys.map V.int)) ∧ Same H H2))
   (Here.mk ⟨_,none,[],rfl,by omega,by omega,rfl,Jd,Jy hp _⟩) ?_ ?_
  ·rintro i σ H2 hi hv
   obtain ⟨n,v,ys,rfl,hn0,hn1,hy,hpp,hs⟩:=hv.out
   have z0 : 0 ≤ (n * n + 48271 * n + (0 + (i : Int))) % 2147483647:=Int.emod_nonneg _ (by decide)
   have z1 : (n * n + 48271 * n + (0 + (i : Int))) % 2147483647 < 2147483647:=Int.emod_lt_of_pos _ (by decide)
   have hl : (ys.map V.int).length ≤ 1000:=by rw [List.length_map]; omega
   walk_at "rd"
   refine Here.mk ⟨_,_,ys ++ [(n * n + 48271 * n + (0 + (i : Int))) % 2147483647],rfl,z0,by omega,?_,?_,hs.upd hp⟩
   ·rw [List.length_append,List.length_singleton,hy]
   ·rw [Jd,List.map_append]
    rfl
  ·rintro σ H2 hv
   obtain ⟨n,v,ys,rfl,hn0,hn1,hy,hpp,hs⟩:=hv.out
   walk_at "rd"
   intro r hr'
   refine q r _ (ys.drop 1) (hs.trans (Jy hr' _)) (hs.free hr') ?_ ?_
   ·rw [Jd]
    have e : cutV (ys.map V.int) (some 1) none = (ys.drop 1).map V.int:=by
     rw [List.map_drop]
     exact J4J (ys.map V.int) 1 (by decide)
    rw [e]
   ·rw [List.length_drop,hy]
    omega
theorem J9h (tx : Tx K mg Jk Jo Ji Jp Je Js J8 J4 J6 Jf Jc Ja Jm Jg Jb J5) : FnG P w K mg base "_law_kinds" 1 ["_law_cell"] Jcc:=by
 refine tx.J9b.g J3r (fun _ _ _ _ _ _ us hl=>match us,hl with | [_],_=>rfl) (fun vs H Q E h=>?_) (fun f cdv A outer s H vs Q E hr h=>?_)
 ·obtain ⟨c,rfl,_⟩:=h
  rfl
 ·obtain ⟨c,rfl,q⟩:=h
  refine ⟨_,(J3 (Jr (i:=1) J3r.nd rfl (Or.inr rfl) (JE (l:=[65,66,67,68,69,70,71,72,73,74,75,76,77,78,79,80,81,82,83,84,85,86,87,88,89,90]) (by decide +kernel)))
   (J3 (Jr (i:=2) J3r.nd rfl (Or.inl rfl) (Jq JU Jh (Jq JK (pv 0) Jh)))
   (Jl (Jx (J6W (K:=K) rfl (JE (l:=[]) (by decide +kernel)) (J0 (J0W (osc:=J9 J1x) (ON:=["_law_cell","_law_some","_law_many"]) (N:=["_law_k","_law_some","_law_cell"]) (js:=[none,some 1,some 0]) ⟨rfl,by decide +kernel,by decide +kernel,by decide +kernel,rfl,by decide +kernel⟩ rfl rfl rfl (J0e rfl tx.J0n (J0 (pv 2) J7)) (fun _ _ _ _ _=>JD (i:=0) (show List.Nodup (["_law_k","_law_some","_law_cell"] : List Str) from by decide +kernel) rfl (Or.inl rfl)) (fun _ _ _ _ _=>J3P) (fun _ _ _ _ _=>(JF J0x (pv 1) (Jq JK (Jq JU (Jq JW (pv 2) Jh) (Jq J32 (pv 0) (Jq JU Jh (Jq JK (Jq JW (pv 2) Jh) Jh)))) Jh) (fun _ _=>rfl)))) J7)))))),?_⟩
  walk_at "st"
  have h0 : 0 ≤ c % 4:=Int.emod_nonneg _ (by decide)
  have h1 : c % 4 < 4:=Int.emod_lt_of_pos _ (by decide)
  walk_at "rd"
  refine J6C (onI fun i=>cap ((c / 4 + i * (1 + c / 104 % 6)) % 26)) (J3d 0 (1 + c % 4).toNat) ?_ (fun x hx H' s' R hR=>?_) (fun D H2 hD s2 hDD=>?_)
  ·rw [List.length_map,List.length_range]; omega
  ·obtain ⟨k,hk,rfl⟩:=List.mem_map.mp hx
   have hk:=List.mem_range.mp hk
   have ha:=Jfk ((c / 4 + (0 + (k : Int)) * (1 + c / 104 % 6)) % 26) (Int.emod_nonneg _ (by decide)) (Int.emod_lt_of_pos _ (by decide))
   walk_at "rd"
   exact hR H' (Same.refl _)
  rw [J9D _ (fun i=>cap ((c / 4 + i * (1 + c / 104 % 6)) % 26))] at hDD
  refine ⟨[],_,D,rfl,rfl,SqL.of hDD,?_,?_⟩
  ·rw [J4S,List.length_map,List.length_nil,Nat.mul_zero,List.length_range]
   omega
  rw [J43,J41]
  exact q H2 s2
theorem J9T (tx : Tx K mg Jk Jo Ji Jp Je Js J8 J4 J6 Jf Jc Ja Jm Jg Jb J5) : FnG P w K mg base "_law_name" 1 ["_law_cell","_law_p"] Jdz:=by
 refine tx.Ja2.g J2F (fun _ _ _ _ _ _ us hl=>match us,hl with | [_,_],_=>rfl) (fun vs H Q E h=>?_) (fun f cdv A outer s H vs Q E hr h=>?_)
 ·obtain ⟨c,p,rfl,_⟩:=h
  rfl
 ·obtain ⟨c,p,rfl,q⟩:=h
  refine ⟨_,(J3 (Jr (i:=2) J2F.nd rfl (Or.inr rfl) (JE (l:=[97,98,99,100,101,102,103,104,105,106,107,108,109,110,111,112,113,114,115,116,117,118,119,120,121,122]) (by decide +kernel)))
   (J3 (Jr (i:=3) J2F.nd rfl (Or.inl rfl) (J6W (K:=K) rfl (JE (l:=[]) (by decide +kernel)) (J0 (J0W (osc:=J9 J24) (ON:=["_law_cell","_law_p","_law_some","_law_body","_law_at","_law_name_here"]) (N:=["_law_k","_law_some","_law_cell"]) (js:=[none,some 2,some 0]) ⟨rfl,by decide +kernel,by decide +kernel,by decide +kernel,rfl,by decide +kernel⟩ rfl rfl rfl (J0e rfl tx.J0n (J0 (Jq JK (Jq JW (pv 0) Jh) Jh) J7)) (fun _ _ _ _ _=>JD (i:=0) (show List.Nodup (["_law_k","_law_some","_law_cell"] : List Str) from by decide +kernel) rfl (Or.inl rfl)) (fun _ _ _ _ _=>J3P) (fun _ _ _ _ _=>(JF J0x (pv 1) (Jq JK (Jq JW (pv 2) (Jq JU Jh (Jq J32 Jh (pv 0)))) Jh) (fun _ _=>rfl)))) J7)))
   (J3 (Jr (i:=4) J2F.nd rfl (Or.inl rfl) (Jq JK (Jq JW (pv 0) Jh) (Jq JU (JB J0p rfl tx.J0y PySem.boot_len (J0 (pv 3) J7)) Jh)))
   (J3 (Jr (i:=5) J2F.nd rfl (Or.inl rfl) (Jq J0c (Jq J0c (J0v J2m (pv 3) J18 (J0Q (pv 4))) (JF J0x (pv 2) (Jq JK (Jq JU (pv 0) (pv 1)) Jh) (fun _ _=>rfl))) (J0v J2m (pv 3) (J0Q (pv 4)) J18)))
   (J3 (J03 (Jw J0j (pv 5) (JE (l:=[97,108,108]) (by decide +kernel)) (JA _)) (Jl (Jx (JE (l:=[97,108,108,101]) (by decide +kernel)))) JI)
   (Jl (Jx (pv 5)))))))),?_⟩
  walk_at "st"
  have h0 : 0 ≤ c / 3 % 8:=Int.emod_nonneg _ (by decide)
  have h1 : c / 3 % 8 < 8:=Int.emod_lt_of_pos _ (by decide)
  walk_at "rd"
  refine J6C (onI fun i=>ltr (c / (16 + 5 * i) % 26)) (J3d 0 (c / 3 % 8).toNat) ?_ (fun x hx H' s' R hR=>?_) (fun D H2 hD s2 hDD=>?_)
  ·rw [List.length_map,List.length_range]; omega
  ·obtain ⟨k,hk,rfl⟩:=List.mem_map.mp hx
   have hk:=List.mem_range.mp hk
   have ha:=JcE (c / (16 + 5 * (0 + (k : Int))) % 26) (Int.emod_nonneg _ (by decide)) (Int.emod_lt_of_pos _ (by decide))
   walk_at "rd"
   exact hR H' (Same.refl _)
  rw [J9D _ (fun i=>ltr (c / (16 + 5 * i) % 26))] at hDD
  refine ⟨[],_,D,rfl,rfl,SqL.of hDD,?_,?_⟩
  ·rw [J4S,List.length_map,List.length_nil,Nat.mul_zero,List.length_range]
   omega
  rw [J43,J41]
  have hb:=J7C c
  have c1:=J17 (J2M c) none (some (c / 7 % ((J2M c).length + 1)))
  have c2:=J17 (J2M c) (some (c / 7 % ((J2M c).length + 1))) none
  have ha:=JcE ((c + p) % 26) (Int.emod_nonneg _ (by decide)) (Int.emod_lt_of_pos _ (by decide))
  have q':=q H2 s2
  clear q h0 h1 hD hDD s2
  show J3n _ (T (J2M c)) _ _ _
  unfold J2p at q'
  unfold J1u at q'
  generalize J2M c = b at hb c1 c2 q' ⊢
  walk_at "rd"
  refine ite2 (fun e=>?_) (fun e=>?_)
  ·have e':=J2N (of_decide_eq_true e)
   rw [if_pos e'] at q'
   walk_at "rd"
   exact q'
  ·have e' : ¬ cutN b none (some (c / 7 % ((b.length : Int) + 1))) ++ [ltr ((c + p) % 26)] ++ cutN b (some (c / 7 % ((b.length : Int) + 1))) none = [97,108,108]:=fun z=>e (decide_eq_true (by rw [z]))
   rw [if_neg e'] at q'
   walk_at "rd"
   exact q'
end
noncomputable def inKs (ks row : List Nat) : Prop:=∀ x ∈ row,x = 45 ∨ x ∈ ks
noncomputable def Jak (K : PySem.W.Frag) : Sp:=fun vs H Q _=>∃ (a : Addr) (ns : List Int) (m d : Int) (ks : List Nat),vs = [.ref a,.int m,.int d,T ks] ∧ SqL K H a (ns.map V.int) ∧ 1 ≤ m ∧ m ≤ 6 ∧ 1 ≤ d ∧ d ≤ 10 ∧ 1 ≤ ks.length ∧ ks.length ≤ 4 ∧
 ∀ (r : Addr) (H' : Hp) (rows : List (List Nat)),Same H H' → H r = none → H' r = some (.lst (rows.map T)) → (rows.length : Int) = m → (∀ row ∈ rows,(row.length : Int) = d ∧ inKs ks row) → Q (.ref r) H'
noncomputable def Jeu : Sp:=fun vs H Q _=>∃ (r : Addr) (d : Int) (ks : List Nat) (c : Int) (sl : Addr) (rows : List (List Nat)),vs = [.ref r,.int d,T ks,.int c,.ref sl] ∧ H r = some (.lst (rows.map T)) ∧ H sl = some (.lst ((List.range d.toNat).map fun (i : Nat)=>V.int (i : Int))) ∧ 1 ≤ d ∧ d ≤ 10 ∧ ks.length ≤ 4 ∧ rows.length ≤ 6 ∧ (∀ row ∈ rows,(row.length : Int) = d) ∧
 ∀ (a : Addr) (H' : Hp) (nds : List Nd) (xs : List V),Same H H' → H a = none → H' a = some (.lst xs) → All2 NdAt H' nds xs → xs.length ≤ 40 → Q (.ref a) H'
section
variable {P : Program} {w : World} {K : PySem.W.Frag} {mg : Str → Option Value} {base : Heap} {Jk Jo Ji Jp Je Js J8 J4 J6 Jf Jc Ja Jm Jg Jb J5 : Addr}
theorem J7m (tx : Tx K mg Jk Jo Ji Jp Je Js J8 J4 J6 Jf Jc Ja Jm Jg Jb J5) : FnG P w K mg base "_law_planted" 2 ["_law_script","_law_many","_law_days","_law_kinds_here"] (Jak K):=by
 have J0w:=J2O (P:=P) (w:=w) (base:=base) tx
 have JC:=J20 (P:=P) (w:=w) (base:=base) tx
 refine tx.J7c.g J07 (fun _ _ _ _ _ _ us hl=>match us,hl with | [_,_,_,_],_=>rfl) (fun vs H Q E h=>?_) (fun f cdv A outer s H vs Q E hr h=>?_)
 ·obtain ⟨a,ns,m,d,ks,rfl,_⟩:=h
  rfl
 ·obtain ⟨a,ns,m,d,ks,rfl,hS,m0,m1,d0,d1,l0,l1,q⟩:=h
  refine ⟨_,(J3 (Jr (i:=4) J07.nd rfl (Or.inl rfl) (Jq J0c (JE (l:=[45]) (by decide +kernel)) (pv 3)))
   (J3 (Jr (i:=5) J07.nd rfl (Or.inl rfl) (JQ J0w (hr.mono (by decide)) (J0 (JQ JC (hr.mono (by decide)) (J0 (pv 0) (J0 Jh J7))) (J0 (Jq J32 (pv 1) (pv 2)) J7))))
   (J3 (Jr (i:=6) J07.nd rfl (Or.inl rfl) (J0f J7))
   (J3 (J0I PassesOwn.never rfl (J0e rfl tx.J0n (J0 (pv 1) J7)) (JD (i:=7) J07.nd rfl (Or.inl rfl)) (J3 (Jr (i:=8) J07.nd rfl (Or.inl rfl) (JE (l:=[]) (by decide +kernel)))
   (J3 (J0I PassesOwn.never rfl (J0e rfl tx.J0n (J0 (pv 2) J7)) (JD (i:=9) J07.nd rfl (Or.inl rfl)) (J3 (Jr (i:=10) J07.nd rfl (Or.inl rfl) (Jq JU (JF (JH (K:=K) rfl) (pv 5) (Jq JU (Jq J32 (pv 7) (pv 2)) (pv 9)) (fun _ _=>rfl)) (JQ JC (hr.mono (by decide)) (J0 (pv 0) (J0 (Jq JU (Jq JU Jh (Jq J32 (pv 7) (pv 2))) (pv 9)) J7)))))
   (Jl (Jr (i:=8) J07.nd rfl (Or.inl rfl) (Jq J0c (pv 8) (JF J0x (pv 4) (Jq JK (pv 10) (JB J0p rfl tx.J0y PySem.boot_len (J0 (pv 4) J7))) (fun _ _=>rfl)))))))
   (Jl (J1W (J3H PySem.F.plainAttrs_list PySem.F.slot_list_append PySem.F.type_list_append J0L (pv 6) (J0 (pv 8) J7)))))))
   (Jl (Jx (pv 6))))))),?_⟩
  walk_at "st"
  have md0 : 0 ≤ m * d:=Int.mul_nonneg (by omega) (by omega)
  have md1 : m * d ≤ 60:=by
   have:=Int.mul_le_mul m1 d1 (by omega) (by decide)
   omega
  walk_at "rd"
  intro nl H1 xs s1 nnl hn hxs
  walk_at "rd"
  intro rl hrl
  obtain ⟨H2,e2,hrl2,s2⟩:=newl (xs:=[]) hrl
  rw [← e2]
  clear e2
  have fr : H rl = none:=s1.free hrl
  have hn2:=s2 _ _ hn
  have nnr : nl ≠ rl:=Jj hn hrl
  walk_at "rd"
  refine J14 (n:=m.toNat) (fun i σ H3=>Here (∃ (v1 v2 v3 v4 : Option V) (rows : List (List Nat)),σ = [some (.ref a),some (.int m),some (.int d),some (T ks),some (T ([45] ++ ks)),some (.ref nl),some (.ref rl),v1,v2,v3,v4] ∧ rows.length = i ∧ (∀ row ∈ rows,(row.length : Int) = d ∧ inKs ks row) ∧ H3 rl = some (.lst (rows.map T)) ∧ H3 nl = some (.lst (xs.map V.int)) ∧ Same H H3))
   (Here.mk ⟨none,none,none,none,[],rfl,rfl,fun r hr=>absurd hr List.not_mem_nil,hrl2,hn2,s1.trans s2⟩) ?_ ?_
  ·rintro i σ H3 hi hv
   obtain ⟨v1,v2,v3,v4,rows,rfl,hl,hrows,h3r,h3n,s3⟩:=hv.out
   have hS3:=s3.seq hS
   have hlen : (rows.map T).length ≤ 100:=by rw [List.length_map]; omega
   walk_at "rd"
   refine J14 (n:=d.toNat) (fun j σ H4=>Here (∃ (v3 v4 : Option V) (row : List Nat),σ = [some (.ref a),some (.int m),some (.int d),some (T ks),some (T ([45] ++ ks)),some (.ref nl),some (.ref rl),some (.int (0 + (i : Int))),some (T row),v3,v4] ∧ row.length = j ∧ inKs ks row ∧ H4 = H3))
    (Here.mk ⟨_,_,[],rfl,rfl,fun x hx=>absurd hx List.not_mem_nil,rfl⟩) ?_ ?_
   ·rintro j σ H4 hj hv
    obtain ⟨v3,v4,row,rfl,hrl4,hin,eH⟩:=hv.out
    rw [eH]
    have hm2 : ((i : Int) + 1) * d ≤ m * d:=Int.mul_le_mul_of_nonneg_right (by omega) (by omega)
    rw [Int.add_mul,Int.one_mul] at hm2
    have hid : 0 ≤ (i : Int) * d:=Int.mul_nonneg (by omega) (by omega)
    have hid' : (0 + (i : Int)) * d = (i : Int) * d:=by rw [Int.zero_add]
    obtain ⟨z,hz,_⟩:=J4l xs ((0 + (i : Int)) * d + (0 + (j : Int))) (by rw [hid']; omega) (by rw [hid']; omega)
    have c0 : 0 ≤ 28 + (0 + (i : Int)) * d + (0 + (j : Int)):=by rw [hid']; omega
    have lk : ([45] ++ ks).length = ks.length + 1:=by rw [List.length_append]; simp; omega
    generalize hnum : z + J15 ns (28 + (0 + (i : Int)) * d + (0 + (j : Int))) = nu
    obtain ⟨y,hy,hy2⟩:=J2P ([45] ++ ks) (nu % (([45] ++ ks).length : Int)) (Int.emod_nonneg _ (by rw [lk]; omega)) (Int.emod_lt_of_pos _ (by rw [lk]; omega))
    have lp : (0 : Int) < (([45] ++ ks).length : Int):=by rw [lk]; omega
    rw [← hnum] at hy
    walk_at "rd"
    refine Here.mk ⟨_,_,row ++ [y],rfl,by rw [List.length_append,List.length_singleton,hrl4],fun x hx=>?_,rfl⟩
    rcases List.mem_append.mp hx with hx | hx
    ·exact hin x hx
    ·rw [List.mem_singleton.mp hx]
     have:=List.mem_of_getElem? hy2
     rcases List.mem_append.mp this with w | w
     ·exact .inl (List.mem_singleton.mp w)
     ·exact .inr w
   ·rintro σ H4 hv
    obtain ⟨v3,v4,row,rfl,hrl4,hin,eH⟩:=hv.out
    rw [eH]
    walk_at "rd"
    refine Here.mk ⟨_,_,_,_,rows ++ [row],rfl,by rw [List.length_append,List.length_singleton,hl],fun r hr=>?_,by rw [Jd,List.map_append]; rfl,by rw [Jn nnr]; exact h3n,s3.upd fr⟩
    rcases List.mem_append.mp hr with hr | hr
    ·exact hrows r hr
    ·rw [List.mem_singleton.mp hr]
     exact ⟨by omega,hin⟩
  ·rintro σ H3 hv
   obtain ⟨v1,v2,v3,v4,rows,rfl,hl,hrows,h3r,h3n,s3⟩:=hv.out
   walk_at "rd"
   exact q rl H3 rows s3 fr h3r (by omega) hrows
theorem J4v (tx : Tx K mg Jk Jo Ji Jp Je Js J8 J4 J6 Jf Jc Ja Jm Jg Jb J5) : FnG P w K mg base "_law_needs_about" 2 ["_law_rota","_law_days","_law_kinds_here","_law_cell","_law_slack"] Jeu:=by
 have J0w:=J2O (P:=P) (w:=w) (base:=base) tx
 refine tx.J4C.g JL (fun _ _ _ _ _ _ us hl=>match us,hl with | [_,_,_,_,_],_=>rfl) (fun vs H Q E h=>?_) (fun f cdv A outer s H vs Q E hr h=>?_)
 ·obtain ⟨r,d,ks,c,sl,rows,rfl,_⟩:=h
  rfl
 ·obtain ⟨r,d,ks,c,sl,rows,rfl,hr1,hsl,d0,d1,hk4,hr6,hrl,q⟩:=h
  refine ⟨_,(J3 (Jr (i:=5) JL.nd rfl (Or.inl rfl) (JQ J0w (hr.mono (by decide)) (J0 (pv 3) (J0 (Jq J32 (pv 1) (JB J0p rfl tx.J0y PySem.boot_len (J0 (pv 2) J7))) J7))))
   (J3 (Jr (i:=6) JL.nd rfl (Or.inl rfl) (J0f J7))
   (J3 (J0I PassesOwn.never rfl (J0e rfl tx.J0n (J0 (pv 1) J7)) (JD (i:=7) JL.nd rfl (Or.inr rfl)) (Jl (J0I PassesOwn.never rfl (J0e rfl tx.J0n (J0 (JB J0p rfl tx.J0y PySem.boot_len (J0 (pv 2) J7)) J7)) (JD (i:=8) JL.nd rfl (Or.inr rfl)) (J3 (Jr (i:=9) JL.nd rfl (Or.inl rfl) (JB (JS (K:=K) rfl) rfl tx.J0y PySem.boot_len (J0 (J0W (osc:=J9 J08) (ON:=["_law_rota","_law_days","_law_kinds_here","_law_cell","_law_slack","_law_numbers","_law_found","_law_day","_law_k","_law_many","_law_number","_law_least","_law_most"]) (N:=["_law_row","_law_day","_law_kinds_here","_law_k"]) (js:=[none,some 7,some 2,some 8]) ⟨rfl,by decide +kernel,by decide +kernel,by decide +kernel,rfl,by decide +kernel⟩ rfl rfl rfl (J2o (K:=K) rfl (pv 0)) (fun _ _ _ _ _=>JD (i:=0) (show List.Nodup (["_law_row","_law_day","_law_kinds_here","_law_k"] : List Str) from by decide +kernel) rfl (Or.inl rfl)) (fun _ _ _ _ _=>J1E (Jw J0j (JF J0x (pv 0) (pv 1) (fun _ _=>rfl)) (JF J0x (pv 2) (pv 3) (fun _ _=>rfl)) (JA _))) (fun _ _ _ _ _=>(pv 0))) J7)))
   (J3 (Jr (i:=10) JL.nd rfl (Or.inl rfl) (JF (JH (K:=K) rfl) (pv 5) (Jq JU (Jq J32 (pv 7) (JB J0p rfl tx.J0y PySem.boot_len (J0 (pv 2) J7))) (pv 8)) (fun _ _=>rfl)))
   (J3 (Jr (i:=11) JL.nd rfl (Or.inl rfl) (pv 9))
   (J3 (Jr (i:=12) JL.nd rfl (Or.inl rfl) (pv 9))
   (J3 (J26 (J03 (PW.pt (J3h (Jw (J8D (K:=K) rfl) (pv 7) (pv 4) rfl) (J3h (Jw J0j (Jq JK (pv 10) Jh) Jh (JA _)) (J3f (Jw J7E (pv 9) Jh (JA _)))))) (Jl (Jr (i:=11) JL.nd rfl (Or.inl rfl) (Jq JaN (pv 9) Jh))) JI))
   (J3 (J26 (J03 (PW.pt (J3h (Jw (J8D (K:=K) rfl) (pv 7) (pv 4) rfl) (J3f (Jw J0j (Jq JK (Jq JW (pv 10) Jh) Jh) Jh (JA _))))) (Jl (Jr (i:=12) JL.nd rfl (Or.inl rfl) (Jq JU (pv 9) Jh))) JI))
   (Jl (J26 (J03 (PW.pt (J6M (Jw J7E (pv 12) Jh (JA _)) (J4m (Jw J0j (Jq JK (Jq JW (pv 10) Jh) Jh) Jh (JA _))))) (Jl (J1W (J3H PySem.F.plainAttrs_list PySem.F.slot_list_append PySem.F.type_list_append J0L (pv 6) (J0 (J02 (J0 (pv 7) (J0 (JF J0x (pv 2) (pv 8) (fun _ _=>rfl)) (J0 (pv 11) (J0 (pv 12) J7))))) J7)))) JI))))))))))))
   (Jl (Jx (pv 6)))))),?_⟩
  walk_at "st"
  have kl0 : (0 : Int) ≤ (ks.length : Int):=by omega
  have md0 : 0 ≤ d * (ks.length : Int):=Int.mul_nonneg (by omega) kl0
  have md1 : d * (ks.length : Int) ≤ 40:=by
   have:=Int.mul_le_mul d1 (show (ks.length : Int) ≤ 4 by omega) kl0 (by decide)
   omega
  walk_at "rd"
  intro nl H1 ns s1 nnl hnl hns
  walk_at "rd"
  intro fl nfl
  obtain ⟨H2,e2,hfl,s2⟩:=newl (xs:=[]) nfl
  rw [← e2]
  clear e2
  have fr : H fl = none:=s1.free nfl
  have nne : nl ≠ fl:=Jj hnl nfl
  walk_at "rd"
  refine J14 (n:=d.toNat) (fun i σ H3=>Here (∃ v1 v2 v3 v4 v5 v6 nds xs,σ = [some (.ref r),some (.int d),some (T ks),some (.int c),some (.ref sl),some (.ref nl),some (.ref fl),v1,v2,v3,v4,v5,v6] ∧ H3 fl = some (.lst xs) ∧ All2 NdAt H3 nds xs ∧ xs.length ≤ 4 * i ∧ H3 nl = some (.lst (ns.map V.int)) ∧ Same H H3))
   (Here.mk ⟨none,none,none,none,none,none,[],[],rfl,hfl,trivial,Nat.zero_le _,s2 _ _ hnl,s1.trans s2⟩) ?_ ?_
  ·rintro i σ H3 hi hv
   obtain ⟨v1,v2,v3,v4,v5,v6,nds,xs,rfl,hf3,hA3,hx3,hn3,s3⟩:=hv.out
   walk_at "rd"
   refine J14 (n:=ks.length) (fun j σ H4=>Here (∃ v2 v3 v4 v5 v6 nds xs,σ = [some (.ref r),some (.int d),some (T ks),some (.int c),some (.ref sl),some (.ref nl),some (.ref fl),some (.int (0 + (i : Int))),v2,v3,v4,v5,v6] ∧ H4 fl = some (.lst xs) ∧ All2 NdAt H4 nds xs ∧ xs.length ≤ 4 * i + j ∧ H4 nl = some (.lst (ns.map V.int)) ∧ Same H H4))
    (Here.mk ⟨_,_,_,_,_,nds,xs,rfl,hf3,hA3,by omega,hn3,s3⟩) ?_ ?_
   ·rintro j σ H4 hj hv
    obtain ⟨v2,v3,v4,v5,v6,nds,xs,rfl,hf4,hA4,hx4,hn4,s4⟩:=hv.out
    have hkj : ks[j]? = some ks[j]:=List.getElem?_eq_getElem hj
    generalize ks[j] = k at hkj
    have ak : atI ks (0 + (j : Int)) = some k:=by rw [Int.zero_add]; exact J05 hkj
    have hr4:=s4 _ _ hr1
    have hsl4:=s4 _ _ hsl
    have hm2 : ((i : Int) + 1) * (ks.length : Int) ≤ d * (ks.length : Int):=Int.mul_le_mul_of_nonneg_right (by omega) kl0
    rw [Int.add_mul,Int.one_mul] at hm2
    have hid : 0 ≤ (i : Int) * (ks.length : Int):=Int.mul_nonneg (by omega) kl0
    obtain ⟨z,hz,_⟩:=J4l ns ((0 + (i : Int)) * (ks.length : Int) + (0 + (j : Int))) (by rw [Int.zero_add]; omega) (by rw [Int.zero_add]; omega)
    walk_at "rd"
    refine J31 rows (fun r=>decide (mkA r (i : Int) = k)) (fun _ _ _=>True) (fun σ=>∃ v,σ = [v,some (.int (0 + (i : Int))),some (T ks),some (.int (0 + (j : Int)))]) (J30 (SqL.of hr4)) (by rw [List.length_map]) (by omega) ⟨_,rfl⟩ (fun _ _ _ _ _ z=>z) (fun l row v σ H' hl hv hσ s' Rf Rt hF hR'=>?_) (fun D H5 ys hD s5 hys hDD=>?_)
    ·obtain ⟨w1,rfl⟩:=hσ
     rw [List.getElem?_map,hl] at hv
     cases hv
     have hrw:=hrl row (List.mem_of_getElem? hl)
     have e:=J5H (row:=row) (d:=0 + (i : Int)) (by omega) (by omega)
     have rl10 : row.length ≤ 10:=by omega
     walk_at "rd"
     have ei : mkA row (0 + (i : Int)) = mkA row (i : Int):=by rw [Int.zero_add]
     rw [ei]
     refine ite2 (fun c=>?_) (fun c=>?_)
     ·have c' : mkA row (i : Int) = k:=by simpa using J2N (of_decide_eq_true c)
      walk_at "rd"
      exact hR' _ _ _ (decide_eq_true c') ⟨_,rfl⟩ (Same.refl _) trivial
     ·exact hF _ _ (decide_eq_false fun z=>c (decide_eq_true (by rw [z]))) ⟨_,rfl⟩ (Same.refl _)
    have hyl : ys.length = cntF rows (i : Int) k:=hys.len
    have hf5:=s5 _ _ hf4
    have hn5:=s5 _ _ hn4
    have hsl5:=s5 _ _ hsl4
    have s05:=s4.trans s5
    have hA5:=hA4.imp fun a y=>NdAt.keeps a y _ _ s5.keeps
    have hin : inV (.int (0 + (i : Int))) ((List.range d.toNat).map fun (i : Nat)=>V.int (i : Int)) = true:=by
     unfold inV
     refine List.any_eq_true.mpr ⟨.int (i : Int),List.mem_map.mpr ⟨i,List.mem_range.mpr hi,rfl⟩,?_⟩
     rw [Int.zero_add]
     exact beq_self_eq_true _
    have fl1 : J09 (.int (0 + (i : Int))) = true:=rfl
    have fl2 : ((List.range d.toNat).map fun (i : Nat)=>V.int (i : Int)).all J09 = true:=List.all_eq_true.mpr fun x hx=>by
     obtain ⟨n,_,rfl⟩:=List.mem_map.mp hx
     rfl
    have hI : SqL K H5 sl ((List.range d.toNat).map fun (i : Nat)=>V.int (i : Int)) ∨ SqT K H5 sl ((List.range d.toNat).map fun (i : Nat)=>V.int (i : Int)):=.inl (SqL.of hsl5)
    walk_at "rd"
    rw [hyl]
    generalize hcn : cntF rows (i : Int) k = cn
    clear hys hDD hD hyl
    refine tCut.mk (fun σ' H'=>Here (∃ l,σ' = [some (.ref r),some (.int d),some (T ks),some (.int c),some (.ref sl),some (.ref nl),some (.ref fl),some (.int (0 + (i : Int))),some (.int (0 + (j : Int))),some (.int (cn : Int)),some (.int z),some (.int l),some (.int (cn : Int))] ∧ l ≤ (cn : Int) ∧ H' = H5)) ?_ ?_
    ·walk_at "rd"
     rw [hin]
     walk_at "rd"
     refine ite2 (fun _=>?_) (fun _=>?_)
     ·walk_at "rd"
      refine ite2 (fun _=>?_) (fun _=>?_)
      ·walk_at "rd"
       exact Here.mk ⟨_,rfl,by omega,rfl⟩
      ·exact Here.mk ⟨_,rfl,by omega,rfl⟩
     ·walk_at "rd"
      exact Here.mk ⟨_,rfl,by omega,rfl⟩
    rintro σ' H' hv
    obtain ⟨l,rfl,hlc,eH⟩:=hv.out
    rw [eH]
    clear hv eH
    refine tCut.mk (fun σ' H'=>Here (∃ m,σ' = [some (.ref r),some (.int d),some (T ks),some (.int c),some (.ref sl),some (.ref nl),some (.ref fl),some (.int (0 + (i : Int))),some (.int (0 + (j : Int))),some (.int (cn : Int)),some (.int z),some (.int l),some (.int m)] ∧ (cn : Int) ≤ m ∧ H' = H5)) ?_ ?_
    ·walk_at "rd"
     rw [hin]
     walk_at "rd"
     refine ite2 (fun _=>?_) (fun _=>?_)
     ·walk_at "rd"
      exact Here.mk ⟨_,rfl,by omega,rfl⟩
     ·exact Here.mk ⟨_,rfl,by omega,rfl⟩
    rintro σ' H' hv
    obtain ⟨m,rfl,hmc,eH⟩:=hv.out
    rw [eH]
    clear hv eH
    refine tCut.mk (fun σ' H'=>Here (∃ nds xs,σ' = [some (.ref r),some (.int d),some (T ks),some (.int c),some (.ref sl),some (.ref nl),some (.ref fl),some (.int (0 + (i : Int))),some (.int (0 + (j : Int))),some (.int (cn : Int)),some (.int z),some (.int l),some (.int m)] ∧ H' fl = some (.lst xs) ∧ All2 NdAt H' nds xs ∧ xs.length ≤ 4 * i + (j + 1) ∧ H' nl = some (.lst (ns.map V.int)) ∧ Same H H')) ?_ (fun σ' H' hv=>by obtain ⟨nds,xs,e,g⟩:=hv.out; exact Here.mk ⟨_,_,_,_,_,nds,xs,e,g⟩)
    have hxl : xs.length ≤ 100:=by omega
    have put : ∀ (t : Addr) (H6 : Hp),H5 t = none → H6 = upd H5 t (.tup [.int (0 + (i : Int)),T [k],.int l,.int m]) → H6 fl = some (.lst xs) ∧ Here (∃ nds xs',[some (V.ref r),some (.int d),some (T ks),some (.int c),some (.ref sl),some (.ref nl),some (.ref fl),some (.int (0 + (i : Int))),some (.int (0 + (j : Int))),some (.int (cn : Int)),some (.int z),some (.int l),some (.int m)] = [some (.ref r),some (.int d),some (T ks),some (.int c),some (.ref sl),some (.ref nl),some (.ref fl),some (.int (0 + (i : Int))),some (.int (0 + (j : Int))),some (.int (cn : Int)),some (.int z),some (.int l),some (.int m)] ∧ upd H6 fl (.lst (xs ++ [.ref t])) fl = some (.lst xs') ∧ All2 NdAt (upd H6 fl (.lst (xs ++ [.ref t]))) nds xs' ∧ xs'.length ≤ 4 * i + (j + 1) ∧ upd H6 fl (.lst (xs ++ [.ref t])) nl = some (.lst (ns.map V.int)) ∧ Same H (upd H6 fl (.lst (xs ++ [.ref t])))):=fun t H6 nt e6=>by
     have s6 : Same H5 H6:=by rw [e6]; exact Jy nt _
     have ht6 : H6 t = some (.tup [.int (i : Int),T [k],.int l,.int m]):=by rw [e6,Int.zero_add]; exact Jd
     have hf6:=s6 _ _ hf5
     have kk : J01 H6 (upd H6 fl (.lst (xs ++ [.ref t]))):=J0a hf6
     refine ⟨hf6,Here.mk ⟨nds ++ [⟨(i : Int),k,l,m⟩],xs ++ [.ref t],rfl,Jd,All2.snoc (hA5.imp fun a y=>NdAt.keeps a y _ _ (s6.keeps.trans kk)) ⟨t,rfl,kk _ _ ht6 fun zs z=>by cases z⟩,by rw [List.length_append,List.length_singleton]; omega,by rw [Jn nne]; exact s6 _ _ hn5,(s05.trans s6).upd fr⟩⟩
    walk_at "rd"
    refine ite2 (fun c1=>?_) (fun c1=>?_)
    ·walk_at "rd"
     intro t nt
     obtain ⟨H6,e6⟩ : ∃ H6,H6 = upd H5 t (.tup [.int (0 + (i : Int)),T [k],.int l,.int m]):=⟨_,rfl⟩
     obtain ⟨hf6,hP⟩:=put t H6 nt e6
     rw [← e6]
     walk_at "rd"
     exact hP
    ·have c1':=of_decide_eq_false (Bool.eq_false_iff.mpr c1)
     walk_at "rd"
     refine ite2 (fun c2=>?_) (fun c2=>?_)
     ·walk_at "rd"
      intro t nt
      obtain ⟨H6,e6⟩ : ∃ H6,H6 = upd H5 t (.tup [.int (0 + (i : Int)),T [k],.int l,.int m]):=⟨_,rfl⟩
      obtain ⟨hf6,hP⟩:=put t H6 nt e6
      rw [← e6]
      walk_at "rd"
      exact hP
     ·exact Here.mk ⟨nds,xs,rfl,hf5,hA5,by omega,hn5,s05⟩
   ·rintro σ H4 hv
    obtain ⟨v2,v3,v4,v5,v6,nds,xs,rfl,hf4,hA4,hx4,hn4,s4⟩:=hv.out
    exact Here.mk ⟨_,_,_,_,_,_,nds,xs,rfl,hf4,hA4,by omega,hn4,s4⟩
  ·rintro σ H3 hv
   obtain ⟨v1,v2,v3,v4,v5,v6,nds,xs,rfl,hf3,hA3,hx3,hn3,s3⟩:=hv.out
   walk_at "rd"
   exact q fl H3 nds xs s3 fr hf3 hA3 (by omega)
end
noncomputable def Jcp (K : PySem.W.Frag) : Sp:=fun vs H Q _=>∃ (a : Addr) (ns : List Int) (p : Int),vs = [.ref a,.int p] ∧ SqL K H a (ns.map V.int) ∧ 0 ≤ p ∧ ∀ v : Int,Q (.int v) H
structure Jcy (ns : List Int) (i : Nat) (n : Ps) (row : List Nat) : Prop where
 nm : n.nm = J2p (J15 ns 1) (0 + (i : Int))
 sk : ∀ x ∈ row,x = 45 ∨ x ∈ n.sk
 mo : (dut row : Int) ≤ n.most
 m14 : n.most ≤ 14
 pl : n.past.length ≤ 6
noncomputable def Jex (K : PySem.W.Frag) (C : Addr) : Sp:=fun vs H Q _=>∃ (a r : Addr) (ns : List Int) (rows : List (List Nat)) (ks : List Nat),vs = [.ref a,.ref r,T ks] ∧ SqL K H a (ns.map V.int) ∧ H r = some (.lst (rows.map T)) ∧ rows.length ≤ 6 ∧ 1 ≤ ks.length ∧ ks.length ≤ 4 ∧ (∀ row ∈ rows,row.length ≤ 10 ∧ inKs ks row) ∧
 ∀ (D : Addr) (H' : Hp) (ps : List Ps) (ys : List V),Same H H' → H D = none → H' D = some (.lst ys) → All2 (PsO C) H' ps ys → ps.length = rows.length → (∀ (i : Nat) (n : Ps) (row : List Nat),ps[i]? = some n → rows[i]? = some row → Jcy ns i n row) → Q (.ref D) H'
section
variable {P : Program} {w : World} {K : PySem.W.Frag} {mg : Str → Option Value} {base : Heap} {Jk Jo Ji Jp Je Js J8 J4 J6 Jf Jc Ja Jm Jg Jb J5 : Addr}
theorem J7g (tx : Tx K mg Jk Jo Ji Jp Je Js J8 J4 J6 Jf Jc Ja Jm Jg Jb J5) : FnG P w K mg base "_law_carried" 2 ["_law_script","_law_p"] (Jcp K):=by
 have JC:=J20 (P:=P) (w:=w) (base:=base) tx
 refine tx.J7n.g J3O (fun _ _ _ _ _ _ us hl=>match us,hl with | [_,_],_=>rfl) (fun vs H Q E h=>?_) (fun f cdv A outer s H vs Q E hr h=>?_)
 ·obtain ⟨a,ns,k,rfl,_⟩:=h
  rfl
 ·obtain ⟨a,ns,k,rfl,hS,h0,q⟩:=h
  refine ⟨_,(J3 (Jr (i:=2) J3O.nd rfl (Or.inl rfl) (JQ JC (hr.mono (by decide)) (J0 (pv 0) (J0 (Jq JU Jh (pv 1)) J7))))
   (J3 (J03 (Jw J0j (Jq JK (JQ JC (hr.mono (by decide)) (J0 (pv 0) (J0 Jh J7))) Jh) Jh (JA _)) (Jl (Jx (Jq JU (Jq JK (Jq JW (JQ JC (hr.mono (by decide)) (J0 (pv 0) (J0 Jh J7))) Jh) (Jq JcI Jh Jh)) (Jq JK (Jq JW (pv 2) Jh) Jh)))) JI)
   (J3 (J03 (Jw J0j (Jq JK (pv 2) Jh) Jh (JA _)) (Jl (Jx (Jq JK (Jq JW (pv 2) Jh) (Jq JcI Jh Jh)))) JI)
   (Jl (Jx (Jq JK (Jq JW (pv 2) Jh) Jh)))))),?_⟩
  walk_at "st"
  have p1 : CPow 10 38:=⟨by decide,by decide,by decide⟩
  have p2 : CPow 10 39:=⟨by decide,by decide,by decide⟩
  have z1 : (0 : Int) < 10 ^ (38 : Int).toNat:=by decide
  have z2 : (0 : Int) < 10 ^ (39 : Int).toNat:=by decide
  walk_at "rd"
  refine ite2 (fun c=>?_) (fun c=>?_)
  ·walk_at "rd"
   exact q _
  walk_at "rd"
  refine ite2 (fun c=>?_) (fun c=>?_)
  ·walk_at "rd"
   exact q _
  walk_at "rd"
  exact q _
theorem J45 (tx : Tx K mg Jk Jo Ji Jp Je Js J8 J4 J6 Jf Jc Ja Jm Jg Jb J5) : FnG P w K mg base "_law_persons_about" 3 ["_law_script","_law_rota","_law_kinds_here"] (Jex K J8):=by
 have J0w:=J2O (P:=P) (w:=w) (base:=base) tx
 have JC:=J20 (P:=P) (w:=w) (base:=base) tx
 have J4e:=J7g (P:=P) (w:=w) (base:=base) tx
 have J6j:=J9T (P:=P) (w:=w) (base:=base) tx
 have J8Y:=tx.J0d.g (J7d (P:=P) (w:=w) (base:=base) tx)
 refine tx.J46.g JJ (fun _ _ _ _ _ _ us hl=>match us,hl with | [_,_,_],_=>rfl) (fun vs H Q E h=>?_) (fun f cdv A outer s H vs Q E hr h=>?_)
 ·obtain ⟨a,r,ns,rows,ks,rfl,_⟩:=h
  rfl
 ·obtain ⟨a,r,ns,rows,ks,rfl,hS,hr1,hr6,k1,k4,hrow,q⟩:=h
  refine ⟨_,(J3 (Jr (i:=3) JJ.nd rfl (Or.inl rfl) (J0f J7))
   (J3 (J0I PassesOwn.never rfl (J0e rfl tx.J0n (J0 (JB (JS (K:=K) rfl) rfl tx.J0y PySem.boot_len (J0 (pv 1) J7)) J7)) (JD (i:=4) JJ.nd rfl (Or.inl rfl)) (J3 (Jr (i:=5) JJ.nd rfl (Or.inr rfl) (JQ J0w (hr.mono (by decide)) (J0 (Jq JU (JQ JC (hr.mono (by decide)) (J0 (pv 0) (J0 (Jq JU Jh (pv 4)) J7))) (pv 4)) (J0 Jh J7))))
   (J3 (Jr (i:=6) JJ.nd rfl (Or.inl rfl) (JE (l:=[]) (by decide +kernel)))
   (J3 (J0I PassesOwn.never rfl (J0e rfl tx.J0n (J0 (JB J0p rfl tx.J0y PySem.boot_len (J0 (pv 2) J7)) J7)) (JD (i:=7) JJ.nd rfl (Or.inl rfl)) (Jl (J26 (J03 (PW.pt (J6M (Jw Jf0 (JF J0x (pv 2) (pv 7) (fun _ _=>rfl)) (JF (JH (K:=K) rfl) (pv 1) (pv 4) (fun _ _=>rfl)) rfl) (J4m (Jw J7E (Jq Jd3 (Jq Jcu (JF (JH (K:=K) rfl) (pv 5) Jh (fun _ _=>rfl)) (pv 7)) Jh) Jh (JA _))))) (Jl (Jr (i:=6) JJ.nd rfl (Or.inl rfl) (Jq J0c (pv 6) (JF J0x (pv 2) (pv 7) (fun _ _=>rfl))))) JI))))
   (J3 (Jr (i:=8) JJ.nd rfl (Or.inl rfl) (JB (JS (K:=K) rfl) rfl tx.J0y PySem.boot_len (J0 (J0W (osc:=J9 JX) (ON:=["_law_script","_law_rota","_law_kinds_here","_law_found","_law_p","_law_numbers","_law_skills","_law_k","_law_many","_law_most","_law_past","_law_name_here"]) (N:=["_law_mark"]) (js:=[none]) ⟨rfl,by decide +kernel,by decide +kernel,by decide +kernel,rfl,by decide +kernel⟩ rfl rfl rfl (J6J (JF (JH (K:=K) rfl) (pv 1) (pv 4) (fun _ _=>rfl))) (fun _ _ _ _ _=>JD (i:=0) (show List.Nodup (["_law_mark"] : List Str) from by decide +kernel) rfl (Or.inl rfl)) (fun _ _ _ _ _=>J1E (Jw J6T (pv 0) (JE (l:=[45]) (by decide +kernel)) (JA _))) (fun _ _ _ _ _=>(pv 0))) J7)))
   (J3 (Jr (i:=9) JJ.nd rfl (Or.inl rfl) (JB (JbW rfl) rfl tx.J8Z Jfl (J0 Jh (J0 (Jq JU (pv 8) (Jq JK (JF (JH (K:=K) rfl) (pv 5) Jh (fun _ _=>rfl)) Jh)) J7))))
   (J3 (Jr (i:=10) JJ.nd rfl (Or.inl rfl) (J6W (K:=K) rfl (JE (l:=[]) (by decide +kernel)) (J0 (J0W (osc:=J9 JX) (ON:=["_law_script","_law_rota","_law_kinds_here","_law_found","_law_p","_law_numbers","_law_skills","_law_k","_law_many","_law_most","_law_past","_law_name_here"]) (N:=["_law_k","_law_kinds_here","_law_numbers"]) (js:=[none,some 2,some 5]) ⟨rfl,by decide +kernel,by decide +kernel,by decide +kernel,rfl,by decide +kernel⟩ rfl rfl rfl (J0e rfl tx.J0n (J0 (Jq JK (Jq JW (JF (JH (K:=K) rfl) (pv 5) Jh (fun _ _=>rfl)) Jh) Jh) J7)) (fun _ _ _ _ _=>JD (i:=0) (show List.Nodup (["_law_k","_law_kinds_here","_law_numbers"] : List Str) from by decide +kernel) rfl (Or.inl rfl)) (fun _ _ _ _ _=>J3P) (fun _ _ _ _ _=>(JF J0x (Jq J0c (JE (l:=[45]) (by decide +kernel)) (pv 1)) (Jq Jd3 (Jq Jcu (JF (JH (K:=K) rfl) (pv 2) Jh (fun _ _=>rfl)) (pv 0)) Jh) (fun _ _=>rfl)))) J7)))
   (J3 (Jr (i:=11) JJ.nd rfl (Or.inl rfl) (JQ J6j (hr.mono (by decide)) (J0 (JQ JC (hr.mono (by decide)) (J0 (pv 0) (J0 Jh J7))) (J0 (pv 4) J7))))
   (Jl (J1W (J3H PySem.F.plainAttrs_list PySem.F.slot_list_append PySem.F.type_list_append J0L (pv 3) (J0 (J27 (r:=rPer J8) J8Y (hr.mono (by decide)) JeK (J0 (pv 11) (J0 (pv 6) (J0 (pv 9) (J0 (JQ J4e (hr.mono (by decide)) (J0 (pv 0) (J0 (pv 4) J7))) (J0 (pv 10) J7)))))) J7))))))))))))
   (Jl (Jx (pv 3))))),?_⟩
  walk_at "st"
  clear J0w JC J4e J6j J8Y
  walk_at "rd"
  intro fl nfl
  obtain ⟨H2,e2,hfl,s2⟩:=newl (xs:=[]) nfl
  rw [← e2]
  clear e2
  have hr2:=s2 _ _ hr1
  walk_at "rd"
  rw [List.length_map]
  refine ⟨by omega,?_⟩
  refine J14 (n:=rows.length) (fun i σ H3=>Here (∃ v1 v2 v3 v4 v5 v6 v7 v8 ps ys,σ = [some (.ref a),some (.ref r),some (T ks),some (.ref fl),v1,v2,v3,v4,v5,v6,v7,v8] ∧ H3 fl = some (.lst ys) ∧ All2 (PsO J8) H3 ps ys ∧ ps.length = i ∧ (∀ (j : Nat) (n : Ps) (row : List Nat),ps[j]? = some n → rows[j]? = some row → Jcy ns j n row) ∧ Same H H3))
   (Here.mk ⟨none,none,none,none,none,none,none,none,[],[],rfl,hfl,trivial,rfl,fun j n row h=>by simp at h,s2⟩) ?_ ?_
  ·rintro i σ H3 hi hv
   obtain ⟨v1,v2,v3,v4,v5,v6,v7,v8,ps,ys,rfl,hf3,hA3,hl3,hg3,s3⟩:=hv.out
   have hS3:=s3.seq hS
   have hyl:=hA3.len
   have hr3:=s3 _ _ hr1
   have hri : rows[i]? = some rows[i]:=List.getElem?_eq_getElem hi
   generalize rows[i] = row at hri
   obtain ⟨hrl,hin⟩:=hrow row (List.mem_of_getElem? hri)
   have aT : atI (rows.map T) (0 + (i : Int)) = some (T row):=by
    rw [Int.zero_add]
    exact J05 (by rw [List.getElem?_map,hri]; rfl)
   walk_at "rd"
   intro st H4 xs s4 nst hst hxs
   obtain ⟨x0,e0,_⟩:=J4l xs 0 (by decide) (by omega)
   obtain ⟨x1,e1,_⟩:=J4l xs 1 (by decide) (by omega)
   obtain ⟨x2,e2,_⟩:=J4l xs 2 (by decide) (by omega)
   have hf4:=s4 _ _ hf3
   have hr4:=s4 _ _ hr3
   have hs0 : ∀ x ∈ row,x ∈ ks.take 0 → x ∈ ([] : List Nat):=fun x _ hx=>by rw [List.take_zero] at hx; cases hx
   walk_at "rd"
   refine J14 (n:=ks.length) (fun j σ H5=>Here (∃ v4 sk,σ = [some (.ref a),some (.ref r),some (T ks),some (.ref fl),some (.int (0 + (i : Int))),some (.ref st),some (T sk),v4,v5,v6,v7,v8] ∧ (∀ x ∈ row,x ∈ ks.take j → x ∈ sk) ∧ sk.length ≤ j ∧ H5 = H4))
    (Here.mk ⟨_,[],rfl,hs0,Nat.le_refl _,rfl⟩) ?_ ?_
   ·rintro j σ H5 hj hv
    obtain ⟨w4,sk,rfl,hsk,hsl,eH⟩:=hv.out
    rw [eH]
    have hkj : ks[j]? = some ks[j]:=List.getElem?_eq_getElem hj
    generalize ks[j] = k at hkj
    have ak : atI ks (0 + (j : Int)) = some k:=by rw [Int.zero_add]; exact J05 hkj
    have tk : ks.take (j + 1) = ks.take j ++ [k]:=by rw [List.take_add_one,hkj]; rfl
    have j0 : (0 : Int) ≤ 0 + (j : Int):=by omega
    refine tCut.mk (fun σ' H'=>Here (∃ sk,σ' = [some (.ref a),some (.ref r),some (T ks),some (.ref fl),some (.int (0 + (i : Int))),some (.ref st),some (T sk),some (.int (0 + (j : Int))),v5,v6,v7,v8] ∧ (∀ x ∈ row,x ∈ ks.take (j + 1) → x ∈ sk) ∧ sk.length ≤ j + 1 ∧ H' = H4)) ?_ (fun σ' H' hv=>by obtain ⟨sk,e,g⟩:=hv.out; exact Here.mk ⟨_,sk,e,g⟩)
    have hput : (∀ x ∈ row,x ∈ ks.take (j + 1) → x ∈ sk ++ [k]):=fun x hx hk=>by
     rw [tk] at hk
     rcases List.mem_append.mp hk with z | z
     ·exact List.mem_append_left _ (hsk x hx z)
     ·exact List.mem_append_right _ z
    have hsl' : (sk ++ [k]).length ≤ j + 1:=by rw [List.length_append,List.length_singleton]; omega
    walk_at "rd"
    refine ite2 (fun c=>?_) (fun c=>?_)
    ·walk_at "rd"
     exact Here.mk ⟨sk ++ [k],rfl,hput,hsl',rfl⟩
    ·have hnk : ¬ k ∈ row:=of_decide_eq_false (Bool.eq_false_iff.mpr c)
     walk_at "rd"
     refine ite2 (fun c=>?_) (fun c=>?_)
     ·walk_at "rd"
      exact Here.mk ⟨sk ++ [k],rfl,hput,hsl',rfl⟩
     ·refine Here.mk ⟨sk,rfl,fun x hx hk=>?_,by omega,rfl⟩
      rw [tk] at hk
      rcases List.mem_append.mp hk with z | z
      ·exact hsk x hx z
      ·rw [List.mem_singleton.mp z] at hx
       exact absurd hx hnk
   ·rintro σ H5 hv
    obtain ⟨w4,sk,rfl,hsk,hsl,eH⟩:=hv.out
    rw [eH]
    rw [List.take_length] at hsk
    walk_at "rd"
    refine J4H (fun x=>!decide (x = T [45])) (fun x=>x) (J3Z row) ?_ (fun x hx H' s' R hR=>?_) (fun x hx hp H' s' R hR=>?_) (fun D H6 nD s6 hD=>?_)
    ·rw [List.length_map]; omega
    ·obtain ⟨k,_,rfl⟩:=List.mem_map.mp hx
     walk_at "rd"
     exact hR H' (Same.refl _)
    ·walk_at "rd"
     exact hR H' (Same.refl _)
    have hst6:=s6 _ _ hst
    have hdl : dut row ≤ 10:=Nat.le_trans (List.length_filter_le _ _) hrl
    have mo0 : 0 ≤ x1 % 3:=Int.emod_nonneg _ (by decide)
    have mo1 : x1 % 3 < 3:=Int.emod_lt_of_pos _ (by decide)
    refine ⟨D,_,rfl,.inl (SqL.of hD),?_⟩
    rw [Jb6]
    generalize hdu : dut row = du at hdl
    clear hD nD
    have pm0 : 0 ≤ x2 / 64 % 4:=Int.emod_nonneg _ (by decide)
    have pm1 : x2 / 64 % 4 < 4:=Int.emod_lt_of_pos _ (by decide)
    walk_at "rd"
    generalize hmo : (if (du : Int) + x1 % 3 < 14 then (du : Int) + x1 % 3 else 14) = mo
    have hm1 : (du : Int) ≤ mo ∧ mo ≤ 14:=by rw [← hmo]; split <;> omega
    clear hmo
    refine Jdq (fun _ y=>∃ c,y = T [c]) (J3d 0 (x2 / 64 % 4).toNat) ?_ (fun x hx H' s' R hR=>?_) (fun D H7 ys2 nD s7 hlen hP hD=>?_)
    ·rw [List.length_map,List.length_range]; omega
    ·obtain ⟨k,hk',rfl⟩:=List.mem_map.mp hx
     have hk':=List.mem_range.mp hk'
     have hst':=s' _ _ hst6
     have br:=PyProof.Rows.bitAnd_range (x2 / 2 ^ (0 + (k : Int)).toNat) (y:=1) (by decide)
     obtain ⟨c,hc,_⟩:=J2P ([45] ++ ks) (Builtin.bitAnd (x2 / 2 ^ (0 + (k : Int)).toNat) 1) br.1 (by rw [List.length_append,List.length_singleton]; omega)
     have k0 : (0 : Int) ≤ 0 + (k : Int):=by omega
     have l5 : ([45] ++ ks).length ≤ 100:=by rw [List.length_append,List.length_singleton]; omega
     walk_at "rd"
     exact hR _ H' ⟨c,rfl⟩ (Same.refl _)
    rw [List.length_map,List.length_range] at hlen
    obtain ⟨l,rfl,hcs⟩:=JcL (ys:=ys2) fun y hy=>by
     obtain ⟨i,hi,rfl⟩:=List.mem_iff_getElem.mp hy
     exact hP i _ _ (List.getElem?_eq_getElem (by rw [List.length_map,List.length_range]; omega)) (List.getElem?_eq_getElem hi)
    have hjl : (((l.map fun c=>[c]).map List.length).sum + (l.map fun c=>[c]).length * ([] : List Nat).length ≤ 16777216):=by
     rw [J4S,List.length_map,List.length_nil,Nat.mul_zero]
     omega
    have hD3 : SqL K H7 D ((l.map fun c=>[c]).map T):=SqL.of hD
    have hll : l.length ≤ 3:=by omega
    have s07:=((s3.trans s4).trans s6).trans s7
    have hS7:=s07.seq hS
    walk_at "rd"
    rw [J43,J41]
    clear hP hD hD3 hjl hcs hlen
    walk_at "rd"
    intro H8 s8
    have s08:=s07.trans s8
    have hS8:=s08.seq hS
    have hf8:=(((s4.trans s6).trans s7).trans s8) _ _ hf3
    walk_at "rd"
    intro car
    walk_at "rd"
    intro pa H9 s9 npa hpa
    have s39:=(((s4.trans s6).trans s7).trans s8).trans s9
    have s09:=s3.trans s39
    have hf9:=s39 _ _ hf3
    have yl : ys.length ≤ 100:=by omega
    walk_at "rd"
    have kk : J01 H9 (upd H9 fl (.lst (ys ++ [.ref pa]))):=J0a hf9
    refine Here.mk ⟨_,_,_,_,_,_,_,_,ps ++ [⟨J2p (J15 ns 1) (0 + (i : Int)),sk,mo,car,l⟩],ys ++ [.ref pa],rfl,Jd,All2.snoc (hA3.imp fun a y=>PsO.keeps a y _ _ (s39.keeps.trans kk)) ⟨pa,rfl,hpa.keeps kk⟩,by rw [List.length_append,List.length_singleton,hl3],fun j n rw' hj hrj=>?_,s09.upd nfl⟩
    rcases Nat.lt_trichotomy j ps.length with z | z | z
    ·rw [List.getElem?_append_left z] at hj
     exact hg3 j n rw' hj hrj
    ·rw [List.getElem?_append_right (by omega),z,Nat.sub_self] at hj
     have e:=Option.some.inj hj
     rw [z,hl3,hri] at hrj
     have e':=Option.some.inj hrj
     subst e e'
     refine ⟨by rw [z,hl3],fun x hx=>(hin x hx).imp id fun z=>hsk x hx z,by rw [hdu]; exact hm1.1,hm1.2,Nat.le_trans hll (by decide)⟩
    ·rw [List.getElem?_append_right (by omega)] at hj
     have:=(List.getElem?_eq_some_iff.mp hj).1
     rw [List.length_singleton] at this
     omega
  ·rintro σ H3 hv
   obtain ⟨v1,v2,v3,v4,v5,v6,v7,v8,ps,ys,rfl,hf3,hA3,hl3,hg3,s3⟩:=hv.out
   walk_at "rd"
   exact q fl H3 ps ys s3 nfl hf3 hA3 hl3 hg3
end
structure JcK (d : Int) (ps : List Ps) (rows : List (List Nat)) (l : List Nat × Int) : Prop where
 out : ∃ (i : Nat) (n : Ps) (row : List Nat),ps[i]? = some n ∧ rows[i]? = some row ∧ n.nm = l.1 ∧ mkA row l.2 = 45
 d0 : 0 ≤ l.2
 d1 : l.2 < d
noncomputable def Jer (C : Addr) : Sp:=fun vs H Q _=>∃ (r pl : Addr) (d c : Int) (rows : List (List Nat)) (ps : List Ps) (ys : List V),vs = [.ref r,.ref pl,.int d,.int c] ∧ H r = some (.lst (rows.map T)) ∧ H pl = some (.lst ys) ∧ All2 (PsO C) H ps ys ∧ ps.length = rows.length ∧ rows.length ≤ 6 ∧ 1 ≤ d ∧ d ≤ 10 ∧ (∀ row ∈ rows,(row.length : Int) = d) ∧
 ∀ (D : Addr) (H' : Hp) (ls : List (List Nat × Int)) (xs : List V),Same H H' → H D = none → H' D = some (.lst xs) → All2 LvT H' ls xs → ls.length ≤ 60 → (∀ l ∈ ls,JcK d ps rows l) → Q (.ref D) H'
section
variable {P : Program} {w : World} {K : PySem.W.Frag} {mg : Str → Option Value} {base : Heap} {Jk Jo Ji Jp Je Js J8 J4 J6 Jf Jc Ja Jm Jg Jb J5 : Addr}
local macro_rules | `(tactic| walk_at "lk")=>`(tactic| exact J2B _ _ _ _ _)
theorem J4w (tx : Tx K mg Jk Jo Ji Jp Je Js J8 J4 J6 Jf Jc Ja Jm Jg Jb J5) : FnG P w K mg base "_law_leave_about" 2 ["_law_rota","_law_persons","_law_days","_law_cell"] (Jer J8):=by
 have J0w:=J2O (P:=P) (w:=w) (base:=base) tx
 refine tx.J4u.g J0C (fun _ _ _ _ _ _ us hl=>match us,hl with | [_,_,_,_],_=>rfl) (fun vs H Q E h=>?_) (fun f cdv A outer s H vs Q E hr h=>?_)
 ·obtain ⟨r,pl,d,c,rows,ps,ys,rfl,_⟩:=h
  rfl
 ·obtain ⟨r,pl,d,c,rows,ps,ys,rfl,hr1,hp1,hA1,hpl,hr6,d0,d1,hrow,q⟩:=h
  refine ⟨_,(J3 (Jr (i:=4) J0C.nd rfl (Or.inl rfl) (JQ J0w (hr.mono (by decide)) (J0 (Jq JU (pv 3) Jh) (J0 (Jq J32 (JB (JS (K:=K) rfl) rfl tx.J0y PySem.boot_len (J0 (pv 0) J7)) (pv 2)) J7))))
   (J3 (Jr (i:=5) J0C.nd rfl (Or.inl rfl) (J0f J7))
   (J3 (J0I PassesOwn.never rfl (J0e rfl tx.J0n (J0 (JB (JS (K:=K) rfl) rfl tx.J0y PySem.boot_len (J0 (pv 0) J7)) J7)) (JD (i:=6) J0C.nd rfl (Or.inl rfl)) (Jl (J0I PassesOwn.never rfl (J0e rfl tx.J0n (J0 (pv 2) J7)) (JD (i:=7) J0C.nd rfl (Or.inl rfl)) (Jl (J03 (PW.pt (J3h (Jw J0j (JF J0x (JF (JH (K:=K) rfl) (pv 0) (pv 6) (fun _ _=>rfl)) (pv 7) (fun _ _=>rfl)) (JE (l:=[45]) (by decide +kernel)) (JA _)) (J3f (Jw J0j (Jq JK (JF (JH (K:=K) rfl) (pv 4) (Jq JU (Jq J32 (pv 6) (pv 2)) (pv 7)) (fun _ _=>rfl)) Jh) Jh (JA _))))) (Jl (J1W (J3H PySem.F.plainAttrs_list PySem.F.slot_list_append PySem.F.type_list_append J0L (pv 5) (J0 (J02 (J0 (Jz (K:=K) rfl (JF (JH (K:=K) rfl) (pv 1) (pv 6) (fun _ _=>rfl)) rfl) (J0 (pv 7) J7))) J7)))) JI)))))
   (Jl (Jx (pv 5)))))),?_⟩
  walk_at "st"
  clear J0w
  have hcl:=tx.J0d.cl
  have hna:=tx.JM
  have md0 : 0 ≤ (rows.length : Int) * d:=Int.mul_nonneg (by omega) (by omega)
  have md1 : (rows.length : Int) * d ≤ 60:=by
   have:=Int.mul_le_mul (show (rows.length : Int) ≤ 6 by omega) d1 (by omega) (by decide)
   omega
  have ml : ((rows.map T).length : Int) = (rows.length : Int):=by rw [List.length_map]
  walk_at "rd"
  rw [ml]
  refine ⟨md0,by omega,?_⟩
  intro nl H1 xs s1 nnl hn hxs
  walk_at "rd"
  intro fl nfl
  obtain ⟨H2,e2,hfl,s2⟩:=newl (xs:=[]) nfl
  rw [← e2]
  clear e2
  have fr : H fl = none:=s1.free nfl
  have nne : nl ≠ fl:=Jj hn nfl
  have s02:=s1.trans s2
  have hr2:=s02 _ _ hr1
  walk_at "rd"
  rw [ml]
  refine J14 (n:=rows.length) (fun i σ H3=>Here (∃ v1 v2 ls xv,σ = [some (.ref r),some (.ref pl),some (.int d),some (.int c),some (.ref nl),some (.ref fl),v1,v2] ∧ H3 fl = some (.lst xv) ∧ All2 LvT H3 ls xv ∧ (ls.length : Int) ≤ (i : Int) * d ∧ (∀ l ∈ ls,JcK d ps rows l) ∧ H3 nl = some (.lst (xs.map V.int)) ∧ Same H H3))
   (Here.mk ⟨none,none,[],[],rfl,hfl,trivial,by simp,fun l hl=>absurd hl List.not_mem_nil,s2 _ _ hn,s02⟩) ?_ ?_
  ·rintro i σ H3 hi hv
   obtain ⟨v1,v2,ls,xv,rfl,hf3,hA3,hx3,hg3,hn3,s3⟩:=hv.out
   have hri : rows[i]? = some rows[i]:=List.getElem?_eq_getElem hi
   generalize rows[i] = row at hri
   have hrl:=hrow row (List.mem_of_getElem? hri)
   have aT : atI (rows.map T) (0 + (i : Int)) = some (T row):=by
    rw [Int.zero_add]
    exact J05 (by rw [List.getElem?_map,hri]; rfl)
   have hpi : ps[i]? = some ps[i]:=List.getElem?_eq_getElem (by omega)
   generalize ps[i] = n at hpi
   obtain ⟨y,hy,pa,rfl,dx,hpa⟩:=hA1.get hpi
   have ay : atI ys (0 + (i : Int)) = some (.ref pa):=by rw [Int.zero_add]; exact J05 hy
   have hid : 0 ≤ (i : Int) * d:=Int.mul_nonneg (by omega) (by omega)
   have hm2 : ((i : Int) + 1) * d ≤ (rows.length : Int) * d:=Int.mul_le_mul_of_nonneg_right (by omega) (by omega)
   rw [Int.add_mul,Int.one_mul] at hm2
   walk_at "rd"
   refine J14 (n:=d.toNat) (fun j σ H4=>Here (∃ v2 ls xv,σ = [some (.ref r),some (.ref pl),some (.int d),some (.int c),some (.ref nl),some (.ref fl),some (.int (0 + (i : Int))),v2] ∧ H4 fl = some (.lst xv) ∧ All2 LvT H4 ls xv ∧ (ls.length : Int) ≤ (i : Int) * d + j ∧ (∀ l ∈ ls,JcK d ps rows l) ∧ H4 nl = some (.lst (xs.map V.int)) ∧ Same H H4))
    (Here.mk ⟨_,ls,xv,rfl,hf3,hA3,by omega,hg3,hn3,s3⟩) ?_ ?_
   ·rintro j σ H4 hj hv
    obtain ⟨w2,ls,xv,rfl,hf4,hA4,hx4,hg4,hn4,s4⟩:=hv.out
    have hr4:=s4 _ _ hr1
    have hp4:=s4 _ _ hp1
    have hpa4:=s4 _ _ hpa
    have hxl:=hA4.len
    have e:=J5H (row:=row) (d:=0 + (j : Int)) (by omega) (by omega)
    obtain ⟨z,hz,_⟩:=J4l xs ((0 + (i : Int)) * d + (0 + (j : Int))) (by rw [Int.zero_add]; omega) (by rw [Int.zero_add]; omega)
    have xl : xv.length ≤ 100:=by omega
    walk_at "rd"
    refine ite2 (fun c1=>?_) (fun c1=>?_)
    ·have c1' : mkA row (0 + (j : Int)) = 45:=by simpa using J2N (of_decide_eq_true c1)
     walk_at "rd"
     refine ite2 (fun c2=>?_) (fun c2=>?_)
     ·walk_at "rd"
      intro t nt
      obtain ⟨H5,e5,ht5,s5⟩:=newt (xs:=[T n.nm,.int (0 + (j : Int))]) nt
      rw [← e5]
      have hf5:=s5 _ _ hf4
      have kk : J01 H5 (upd H5 fl (.lst (xv ++ [.ref t]))):=J0a hf5
      walk_at "rd"
      refine Here.mk ⟨_,ls ++ [(n.nm,0 + (j : Int))],xv ++ [.ref t],rfl,Jd,All2.snoc (hA4.imp fun a y=>LvT.keeps a y _ _ (s5.keeps.trans kk)) ⟨t,rfl,kk _ _ ht5 fun zs z=>by cases z⟩,by rw [List.length_append,List.length_singleton]; omega,fun l hl=>?_,by rw [Jn nne]; exact s5 _ _ hn4,(s4.trans s5).upd fr⟩
      rcases List.mem_append.mp hl with hl | hl
      ·exact hg4 l hl
      ·rw [List.mem_singleton.mp hl]
       exact ⟨⟨i,n,row,hpi,hri,rfl,c1'⟩,by show 0 ≤ 0 + (j : Int); omega,by show 0 + (j : Int) < d; omega⟩
     ·exact Here.mk ⟨_,ls,xv,rfl,hf4,hA4,by omega,hg4,hn4,s4⟩
    ·exact Here.mk ⟨_,ls,xv,rfl,hf4,hA4,by omega,hg4,hn4,s4⟩
   ·rintro σ H4 hv
    obtain ⟨w2,ls,xv,rfl,hf4,hA4,hx4,hg4,hn4,s4⟩:=hv.out
    exact Here.mk ⟨_,_,ls,xv,rfl,hf4,hA4,by rw [Int.natCast_add,Int.add_mul]; omega,hg4,hn4,s4⟩
  ·rintro σ H3 hv
   obtain ⟨v1,v2,ls,xv,rfl,hf3,hA3,hx3,hg3,hn3,s3⟩:=hv.out
   walk_at "rd"
   exact q fl H3 ls xv s3 fr hf3 hA3 (by omega) hg3
end
noncomputable def JeF (c6 : Cs) : Sp:=fun vs H Q _=>∃ (c : Int) (ks : List Nat),vs = [.int c,T ks] ∧ 1 ≤ ks.length ∧ ks.length ≤ 4 ∧ (∀ x ∈ ks,isUp x = true) ∧ ∀ (r : R) p H',r.ok → r.reach ≤ 6 → r.depth ≤ 2 → Same H H' → JR c6 H' r p → Q (.ref p) H'
theorem JcS (a b c : List Nat) (i : Int) (h0 : 0 ≤ i) (h1 : i < 3) : ∃ w,atI [T a,T b,T c] i = some (T w) ∧ (w = a ∨ w = b ∨ w = c):=by
 have : i = 0 ∨ i = 1 ∨ i = 2:=by omega
 rcases this with rfl | rfl | rfl
 ·exact ⟨a,by simp [atI,ixN],.inl rfl⟩
 ·exact ⟨b,by simp [atI,ixN],.inr (.inl rfl)⟩
 ·exact ⟨c,by simp [atI,ixN],.inr (.inr rfl)⟩
theorem Jdn (a b : List Nat) (i : Int) (h0 : 0 ≤ i) (h1 : i < 2) : ∃ w,atI [T a,T b] i = some (T w) ∧ (w = a ∨ w = b):=by
 have : i = 0 ∨ i = 1:=by omega
 rcases this with rfl | rfl
 ·exact ⟨a,by simp [atI,ixN],.inl rfl⟩
 ·exact ⟨b,by simp [atI,ixN],.inr rfl⟩
theorem upM {x : Nat} (h : isUp x = true) : Jbp x = true:=by unfold Jbp; rw [h]; rfl
theorem upW {x : Nat} (h : isUp x = true) : J4P x = true:=by unfold J4P; rw [h]; rfl
theorem JaH {x : Nat} (h : Jbp x = true) : J9G [x] = true:=by simp [J9G,h]
theorem Jcx {x y : Nat} (h : J4P x = true) (g : J4P y = true) : J6F [x,y] = true:=by simp [J6F,h,g]
theorem Jf9 {x y z : Nat} (h : J4P x = true) (g : J4P y = true) (k : J4P z = true) : J6F [x,y,z] = true:=by simp [J6F,h,g,k]
section
variable {P : Program} {w : World} {K : PySem.W.Frag} {mg : Str → Option Value} {base : Heap} {Jk Jo Ji Jp Je Js J8 J4 J6 Jf Jc Ja Jm Jg Jb J5 : Addr}
theorem Jaj (tx : Tx K mg Jk Jo Ji Jp Je Js J8 J4 J6 Jf Jc Ja Jm Jg Jb J5) : FnG P w K mg base "_law_rule" 3 ["_law_cell","_law_kinds_here"] (JeF (cs6 Jk Jo Ji Jp Je Js J8 J4 J6 Jf Jc Ja Jm Jg Jb J5)):=by
 have J5N:=tx.J3v.g (J8g (P:=P) (w:=w) (base:=base) tx)
 have J8m:=tx.J3w.g (J8X (P:=P) (w:=w) (base:=base) tx)
 have J5M:=tx.J2A.g (J8a (P:=P) (w:=w) (base:=base) tx)
 have Jaa:=tx.J4i.g (J9k (P:=P) (w:=w) (base:=base) tx)
 have J8W:=tx.J2W.g (J78 (P:=P) (w:=w) (base:=base) tx)
 have Jeg:=tx.J94.g (Jac (P:=P) (w:=w) (base:=base) tx)
 refine tx.Ja4.g J35 (fun _ _ _ _ _ _ us hl=>match us,hl with | [_,_],_=>rfl) (fun vs H Q E h=>?_) (fun f cdv A outer s H vs Q E hr h=>?_)
 ·obtain ⟨c,ks,rfl,_⟩:=h
  rfl
 ·obtain ⟨c,ks,rfl,k1,k4,hup,q⟩:=h
  refine ⟨_,(J3 (Jr (i:=2) J35.nd rfl (Or.inl rfl) (JF J0x (pv 1) (Jq JK (Jq JW (pv 0) Jh) (JB J0p rfl tx.J0y PySem.boot_len (J0 (pv 1) J7))) (fun _ _=>rfl)))
   (J3 (Jr (i:=3) J35.nd rfl (Or.inl rfl) (Jq JU Jh (Jq JK (Jq JW (pv 0) Jh) Jh)))
   (J3 (Jr (i:=4) J35.nd rfl (Or.inl rfl) (Jq JK (Jq JW (pv 0) Jh) Jh))
   (J3 (J03 (Jw J0j (Jq JK (pv 0) Jh) Jh (JA _)) (Jl (Jx (J27 (r:=rNev (cs6 Jk Jo Ji Jp Je Js J8 J4 J6 Jf Jc Ja Jm Jg Jb J5)) J5N (hr.mono (by decide)) JaQ (J0 (Jq J0c (pv 2) (JF (JH (K:=K) rfl) (J0f (J0 (pv 2) (J0 (JE (l:=[45]) (by decide +kernel)) (J0 (JE (l:=[35]) (by decide +kernel)) J7)))) (Jq JK (Jq JW (pv 0) Jh) Jh) (fun _ _=>rfl))) J7)))) JI)
   (J3 (J03 (Jw J0j (Jq JK (pv 0) Jh) Jh (JA _)) (Jl (Jx (J27 (r:=JaV (cs6 Jk Jo Ji Jp Je Js J8 J4 J6 Jf Jc Ja Jm Jg Jb J5)) J8m (hr.mono (by decide)) J8E (J0 (Jq JU Jh (pv 4)) (J0 (JF (JH (K:=K) rfl) (J0f (J0 (JE (l:=[35]) (by decide +kernel)) (J0 (pv 2) J7))) (Jq JK (Jq JW (pv 0) Jh) Jh) (fun _ _=>rfl)) (J0 (Jq JU Jh (pv 3)) J7)))))) JI)
   (J3 (J03 (Jw J0j (Jq JK (pv 0) Jh) Jh (JA _)) (Jl (Jx (J27 (r:=J8M (cs6 Jk Jo Ji Jp Je Js J8 J4 J6 Jf Jc Ja Jm Jg Jb J5)) J5M (hr.mono (by decide)) J6z (J0 Jh (J0 (JE (l:=[45]) (by decide +kernel)) (J0 (pv 3) J7)))))) JI)
   (J3 (J03 (Jw J0j (Jq JK (pv 0) Jh) Jh (JA _)) (Jl (Jx (J27 (r:=Jbl (cs6 Jk Jo Ji Jp Je Js J8 J4 J6 Jf Jc Ja Jm Jg Jb J5)) J8W (hr.mono (by decide)) JbS (J0 (J27 (r:=rNev (cs6 Jk Jo Ji Jp Je Js J8 J4 J6 Jf Jc Ja Jm Jg Jb J5)) J5N (hr.mono (by decide)) JaQ (J0 (Jq J0c (JE (l:=[63]) (by decide +kernel)) (pv 2)) J7)) (J0 (J27 (r:=JaV (cs6 Jk Jo Ji Jp Je Js J8 J4 J6 Jf Jc Ja Jm Jg Jb J5)) J8m (hr.mono (by decide)) J8E (J0 (pv 4) (J0 (pv 2) (J0 (pv 3) J7)))) J7))))) JI)
   (J3 (J03 (Jw J0j (Jq JK (pv 0) Jh) Jh (JA _)) (Jl (Jx (J27 (r:=rNot (cs6 Jk Jo Ji Jp Je Js J8 J4 J6 Jf Jc Ja Jm Jg Jb J5)) Jeg (hr.mono (by decide)) Jfg (J0 (J27 (r:=JcP (cs6 Jk Jo Ji Jp Je Js J8 J4 J6 Jf Jc Ja Jm Jg Jb J5)) Jaa (hr.mono (by decide)) JaX (J0 (J27 (r:=J8M (cs6 Jk Jo Ji Jp Je Js J8 J4 J6 Jf Jc Ja Jm Jg Jb J5)) J5M (hr.mono (by decide)) J6z (J0 Jh (J0 (pv 2) (J0 Jh J7)))) (J0 (J27 (r:=J8M (cs6 Jk Jo Ji Jp Je Js J8 J4 J6 Jf Jc Ja Jm Jg Jb J5)) J5M (hr.mono (by decide)) J6z (J0 (pv 4) (J0 (JE (l:=[35,45]) (by decide +kernel)) (J0 Jh J7)))) J7))) J7)))) JI)
   (Jl (Jx (J27 (r:=JcP (cs6 Jk Jo Ji Jp Je Js J8 J4 J6 Jf Jc Ja Jm Jg Jb J5)) Jaa (hr.mono (by decide)) JaX (J0 (J27 (r:=JaV (cs6 Jk Jo Ji Jp Je Js J8 J4 J6 Jf Jc Ja Jm Jg Jb J5)) J8m (hr.mono (by decide)) J8E (J0 Jh (J0 (JE (l:=[35]) (by decide +kernel)) (J0 Jh J7)))) (J0 (J27 (r:=rNev (cs6 Jk Jo Ji Jp Je Js J8 J4 J6 Jf Jc Ja Jm Jg Jb J5)) J5N (hr.mono (by decide)) JaQ (J0 (Jq J0c (JE (l:=[35,45]) (by decide +kernel)) (pv 2)) J7)) J7))))))))))))),?_⟩
  walk_at "st"
  clear J5N J8m J5M Jaa J8W Jeg
  have kp : (0 : Int) < (ks.length : Int):=by omega
  obtain ⟨x,hx,hx2⟩:=J2P ks (c / 6 % (ks.length : Int)) (Int.emod_nonneg _ (by omega)) (Int.emod_lt_of_pos _ kp)
  have ux:=hup x (List.mem_of_getElem? hx2)
  have e18 : 0 ≤ c / 18 % 2:=Int.emod_nonneg _ (by decide)
  have f18 : c / 18 % 2 < 2:=Int.emod_lt_of_pos _ (by decide)
  have e36 : 0 ≤ c / 36 % 2:=Int.emod_nonneg _ (by decide)
  have f36 : c / 36 % 2 < 2:=Int.emod_lt_of_pos _ (by decide)
  walk_at "rd"
  generalize hdd : 2 + c / 18 % 2 = dd
  generalize hmm : c / 36 % 2 = mm at e36 f36
  have d2 : 2 ≤ dd:=by omega
  have d3 : dd ≤ 3:=by omega
  clear hdd e18 f18
  refine ite2 (fun _=>?_) (fun _=>?_)
  ·obtain ⟨wd,hw,hw2⟩:=JcS [x] [45] [35] (c / 72 % 3) (Int.emod_nonneg _ (by decide)) (Int.emod_lt_of_pos _ (by decide))
   have hw3 : ∃ y,wd = [y] ∧ J4P y = true:=by
    rcases hw2 with rfl | rfl | rfl
    ·exact ⟨x,rfl,upW ux⟩
    ·exact ⟨45,rfl,by decide⟩
    ·exact ⟨35,rfl,by decide⟩
   obtain ⟨y,rfl,hy⟩:=hw3
   walk_at "rd"
   intro l nl
   obtain ⟨H1,e1,h1,s1⟩:=newl (xs:=[T [x],T [45],T [35]]) nl
   rw [← e1]
   walk_at "rd"
   intro p H2 s2 hR
   walk_at "rd"
   exact q (.nev ([x] ++ [y])) p H2 (Jcx (upW ux) hy) (by show (2 : Int) ≤ 6; decide) (Nat.zero_le _) (s1.trans s2) hR
  walk_at "rd"
  refine ite2 (fun _=>?_) (fun _=>?_)
  ·obtain ⟨wd,hw,hw2⟩:=Jdn [35] [x] (c / 72 % 2) (Int.emod_nonneg _ (by decide)) (Int.emod_lt_of_pos _ (by decide))
   have hw3 : J9G wd = true ∧ wd.length ≤ 1000:=by
    rcases hw2 with rfl | rfl
    ·exact ⟨by decide,by decide⟩
    ·exact ⟨JaH (upM ux),by rw [List.length_singleton]; decide⟩
   obtain ⟨hy,hyl⟩:=hw3
   walk_at "rd"
   intro l nl
   obtain ⟨H1,e1,h1,s1⟩:=newl (xs:=[T [35],T [x]]) nl
   rw [← e1]
   walk_at "rd"
   intro p H2 s2 hR
   walk_at "rd"
   exact q (.most (1 + mm) wd (1 + dd)) p H2 ⟨⟨by omega,by omega⟩,⟨by omega,by omega⟩,hy⟩ (by show 1 + dd ≤ 6; omega) (Nat.zero_le _) (s1.trans s2) hR
  walk_at "rd"
  refine ite2 (fun _=>?_) (fun _=>?_)
  ·walk_at "rd"
   intro p H2 s2 hR
   walk_at "rd"
   exact q (.least 1 [45] dd) p H2 ⟨⟨by decide,by decide⟩,⟨by omega,by omega⟩,by decide⟩ (by show dd ≤ 6; omega) (Nat.zero_le _) s2 hR
  walk_at "rd"
  refine ite2 (fun _=>?_) (fun _=>?_)
  ·walk_at "rd"
   intro p1 H1 s1 h1
   walk_at "rd"
   intro p2 H2 s2 h2
   have h1':=h1.same s2
   walk_at "rd"
   intro p dx H3 s3 hR _
   walk_at "rd"
   exact q (.either (.nev ([63] ++ [x])) (.most mm [x] dd)) p H3 ⟨by show J6F [63,x] = true; exact Jcx (by decide) (upW ux),⟨by omega,by omega⟩,⟨by omega,by omega⟩,JaH (upM ux)⟩ (by show (if dd > 2 then dd else 2) ≤ 6; split <;> omega) (by show (max 0 0 + 1) ≤ 2; decide) ((s1.trans s2).trans s3) hR
  walk_at "rd"
  refine ite2 (fun _=>?_) (fun _=>?_)
  ·walk_at "rd"
   intro p1 H1 s1 h1
   walk_at "rd"
   intro p2 H2 s2 h2
   have h1':=h1.same s2
   walk_at "rd"
   intro p3 dx H3 s3 h3 _
   walk_at "rd"
   intro p dx H4 s4 hR _
   walk_at "rd"
   exact q (.neg (.both (.least 1 [x] 2) (.least mm [35,45] 1))) p H4 ⟨⟨⟨by decide,by decide⟩,⟨by decide,by decide⟩,JaH (upM ux)⟩,⟨by omega,by omega⟩,⟨by decide,by decide⟩,by decide⟩ (by show (if (1 : Int) > 2 then (1 : Int) else 2) ≤ 6; decide) (by show (max 0 0 + 1 + 1) ≤ 2; decide) (((s1.trans s2).trans s3).trans s4) hR
  walk_at "rd"
  intro p1 H1 s1 h1
  walk_at "rd"
  intro p2 H2 s2 h2
  have h1':=h1.same s2
  walk_at "rd"
  intro p dx H3 s3 hR _
  walk_at "rd"
  exact q (.both (.most 1 [35] 2) (.nev ([35,45] ++ [x]))) p H3 ⟨⟨⟨by decide,by decide⟩,⟨by decide,by decide⟩,by decide⟩,by show J6F [35,45,x] = true; exact Jf9 (by decide) (by decide) (upW ux)⟩ (by show (if (3 : Int) > 2 then (3 : Int) else 2) ≤ 6; decide) (by show (max 0 0 + 1) ≤ 2; decide) ((s1.trans s2).trans s3) hR
end
noncomputable def RlT (c6 : Cs) : List Nat × R → V → Hp → Prop:=fun e y H=>∃ t p,y = .ref t ∧ H t = some (.tup [T e.1,.ref p]) ∧ JR c6 H e.2 p
theorem RlT.keeps {c6 : Cs} (n : List Nat × R) (y : V) (Ha Hb : Hp) (k : J01 Ha Hb) (h : RlT c6 n y Ha) : RlT c6 n y Hb:=let ⟨t,p,e,h,g⟩:=h; ⟨t,p,e,k _ _ h (fun zs z=>by cases z),JR.keeps k g⟩
structure Jdm (ps : List Ps) (rows : List (List Nat)) (e : List Nat × R) : Prop where
 ok : e.2.ok
 far : e.2.reach ≤ 6
 dp : e.2.depth ≤ 2
 kp : ∀ (i : Nat) (n : Ps) (row : List Nat),ps[i]? = some n → rows[i]? = some row → (e.1 = wAll ∨ e.1 = n.nm) → badL e.2 n.past row = []
theorem JdI (ns : List Int) (a : Int) (h : 0 ≤ a) : (cutN ns (some a) (some (a + 6))).length ≤ 6:=by
 rw [JdS ns a (a + 6) h (by omega),List.length_drop,List.length_take]
 omega
noncomputable def Jet (K : PySem.W.Frag) (c6 : Cs) (C : Addr) : Sp:=fun vs H Q _=>∃ (a r pl : Addr) (ks : List Nat) (st : Int) (ns : List Int) (rows : List (List Nat)) (ps : List Ps) (ys : List V),vs = [.ref a,.ref r,.ref pl,T ks,.int st] ∧ SqL K H a (ns.map V.int) ∧ H r = some (.lst (rows.map T)) ∧ H pl = some (.lst ys) ∧ All2 (PsO C) H ps ys ∧ ps.length = rows.length ∧ 1 ≤ rows.length ∧ rows.length ≤ 6 ∧ (∀ row ∈ rows,row.length ≤ 10) ∧ (∀ n ∈ ps,n.past.length ≤ 6) ∧ 1 ≤ ks.length ∧ ks.length ≤ 4 ∧ (∀ x ∈ ks,isUp x = true) ∧ 0 ≤ st ∧
 ∀ (D : Addr) (H' : Hp) (rs : List (List Nat × R)) (xs : List V),Same H H' → H D = none → H' D = some (.lst xs) → All2 (RlT c6) H' rs xs → rs.length ≤ 6 → (∀ e ∈ rs,Jdm ps rows e) → Q (.ref D) H'
section
variable {P : Program} {w : World} {K : PySem.W.Frag} {mg : Str → Option Value} {base : Heap} {Jk Jo Ji Jp Je Js J8 J4 J6 Jf Jc Ja Jm Jg Jb J5 : Addr}
local macro_rules | `(tactic| walk_at "lk")=>`(tactic| first | exact J2B _ _ _ _ _ | exact J8T _ _ _ _ _)
theorem J4B (tx : Tx K mg Jk Jo Ji Jp Je Js J8 J4 J6 Jf Jc Ja Jm Jg Jb J5) : FnG P w K mg base "_law_rules_about" 32 ["_law_script","_law_rota","_law_persons","_law_kinds_here","_law_start"] (Jet K (cs6 Jk Jo Ji Jp Je Js J8 J4 J6 Jf Jc Ja Jm Jg Jb J5) J8):=by
 have J6f:=Jaj (P:=P) (w:=w) (base:=base) tx
 have J6p:=Jae (P:=P) (w:=w) (base:=base) tx
 refine tx.J4t.g JO (fun _ _ _ _ _ _ us hl=>match us,hl with | [_,_,_,_,_],_=>rfl) (fun vs H Q E h=>?_) (fun f cdv A outer s H vs Q E hr h=>?_)
 ·obtain ⟨a,r,pl,ks,st,ns,rows,ps,ys,rfl,_⟩:=h
  rfl
 ·obtain ⟨a,r,pl,ks,st,ns,rows,ps,ys,rfl,hS,hr1,hp1,hA1,hpl,hr0,hr6,hrow,hpast,k1,k4,hup,st0,q⟩:=h
  refine ⟨_,(J3 (Jr (i:=5) JO.nd rfl (Or.inl rfl) (J0f J7))
   (J3 (J0I PassesOwn.never rfl (J2o (K:=K) rfl (J0v (J9J (K:=K) rfl) (pv 0) (J0Q (pv 4)) (J0Q (Jq JU (pv 4) Jh)))) (JD (i:=6) JO.nd rfl (Or.inl rfl)) (J3 (Jr (i:=7) JO.nd rfl (Or.inl rfl) (JQ J6f (hr.mono (by decide)) (J0 (Jq JW (pv 6) Jh) (J0 (pv 3) J7))))
   (J3 (Jr (i:=8) JO.nd rfl (Or.inl rfl) (JE (l:=[97,108,108]) (by decide +kernel)))
   (J3 (J26 (J03 (Jw J0j (Jq JK (pv 6) Jh) Jh (JA _)) (Jl (Jr (i:=8) JO.nd rfl (Or.inl rfl) (Jz (K:=K) rfl (JF (JH (K:=K) rfl) (pv 2) (Jq JK (Jq JW (pv 6) Jh) (JB (JS (K:=K) rfl) rfl tx.J0y PySem.boot_len (J0 (pv 2) J7))) (fun _ _=>rfl)) rfl))) JI))
   (J3 (Jr (i:=9) JO.nd rfl (Or.inl rfl) J2h)
   (J3 (J0I PassesOwn.never rfl (J9z (K:=K) rfl rfl tx.J5C (J0 (pv 2) (J0 (pv 1) J7))) (J33 rfl (JY (JD (i:=10) JO.nd rfl (Or.inl rfl)) (JY (JD (i:=11) JO.nd rfl (Or.inl rfl)) J2l))) (Jl (J26 (J03 (PW.pt (J3h (Jw (J8D (K:=K) rfl) (pv 8) (J02 (J0 (JE (l:=[97,108,108]) (by decide +kernel)) (J0 (Jz (K:=K) rfl (pv 10) rfl) J7))) rfl) (J3f (Jw (Jf4 (K:=K) rfl hr.units0) (JQ J6p (hr.mono (by decide)) (J0 (pv 7) (J0 (Jz (K:=K) rfl (pv 10) rfl) (J0 (pv 11) J7)))) (J0f J7) (JA _))))) (Jl (Jr (i:=9) JO.nd rfl (Or.inl rfl) J2h)) JI))))
   (Jl (J26 (J03 (J34 (pv 9)) (Jl (J1W (J3H PySem.F.plainAttrs_list PySem.F.slot_list_append PySem.F.type_list_append J0L (pv 5) (J0 (J02 (J0 (pv 8) (J0 (pv 7) J7))) J7)))) JI)))))))))
   (Jl (Jx (pv 5))))),?_⟩
  walk_at "st"
  clear J6f J6p
  have hcl:=tx.J0d.cl
  have hna:=tx.JM
  have hnb:=tx.J0V
  have hyl:=hA1.len
  have yp : (0 : Int) < (ys.length : Int):=by omega
  walk_at "rd"
  intro fl nfl
  obtain ⟨H1,e1,hfl,s1⟩:=newl (xs:=[]) nfl
  rw [← e1]
  clear e1
  have hS1:=s1.seq hS
  walk_at "rd"
  intro cl ncl
  rw [Jcs]
  have hcs:=JdI ns st st0
  generalize cutN ns (some st) (some (st + 6)) = cs at hcs ⊢
  obtain ⟨H2,e2,hcl2,s2⟩:=newl (xs:=cs.map V.int) ncl
  rw [← e2]
  clear e2
  have hfl2:=s2 _ _ hfl
  have s02:=s1.trans s2
  have nfc : cl ≠ fl:=(Jj hfl ncl).symm
  walk_at "rd"
  refine J4K (K:=K) (xs:=cs.map V.int) (fun i σ H3=>Here (∃ v1 v2 v3 v4 v5 v6 rs xv,σ = [some (.ref a),some (.ref r),some (.ref pl),some (T ks),some (.int st),some (.ref fl),v1,v2,v3,v4,v5,v6] ∧ H3 fl = some (.lst xv) ∧ All2 (RlT (cs6 Jk Jo Ji Jp Je Js J8 J4 J6 Jf Jc Ja Jm Jg Jb J5)) H3 rs xv ∧ rs.length ≤ i ∧ (∀ e ∈ rs,Jdm ps rows e) ∧ H3 cl = some (.lst (cs.map V.int)) ∧ Same H H3))
   (Here.mk ⟨none,none,none,none,none,none,[],[],rfl,hfl2,trivial,Nat.le_refl _,fun e he=>absurd he List.not_mem_nil,hcl2,s02⟩) (fun i σ H3 _ hv=>by obtain ⟨_,_,_,_,_,_,_,_,_,_,_,_,_,h,_⟩:=hv.out; exact SqL.of h) ?_ ?_
  ·rintro i x σ H3 hx hv
   obtain ⟨v1,v2,v3,v4,v5,v6,rs,xv,rfl,hf3,hA3,hl3,hg3,hc3,s3⟩:=hv.out
   have hi : i < cs.length:=by have:=(List.getElem?_eq_some_iff.mp hx).1; rwa [List.length_map] at this
   obtain ⟨z,rfl⟩ : ∃ z,x = .int z:=by
    obtain ⟨n,_,e⟩:=List.mem_map.mp (List.mem_of_getElem? hx)
    exact ⟨n,e.symm⟩
   walk_at "rd"
   intro ru rp H4 rok rfar rdp s4 hR4
   have s04:=s3.trans s4
   have hp4:=s04 _ _ hp1
   walk_at "rd"
   refine tCut.mk (fun σ' H'=>Here (∃ nm,σ' = [some (.ref a),some (.ref r),some (.ref pl),some (T ks),some (.int st),some (.ref fl),some (.int z),some (.ref rp),some (T nm),v4,v5,v6] ∧ H' = H4)) ?_ ?_
   ·walk_at "rd"
    refine ite2 (fun _=>?_) (fun _=>?_)
    ·obtain ⟨n,hn,hn2⟩:=J2P ps (z / 4 % (ys.length : Int)) (Int.emod_nonneg _ (by omega)) (by rw [← hyl]; exact Int.emod_lt_of_pos _ yp)
     obtain ⟨y,hy,pa,rfl,dx,hpa⟩:=hA1.get hn2
     have ay : atI ys (z / 4 % (ys.length : Int)) = some (.ref pa):=by
      have:=J05 hy
      rwa [Int.toNat_of_nonneg (Int.emod_nonneg _ (by omega))] at this
     have hpa4:=s04 _ _ hpa
     walk_at "rd"
     exact Here.mk ⟨_,rfl,rfl⟩
    ·exact Here.mk ⟨_,rfl,rfl⟩
   rintro σ' H' hv
   obtain ⟨nm,rfl,eH⟩:=hv.out
   rw [eH]
   clear hv eH
   have hr4:=s04 _ _ hr1
   have hf4:=s4 _ _ hf3
   have hc4:=s4 _ _ hc3
   walk_at "rd"
   refine Jd6 (K:=K) (xs:=ys) (ys:=rows.map T) (fun j σ H5=>Here (∃ (v5 v6 : Option V) (kp : Bool),σ = [some (.ref a),some (.ref r),some (.ref pl),some (T ks),some (.int st),some (.ref fl),some (.int z),some (.ref rp),some (T nm),some (.bl kp),v5,v6] ∧ (kp = true → ∀ (l : Nat) (n : Ps) (row : List Nat),l < j → ps[l]? = some n → rows[l]? = some row → (nm = wAll ∨ nm = n.nm) → badL ru n.past row = []) ∧ Same H4 H5))
    (Here.mk ⟨_,_,true,rfl,fun _ l n row h=>absurd h (Nat.not_lt_zero l),Same.refl _⟩) (fun j σ H5 _ _ hv=>by obtain ⟨_,_,_,_,_,s5⟩:=hv.out; exact ⟨SqL.of (s5 _ _ hp4),SqL.of (s5 _ _ hr4)⟩) ?_ ?_
   ·rintro j x y p σ H5 hx hy hp hv
    obtain ⟨w5,w6,kp,rfl,hkp,s5⟩:=hv.out
    obtain ⟨n,hn,pa,rfl,dx,hpa⟩:=hA1.back hx
    obtain ⟨row,hrw,rfl⟩ : ∃ row,rows[j]? = some row ∧ y = T row:=by
     rw [List.getElem?_map] at hy
     cases e : rows[j]? with
     | none=>rw [e] at hy; cases hy
     | some z=>rw [e] at hy; exact ⟨z,rfl,(Option.some.inj hy).symm⟩
    have hrl:=hrow row (List.mem_of_getElem? hrw)
    have hpn:=hpast n (List.mem_of_getElem? hn)
    obtain ⟨H6,e6,hp6,s6⟩:=newt (xs:=[V.ref pa,T row]) hp
    rw [← e6]
    clear e6
    have s46:=s5.trans s6
    have hpa6:=s46 _ _ (s04 _ _ hpa)
    walk_at "rd"
    refine tCut.mk (fun σ' H'=>Here (∃ (kp : Bool),σ' = [some (.ref a),some (.ref r),some (.ref pl),some (T ks),some (.int st),some (.ref fl),some (.int z),some (.ref rp),some (T nm),some (.bl kp),some (.ref pa),some (T row)] ∧ (kp = true → ∀ (l : Nat) (n : Ps) (row : List Nat),l < j + 1 → ps[l]? = some n → rows[l]? = some row → (nm = wAll ∨ nm = n.nm) → badL ru n.past row = []) ∧ Same H4 H')) ?_ (fun σ' H' hv=>by obtain ⟨kp,e,g⟩:=hv.out; exact Here.mk ⟨_,_,kp,e,g⟩)
    have nxt : kp = true → ((nm = wAll ∨ nm = n.nm) → badL ru n.past row = []) → ∀ (l : Nat) (n : Ps) (row : List Nat),l < j + 1 → ps[l]? = some n → rows[l]? = some row → (nm = wAll ∨ nm = n.nm) → badL ru n.past row = []:=fun e h l n' row' hl h1 h2 h3=>by
     by_cases hlj : l = j
     ·subst hlj
      rw [hn] at h1
      rw [hrw] at h2
      cases h1
      cases h2
      exact h h3
     ·exact hkp e l n' row' (by omega) h1 h2 h3
    walk_at "rd"
    intro tt ntt
    obtain ⟨H7,e7,htt,s7⟩:=newt (xs:=[T wAll,T n.nm]) ntt
    rw [← e7]
    clear e7
    have f1 : J09 (T nm) = true:=rfl
    have f2 : [T wAll,T n.nm].all J09 = true:=rfl
    have hI2 : SqL K H7 tt [T wAll,T n.nm] ∨ SqT K H7 tt [T wAll,T n.nm]:=.inr (SqT.of htt)
    have eB : inV (T nm) [T wAll,T n.nm] = decide (nm ∈ [wAll,n.nm]):=JcJ nm [wAll,n.nm]
    have s47:=s46.trans s7
    have hR7:=hR4.same s47
    have hpa7:=s7 _ _ hpa6
    walk_at "rd"
    refine ite2 (fun c=>?_) (fun c=>?_)
    ·have hd23 : ru.depth ≤ 23:=by omega
     have p300 : n.past.length ≤ 300:=by omega
     have r300 : row.length ≤ 300:=by omega
     walk_at "rd"
     intro Db H8 s8 nDb hDb
     walk_at "rd"
     intro em nem
     obtain ⟨H9,e9,hem,s9⟩:=newl (xs:=[]) nem
     rw [← e9]
     clear e9
     have hDb9:=s9 _ _ hDb
     have s49:=(s47.trans s8).trans s9
     refine ⟨Db,em,_,rfl,rfl,SqL.of hDb9,SqL.of hem,_,rfl,?_⟩
     refine ite2 (fun c2=>?_) (fun c2=>?_)
     ·walk_at "rd"
      exact Here.mk ⟨false,rfl,fun e=>absurd e (by decide),s49⟩
     ·have e0 : badL ru n.past row = []:=by
       cases eb : badL ru n.past row with
       | nil=>rfl
       | cons u v=>rw [eb] at c2; exact absurd rfl c2
      exact Here.mk ⟨kp,rfl,fun e=>nxt e fun _=>e0,s49⟩
    ·refine Here.mk ⟨kp,rfl,fun e=>nxt e fun h3=>absurd ?_ c,s47⟩
     show inV (T nm) [T wAll,T n.nm] = true
     rw [eB]
     refine decide_eq_true ?_
     rcases h3 with h3 | h3
     ·rw [h3]; exact List.mem_cons_self
     ·rw [h3]; exact List.mem_cons_of_mem _ List.mem_cons_self
   ·rintro j σ H5 hj hv
    obtain ⟨w5,w6,kp,rfl,hkp,s5⟩:=hv.out
    rw [List.length_map] at hj
    have hjl : j = rows.length:=by omega
    have s05:=s04.trans s5
    have hf5:=s5 _ _ hf4
    have hc5:=s5 _ _ hc4
    have hR5:=hR4.same s5
    have hA5:=hA3.imp fun a y=>RlT.keeps a y _ _ (s4.trans s5).keeps
    have hxl:=hA3.len
    refine tCut.mk (fun σ' H'=>Here (∃ rs xv,σ' = [some (.ref a),some (.ref r),some (.ref pl),some (T ks),some (.int st),some (.ref fl),some (.int z),some (.ref rp),some (T nm),some (.bl kp),w5,w6] ∧ H' fl = some (.lst xv) ∧ All2 (RlT (cs6 Jk Jo Ji Jp Je Js J8 J4 J6 Jf Jc Ja Jm Jg Jb J5)) H' rs xv ∧ rs.length ≤ i + 1 ∧ (∀ e ∈ rs,Jdm ps rows e) ∧ H' cl = some (.lst (cs.map V.int)) ∧ Same H H')) ?_ (fun σ' H' hv=>by obtain ⟨rs,xv,e,g⟩:=hv.out; exact Here.mk ⟨_,_,_,_,_,_,rs,xv,e,g⟩)
    have xl : xv.length ≤ 100:=by omega
    walk_at "rd"
    refine ite2 (fun c=>?_) (fun c=>?_)
    ·walk_at "rd"
     intro t nt
     obtain ⟨H6,e6,ht6,s6⟩:=newt (xs:=[T nm,V.ref rp]) nt
     rw [← e6]
     clear e6
     have hf6:=s6 _ _ hf5
     have kk : J01 H6 (upd H6 fl (.lst (xv ++ [.ref t]))):=J0a hf6
     walk_at "rd"
     refine Here.mk ⟨rs ++ [(nm,ru)],xv ++ [.ref t],rfl,Jd,All2.snoc (hA5.imp fun a y=>RlT.keeps a y _ _ (s6.keeps.trans kk)) ⟨t,rp,rfl,kk _ _ ht6 (fun zs z=>by cases z),JR.keeps (s6.keeps.trans kk) hR5⟩,by rw [List.length_append,List.length_singleton]; omega,fun e he=>?_,by rw [Jn nfc]; exact s6 _ _ hc5,(s05.trans s6).upd nfl⟩
     rcases List.mem_append.mp he with he | he
     ·exact hg3 e he
     ·rw [List.mem_singleton.mp he]
      exact ⟨rok,rfar,rdp,fun l n row h1 h2 h3=>hkp c l n row (by have:=(List.getElem?_eq_some_iff.mp h2).1; omega) h1 h2 h3⟩
    ·exact Here.mk ⟨rs,xv,rfl,hf5,hA5,by omega,hg3,hc5,s05⟩
  ·rintro σ H3 hv
   obtain ⟨v1,v2,v3,v4,v5,v6,rs,xv,rfl,hf3,hA3,hl3,hg3,hc3,s3⟩:=hv.out
   rw [List.length_map] at hl3
   walk_at "rd"
   exact q fl H3 rs xv s3 nfl hf3 hA3 (by omega) hg3
end
theorem Jax {l1 l2 : List Nat} {g : TG} {tb : TS} {D : Ends} {σ : St} {H : Hp} (Pv : Nat → St → Hp → Prop) (h0 : Pv 0 σ H)
  (hs : ∀ i c d p σ H,l1[i]? = some c → l2[i]? = some d → H p = none → Pv i σ H → g (.ref p) σ (upd H p (.tup [T [c],T [d]])) fun σ2 H2=>tb { D with nx:=Pv (i + 1),ct:=Pv (i + 1),bk:=D.nx } σ2 H2) (hd : ∀ i σ H,i = l1.length ∨ i = l2.length → Pv i σ H → D.nx σ H) :
  ∃ W : Nat → Nat → St → Hp → Prop,(∃ m,W 0 m σ H) ∧ ∀ i m σ H,W i m σ H →
   ((Itz l1 l2).stop i H ∧ D.nx σ H) ∨ ((Itz l1 l2).go i H ∧ ∃ N : St → Hp → Prop,(∀ σ' H',N σ' H' → ∃ m',m' < m ∧ W (i + 1) m' σ' H') ∧ ∀ x H',(Itz l1 l2).yld i H x H' → g x σ H' fun σ2 H2=>tb { D with nx:=N,ct:=N,bk:=D.nx } σ2 H2):=by
 refine ⟨fun i m σ H=>m = l1.length - i ∧ i ≤ l1.length ∧ i ≤ l2.length ∧ Pv i σ H,⟨l1.length,by simp,Nat.zero_le _,Nat.zero_le _,h0⟩,?_⟩
 rintro i m σ H ⟨rfl,hi,hj,p⟩
 by_cases hlt : i < l1.length ∧ i < l2.length
 ·refine .inr ⟨hlt,Pv (i + 1),fun σ' H' p'=>⟨l1.length - (i + 1),by omega,rfl,hlt.1,hlt.2,p'⟩,fun x H' y=>?_⟩
  obtain ⟨r,c,d,hr,e1,e2,rfl,rfl⟩:=y
  exact hs i c d r σ H e1 e2 hr p
 ·have e : i = l1.length ∨ i = l2.length:=by omega
  exact .inl ⟨by show i = l1.length ∨ (i < l1.length ∧ i = l2.length); omega,hd i σ H e p⟩
noncomputable abbrev J7J : List Nat:=[119,105,116,104]
structure J8H (ps : List Ps) (rows : List (List Nat)) (d : Int) (p : Pr) : Prop where
 inn : PrIn ps p
 wd : p.wd = J2k ∨ p.wd = J7J
 il : p.i < rows.length
 jl : p.j < rows.length
 ok : ∀ e : Nat,(e : Int) < d → paB rows (e : Int) p = false
noncomputable def Jdx (K : PySem.W.Frag) (C : Addr) : Sp:=fun vs H Q _=>∃ (r pl : Addr) (c cn d : Int) (rows : List (List Nat)) (ps : List Ps) (ys : List V),vs = [.ref r,.ref pl,.int c] ∧ H r = some (.lst (rows.map T)) ∧ H pl = some (.lst ys) ∧ All2 (PsO C) H ps ys ∧ ps.length = rows.length ∧ 1 ≤ rows.length ∧ rows.length ≤ 6 ∧ d ≤ 10 ∧ (∀ row ∈ rows,(row.length : Int) = d) ∧ (∀ (i : Nat) (n : Ps),ps[i]? = some n → n.nm = J2p cn (0 + (i : Int))) ∧
 ∀ (D : Addr) (H' : Hp) (prs : List Pr) (xs : List V),Same H H' → H D = none → H' D = some (.lst xs) → All2 PrT H' prs xs → prs.length ≤ 2 → (∀ p ∈ prs,J8H ps rows d p) → Q (.ref D) H'
theorem Jfh {wd : List Nat} {m o : Nat} (h : ¬ decide (T [m] = T [o]) = decide (T wd = T J2k)) : brkB wd m o = false:=by
 have e1 : decide (T [m] = T [o]) = decide (m = o):=by
  by_cases z : m = o
  ·subst z; simp
  ·rw [decide_eq_false z,decide_eq_false fun h=>z (by simpa using J2N h)]
 have e2 : decide (T wd = T J2k) = decide (wd = J2k):=by
  by_cases z : wd = J2k
  ·subst z; simp
  ·rw [decide_eq_false z,decide_eq_false fun h=>z (J2N h)]
 rw [e1,e2] at h
 unfold brkB
 by_cases z : wd = J2k
 ·rw [if_pos z]
  rw [decide_eq_true z] at h
  cases e : decide (m = o) with
  | true=>exact absurd e h
  | false=>rw [Bool.and_false]
 ·rw [if_neg z]
  rw [decide_eq_false z] at h
  cases e : decide (m = o) with
  | true=>exact Bool.and_false _
  | false=>exact absurd e h
theorem J9w {rows : List (List Nat)} {i : Int} (h0 : 0 ≤ i) (h1 : i < (rows.length : Int)) : ∃ row,rows[i.toNat]? = some row ∧ atI (rows.map T) i = some (T row):=by
 have hi : i.toNat < rows.length:=by omega
 refine ⟨rows[i.toNat],List.getElem?_eq_getElem hi,?_⟩
 have:=J05 (xs:=rows.map T) (j:=i.toNat) (v:=T rows[i.toNat]) (by rw [List.getElem?_map,List.getElem?_eq_getElem hi]; rfl)
 rwa [Int.toNat_of_nonneg h0] at this
theorem J9x {C : Addr} {H : Hp} {ps : List Ps} {ys : List V} (hA : All2 (PsO C) H ps ys) {i : Int} (h0 : 0 ≤ i) (h1 : i < (ys.length : Int)) : ∃ n pa dx,ps[i.toNat]? = some n ∧ atI ys i = some (.ref pa) ∧ H pa = some (.ins C dx (fP (T n.nm) (T n.sk) (.int n.most) (.int n.car) (T n.past))):=by
 have hl:=hA.len
 have hi : i.toNat < ps.length:=by omega
 obtain ⟨y,hy,pa,rfl,dx,hpa⟩:=hA.get (List.getElem?_eq_getElem hi)
 refine ⟨_,pa,dx,List.getElem?_eq_getElem hi,?_,hpa⟩
 have:=J05 hy
 rwa [Int.toNat_of_nonneg h0] at this
theorem J9M {ps : List Ps} {cn : Int} (h6 : ps.length ≤ 6) (hn : ∀ (i : Nat) (n : Ps),ps[i]? = some n → n.nm = J2p cn (0 + (i : Int))) {i : Nat} {n : Ps} (h : ps[i]? = some n) : (ps.map (·.nm))[i]? = some n.nm ∧ ∀ j < i,¬ (ps.map (·.nm))[j]? = some n.nm:=by
 refine ⟨by rw [List.getElem?_map,h]; rfl,fun j hj e=>?_⟩
 rw [List.getElem?_map] at e
 cases e2 : ps[j]? with
 | none=>rw [e2] at e; cases e
 | some m =>
  rw [e2] at e
  have e3 : m.nm = n.nm:=Option.some.inj e
  rw [hn j m e2,hn i n h] at e3
  have hi:=(List.getElem?_eq_some_iff.mp h).1
  have:=J7P (c:=cn) (p:=0 + (j : Int)) (q:=0 + (i : Int)) ⟨by omega,by omega⟩ ⟨by omega,by omega⟩ e3
  omega
section
variable {P : Program} {w : World} {K : PySem.W.Frag} {mg : Str → Option Value} {base : Heap} {Jk Jo Ji Jp Je Js J8 J4 J6 Jf Jc Ja Jm Jg Jb J5 : Addr}
local macro_rules | `(tactic| walk_at "lk")=>`(tactic| exact J2B _ _ _ _ _)
theorem J4F (tx : Tx K mg Jk Jo Ji Jp Je Js J8 J4 J6 Jf Jc Ja Jm Jg Jb J5) : FnG P w K mg base "_law_pairs_about" 2 ["_law_rota","_law_persons","_law_cell"] (Jdx K J8):=by
 refine tx.J4s.g JP (fun _ _ _ _ _ _ us hl=>match us,hl with | [_,_,_],_=>rfl) (fun vs H Q E h=>?_) (fun f cdv A outer s H vs Q E hr h=>?_)
 ·obtain ⟨r,pl,c,cn,d,rows,ps,ys,rfl,_⟩:=h
  rfl
 ·obtain ⟨r,pl,c,cn,d,rows,ps,ys,rfl,hr1,hp1,hA1,hpl,hr0,hr6,d10,hrow,hnm,q⟩:=h
  refine ⟨_,(J3 (Jr (i:=3) JP.nd rfl (Or.inl rfl) (J0f J7))
   (J3 (J0I PassesOwn.never rfl (J2o (K:=K) rfl (J0f (J0 (J02 (J0 (JE (l:=[97,112,97,114,116]) (by decide +kernel)) (J0 (Jq JW (pv 2) Jh) J7))) (J0 (J02 (J0 (JE (l:=[119,105,116,104]) (by decide +kernel)) (J0 (Jq JW (pv 2) Jh) J7))) J7)))) (J33 rfl (JY (JD (i:=4) JP.nd rfl (Or.inl rfl)) (JY (JD (i:=5) JP.nd rfl (Or.inl rfl)) J2l))) (J3 (Jr (i:=6) JP.nd rfl (Or.inl rfl) (Jq JK (pv 5) (JB (JS (K:=K) rfl) rfl tx.J0y PySem.boot_len (J0 (pv 1) J7))))
   (J3 (Jr (i:=7) JP.nd rfl (Or.inl rfl) (Jq JK (Jq JU (pv 6) Jh) (JB (JS (K:=K) rfl) rfl tx.J0y PySem.boot_len (J0 (pv 1) J7))))
   (J3 (Jr (i:=8) JP.nd rfl (Or.inl rfl) J2h)
   (J3 (J0I PassesOwn.never rfl (Jbk rfl tx.J5C (J0 (JF (JH (K:=K) rfl) (pv 0) (pv 6) (fun _ _=>rfl)) (J0 (JF (JH (K:=K) rfl) (pv 0) (pv 7) (fun _ _=>rfl)) J7))) (J33 rfl (JY (JD (i:=9) JP.nd rfl (Or.inl rfl)) (JY (JD (i:=10) JP.nd rfl (Or.inl rfl)) J2l))) (Jl (J26 (J03 (PW.pt (J3h (Jw J6T (pv 9) (JE (l:=[45]) (by decide +kernel)) (JA _)) (J3f (Jw J0j (J3e J0j (pv 9) (pv 10) (JA _)) (J3e J0j (pv 4) (JE (l:=[97,112,97,114,116]) (by decide +kernel)) (JA _)) (JA _))))) (Jl (Jr (i:=8) JP.nd rfl (Or.inl rfl) J2h)) JI))))
   (Jl (J26 (J03 (PW.pt (J3h (Jw J6T (pv 6) (pv 7) (JA _)) (J3h (J8P (J34 (pv 8))) (J3f (Jw J0j (Jq JK (pv 2) Jh) Jh (JA _)))))) (Jl (J1W (J3H PySem.F.plainAttrs_list PySem.F.slot_list_append PySem.F.type_list_append J0L (pv 3) (J0 (J02 (J0 (pv 4) (J0 (Jz (K:=K) rfl (JF (JH (K:=K) rfl) (pv 1) (pv 6) (fun _ _=>rfl)) rfl) (J0 (Jz (K:=K) rfl (JF (JH (K:=K) rfl) (pv 1) (pv 7) (fun _ _=>rfl)) rfl) J7)))) J7)))) JI))))))))
   (Jl (Jx (pv 3))))),?_⟩
  walk_at "st"
  have hcl:=tx.J0d.cl
  have hna:=tx.JM
  have hyl:=hA1.len
  have yp : (0 : Int) < (ys.length : Int):=by omega
  walk_at "rd"
  intro fl nfl
  obtain ⟨H1,e1,hfl,s1⟩:=newl (xs:=[]) nfl
  rw [← e1]
  clear e1
  walk_at "rd"
  intro t1 nt1
  obtain ⟨H2,e2,ht1,s2⟩:=newt (xs:=[T J2k,V.int (c / 2)]) nt1
  rw [← e2]
  clear e2
  walk_at "rd"
  intro t2 nt2
  obtain ⟨H3,e3,ht2,s3⟩:=newt (xs:=[T J7J,V.int (c / 34)]) nt2
  rw [← e3]
  clear e3
  walk_at "rd"
  intro ll nll
  obtain ⟨H4,e4,hll,s4⟩:=newl (xs:=[V.ref t1,V.ref t2]) nll
  rw [← e4]
  clear e4
  have s24:=(s2.trans s3).trans s4
  have s04:=s1.trans s24
  have hfl4:=s24 _ _ hfl
  have ht14:=(s3.trans s4) _ _ ht1
  have ht24:=s4 _ _ ht2
  have nlf : ll ≠ fl:=(Jj ((s2.trans s3) _ _ hfl) nll).symm
  have n1f : t1 ≠ fl:=(Jj hfl nt1).symm
  have n2f : t2 ≠ fl:=(Jj (s2 _ _ hfl) nt2).symm
  walk_at "rd"
  refine J4K (K:=K) (xs:=[V.ref t1,V.ref t2]) (fun i σ H5=>Here (∃ v1 v2 v3 v4 v5 v6 v7 prs xv,σ = [some (.ref r),some (.ref pl),some (.int c),some (.ref fl),v1,v2,v3,v4,v5,v6,v7] ∧ H5 fl = some (.lst xv) ∧ All2 PrT H5 prs xv ∧ prs.length ≤ i ∧ (∀ e ∈ prs,J8H ps rows d e) ∧ (H5 ll = some (.lst [V.ref t1,V.ref t2]) ∧ H5 t1 = some (.tup [T J2k,V.int (c / 2)]) ∧ H5 t2 = some (.tup [T J7J,V.int (c / 34)])) ∧ Same H H5))
   (Here.mk ⟨none,none,none,none,none,none,none,[],[],rfl,hfl4,trivial,Nat.le_refl _,fun e he=>absurd he List.not_mem_nil,⟨hll,ht14,ht24⟩,s04⟩) (fun i σ H3 _ hv=>by obtain ⟨_,_,_,_,_,_,_,_,_,_,_,_,_,_,h,_⟩:=hv.out; exact SqL.of h.1) ?_ ?_
  ·rintro i x σ H5 hx hv
   obtain ⟨v1,v2,v3,v4,v5,v6,v7,prs,xv,rfl,hf5,hA5,hl5,hg5,⟨h5l,h5a,h5b⟩,s5⟩:=hv.out
   have hi : i < 2:=(List.getElem?_eq_some_iff.mp hx).1
   obtain ⟨t,wd,num,rfl,ht,hwd⟩ : ∃ t wd num,x = V.ref t ∧ H5 t = some (.tup [T wd,V.int num]) ∧ (wd = J2k ∨ wd = J7J):=by
    have hi2 : i = 0 ∨ i = 1:=by omega
    rcases hi2 with rfl | rfl
    ·cases hx
     exact ⟨t1,_,_,rfl,h5a,.inl rfl⟩
    ·cases hx
     exact ⟨t2,_,_,rfl,h5b,.inr rfl⟩
   have hp5:=s5 _ _ hp1
   have hr5:=s5 _ _ hr1
   have o0 : 0 ≤ num % (ys.length : Int):=Int.emod_nonneg _ (by omega)
   have o1 : num % (ys.length : Int) < (ys.length : Int):=Int.emod_lt_of_pos _ yp
   have w0 : 0 ≤ (num % (ys.length : Int) + 1) % (ys.length : Int):=Int.emod_nonneg _ (by omega)
   have w1 : (num % (ys.length : Int) + 1) % (ys.length : Int) < (ys.length : Int):=Int.emod_lt_of_pos _ yp
   obtain ⟨r1,hr1a,hr1b⟩:=J9w (rows:=rows) o0 (by omega)
   obtain ⟨r2,hr2a,hr2b⟩:=J9w (rows:=rows) w0 (by omega)
   obtain ⟨n1,pa1,dx1,hn1,ha1,hpa1⟩:=J9x hA1 o0 o1
   obtain ⟨n2,pa2,dx2,hn2,ha2,hpa2⟩:=J9x hA1 w0 w1
   have l1:=hrow r1 (List.mem_of_getElem? hr1a)
   have l2:=hrow r2 (List.mem_of_getElem? hr2a)
   walk_at "rd"
   generalize (num % (ys.length : Int) + 1) % (ys.length : Int) = two at w0 w1 hr2a hr2b hn2 ha2 ⊢
   generalize num % (ys.length : Int) = one at o0 o1 hr1a hr1b hn1 ha1 ⊢
   refine Jax (l1:=r1) (l2:=r2) (fun j σ H6=>Here (∃ (v6 v7 : Option V) (cl : Bool),σ = [some (.ref r),some (.ref pl),some (.int c),some (.ref fl),some (T wd),some (.int num),some (.int one),some (.int two),some (.bl cl),v6,v7] ∧ (cl = false → ∀ e < j,brkB wd (mkA r1 (e : Int)) (mkA r2 (e : Int)) = false) ∧ Same H5 H6))
    (Here.mk ⟨_,_,false,rfl,fun _ e h=>absurd h (Nat.not_lt_zero e),Same.refl _⟩) ?_ ?_
   ·rintro j m o p σ H6 hm ho hp hv
    obtain ⟨w6,w7,cl,rfl,hcl6,s6⟩:=hv.out
    obtain ⟨H7,e7,hp7,s7⟩:=newt (xs:=[T [m],T [o]]) hp
    rw [← e7]
    clear e7
    have em : mkA r1 (j : Int) = m:=by unfold mkA; rw [Int.toNat_natCast,List.getD_eq_getElem?_getD,hm]; rfl
    have eo : mkA r2 (j : Int) = o:=by unfold mkA; rw [Int.toNat_natCast,List.getD_eq_getElem?_getD,ho]; rfl
    have nxt : cl = false → brkB wd m o = false → ∀ e < j + 1,brkB wd (mkA r1 (e : Int)) (mkA r2 (e : Int)) = false:=fun h1 h2 e he=>by
     by_cases hej : e = j
     ·subst hej
      rw [em,eo]
      exact h2
     ·exact hcl6 h1 e (by omega)
    walk_at "rd"
    refine tCut.mk (fun σ' H'=>Here (∃ (cl : Bool),σ' = [some (.ref r),some (.ref pl),some (.int c),some (.ref fl),some (T wd),some (.int num),some (.int one),some (.int two),some (.bl cl),some (T [m]),some (T [o])] ∧ (cl = false → ∀ e < j + 1,brkB wd (mkA r1 (e : Int)) (mkA r2 (e : Int)) = false) ∧ Same H5 H')) ?_ (fun σ' H' hv=>by obtain ⟨kp,e,g⟩:=hv.out; exact Here.mk ⟨_,_,kp,e,g⟩)
    walk_at "rd"
    refine ite2 (fun c1=>?_) (fun c1=>?_)
    ·walk_at "rd"
     refine ite2 (fun c2=>?_) (fun c2=>?_)
     ·walk_at "rd"
      exact Here.mk ⟨true,rfl,fun e=>absurd e (by decide),s6.trans s7⟩
     ·refine Here.mk ⟨cl,rfl,fun e=>nxt e (Jfh (fun z=>c2 (decide_eq_true (by rw [z])))),s6.trans s7⟩
    ·refine Here.mk ⟨cl,rfl,fun e=>nxt e ?_,s6.trans s7⟩
     have c1' : m = 45:=Classical.byContradiction fun z=>c1 (by rw [decide_eq_false fun h=>z (by simpa using J2N h)]; rfl)
     unfold brkB
     rw [decide_eq_true c1']
     rfl
   ·rintro j σ H6 hj hv
    obtain ⟨w6,w7,cl,rfl,hcl6,s6⟩:=hv.out
    have hjl : j = r1.length:=by omega
    have s06:=s5.trans s6
    have hf6:=s6 _ _ hf5
    have h6l:=s6 _ _ h5l
    have h6a:=s6 _ _ h5a
    have h6b:=s6 _ _ h5b
    have hp6:=s6 _ _ hp5
    have hA6:=hA5.imp fun a y=>PrT.keeps a y _ _ s6.keeps
    have hq1:=s06 _ _ hpa1
    have hq2:=s06 _ _ hpa2
    have hxl:=hA5.len
    have xl : xv.length ≤ 100:=by omega
    refine tCut.mk (fun σ' H'=>Here (∃ prs xv,σ' = [some (.ref r),some (.ref pl),some (.int c),some (.ref fl),some (T wd),some (.int num),some (.int one),some (.int two),some (.bl cl),w6,w7] ∧ H' fl = some (.lst xv) ∧ All2 PrT H' prs xv ∧ prs.length ≤ i + 1 ∧ (∀ e ∈ prs,J8H ps rows d e) ∧ (H' ll = some (.lst [V.ref t1,V.ref t2]) ∧ H' t1 = some (.tup [T J2k,V.int (c / 2)]) ∧ H' t2 = some (.tup [T J7J,V.int (c / 34)])) ∧ Same H H')) ?_ (fun σ' H' hv=>by obtain ⟨rs,xv,e,g⟩:=hv.out; exact Here.mk ⟨_,_,_,_,_,_,_,rs,xv,e,g⟩)
    have no : Here (∃ prs xv,[some (V.ref r),some (.ref pl),some (.int c),some (.ref fl),some (T wd),some (.int num),some (.int one),some (.int two),some (.bl cl),w6,w7] = [some (.ref r),some (.ref pl),some (.int c),some (.ref fl),some (T wd),some (.int num),some (.int one),some (.int two),some (.bl cl),w6,w7] ∧ H6 fl = some (.lst xv) ∧ All2 PrT H6 prs xv ∧ prs.length ≤ i + 1 ∧ (∀ e ∈ prs,J8H ps rows d e) ∧ (H6 ll = some (.lst [V.ref t1,V.ref t2]) ∧ H6 t1 = some (.tup [T J2k,V.int (c / 2)]) ∧ H6 t2 = some (.tup [T J7J,V.int (c / 34)])) ∧ Same H H6):=Here.mk ⟨prs,xv,rfl,hf6,hA6,by omega,hg5,⟨h6l,h6a,h6b⟩,s06⟩
    walk_at "rd"
    refine ite2 (fun _=>?_) (fun _=>no)
    walk_at "rd"
    refine ite2 (fun c2=>?_) (fun _=>no)
    have ec : cl = false:=by cases cl with | true=>cases c2 | false=>rfl
    walk_at "rd"
    refine ite2 (fun _=>?_) (fun _=>no)
    walk_at "rd"
    intro t nt
    obtain ⟨H7,e7,ht7,s7⟩:=newt (xs:=[T wd,T n1.nm,T n2.nm]) nt
    rw [← e7]
    clear e7
    have hf7:=s7 _ _ hf6
    have kk : J01 H7 (upd H7 fl (.lst (xv ++ [.ref t]))):=J0a hf7
    walk_at "rd"
    refine Here.mk ⟨prs ++ [⟨wd,n1.nm,n2.nm,one.toNat,two.toNat⟩],xv ++ [.ref t],rfl,Jd,All2.snoc (hA6.imp fun a y=>PrT.keeps a y _ _ (s7.keeps.trans kk)) ⟨t,rfl,kk _ _ ht7 (fun zs z=>by cases z)⟩,by rw [List.length_append,List.length_singleton]; omega,fun e he=>?_,⟨by rw [Jn nlf]; exact s7 _ _ h6l,by rw [Jn n1f]; exact s7 _ _ h6a,by rw [Jn n2f]; exact s7 _ _ h6b⟩,(s06.trans s7).upd nfl⟩
    rcases List.mem_append.mp he with he | he
    ·exact hg5 e he
    ·rw [List.mem_singleton.mp he]
     refine ⟨⟨J9M (by omega) hnm hn1,J9M (by omega) hnm hn2⟩,hwd,(List.getElem?_eq_some_iff.mp hr1a).1,(List.getElem?_eq_some_iff.mp hr2a).1,fun k hk=>?_⟩
     unfold paB
     show brkB wd (mkA (rows.getD one.toNat []) (k : Int)) (mkA (rows.getD two.toNat []) (k : Int)) = false
     rw [List.getD_eq_getElem?_getD,List.getD_eq_getElem?_getD,hr1a,hr2a]
     exact hcl6 ec k (by omega)
  ·rintro σ H5 hv
   obtain ⟨v1,v2,v3,v4,v5,v6,v7,prs,xv,rfl,hf5,hA5,hl5,hg5,_,s5⟩:=hv.out
   walk_at "rd"
   exact q fl H5 prs xv s5 nfl hf5 hA5 hl5 hg5
end
structure Hd where
 h : Addr
 dd : Int
 ks : List Nat
 a1 : Addr
 a2 : Addr
 a3 : Addr
 a4 : Addr
 a5 : Addr
 a6 : Addr
 xs : List V
 ys : List V
 zs : List V
 ws : List V
 u5 : List V
 u6 : List V
 nds : List Nd
 ps : List Ps
 ls : List (List Nat × Int)
 rls : List Ru
 prs : List Pr
noncomputable def Hd.F (o : Hd) (rows : List (List Nat)) : List (List V):=allF o.ks o.nds o.ls o.rls o.prs o.ps rows o.dd.toNat
structure Fx (P : Program) (w : World) (K : PySem.W.Frag) (mg : Str → Option Value) (base : Heap) (C1 C2 : Addr) (H : Hp) (o : Hd) (r : Addr) (rows : List (List Nat)) : Prop where
 ho : J4R C2 H o.h o.dd o.ks o.a1 o.a2 o.a3 o.a4 o.a5 o.a6
 e1 : H o.a1 = some (.lst o.xs)
 nd : All2 NdAt H o.nds o.xs
 e2 : H o.a2 = some (.lst o.ys)
 pe : All2 (PsO C1) H o.ps o.ys
 e3 : H o.a3 = some (.lst o.zs)
 lv : All2 LvT H o.ls o.zs
 e4 : H o.a4 = some (.lst o.ws)
 e5 : H o.a5 = some (.lst o.u5)
 e6 : H o.a6 = some (.lst o.u6)
 hr : H r = some (.lst (rows.map T))
 rl : rows.length = o.ps.length
 p8 : o.ps.length ≤ 8
 k4 : o.ks.length ≤ 4
 d0 : 0 ≤ o.dd
 d14 : o.dd ≤ 14
 rd : ∀ r ∈ rows,(r.length : Int) = o.dd
 pa : ∀ n ∈ o.ps,n.past.length ≤ 100
 ru : All2 (RuT P w K mg base) H o.rls o.u5
 r8 : o.rls.length ≤ 8
 pr : All2 PrT H o.prs o.u6
 q8 : o.prs.length ≤ 8
 pi : ∀ p ∈ o.prs,PrIn o.ps p
theorem Fx.same {P : Program} {w : World} {K : PySem.W.Frag} {mg : Str → Option Value} {base : Heap} {C1 C2 : Addr} {H H' : Hp} {o : Hd} {r : Addr} {rows : List (List Nat)} (x : Fx P w K mg base C1 C2 H o r rows) (s : Same H H') : Fx P w K mg base C1 C2 H' o r rows where
 ho:=x.ho.keeps s.keeps
 e1:=s _ _ x.e1
 nd:=x.nd.imp fun a y=>NdAt.keeps a y _ _ s.keeps
 e2:=s _ _ x.e2
 pe:=x.pe.imp fun a y=>PsO.keeps a y _ _ s.keeps
 e3:=s _ _ x.e3
 lv:=x.lv.imp fun a y=>LvT.keeps a y _ _ s.keeps
 e4:=s _ _ x.e4
 e5:=s _ _ x.e5
 e6:=s _ _ x.e6
 hr:=s _ _ x.hr
 rl:=x.rl
 p8:=x.p8
 k4:=x.k4
 d0:=x.d0
 d14:=x.d14
 rd:=x.rd
 pa:=x.pa
 ru:=x.ru.imp fun a y=>RuT.keeps a y _ _ s.keeps
 r8:=x.r8
 pr:=x.pr.imp fun a y=>PrT.keeps a y _ _ s.keeps
 q8:=x.q8
 pi:=x.pi
theorem Fx.rota {P : Program} {w : World} {K : PySem.W.Frag} {mg : Str → Option Value} {base : Heap} {C1 C2 : Addr} {H : Hp} {o : Hd} {r r2 : Addr} {rows : List (List Nat)} (x : Fx P w K mg base C1 C2 H o r rows) (h : H r2 = some (.lst (rows.map T))) : Fx P w K mg base C1 C2 H o r2 rows:={ x with hr:=h }
theorem Fx.hq {P : Program} {w : World} {K : PySem.W.Frag} {mg : Str → Option Value} {base : Heap} {C1 C2 : Addr} {H : Hp} {o : Hd} {r : Addr} {rows : List (List Nat)} (x : Fx P w K mg base C1 C2 H o r rows) : Hq C1 C2 H o.h o.dd o.ks o.nds o.ps o.ls o.u5 o.u6 :=
 ⟨_,_,_,_,_,_,_,_,_,_,x.ho,x.e1,x.nd,x.e2,x.pe,x.e3,x.lv,x.e4,x.e5,x.e6⟩
noncomputable def Four (l : List V) : Prop:=∃ a b c d,l = [a,b,c,d] ∧ l.all J09 = true
theorem J4L {ks : List Nat} {nds : List Nd} {ls : List (List Nat × Int)} {rls : List Ru} {prs : List Pr} {ps : List Ps} {rows : List (List Nat)} {f : List V} : ∀ {m : Nat},f ∈ allF ks nds ls rls prs ps rows m → Four f
 | 0,h=>by cases h
 | m + 1,h=>by
  rw [allF] at h
  rcases List.mem_append.mp h with h | h
  ·exact J4L h
  unfold dayF at h
  simp only [List.mem_append] at h
  rcases h with ((((h | h) | h) | h) | h) | h
  ·obtain ⟨a,_,rfl⟩:=List.mem_map.mp h
   exact ⟨_,_,_,_,rfl,rfl⟩
  ·obtain ⟨a,_,rfl⟩:=List.mem_map.mp h
   exact ⟨_,_,_,_,rfl,rfl⟩
  ·obtain ⟨a,_,rfl⟩:=List.mem_map.mp h
   exact ⟨_,_,_,_,rfl,rfl⟩
  ·obtain ⟨a,_,rfl⟩:=List.mem_map.mp h
   exact ⟨_,_,_,_,rfl,rfl⟩
  ·obtain ⟨l,hl,h⟩:=List.mem_flatten.mp h
   obtain ⟨a,_,rfl⟩:=List.mem_map.mp hl
   obtain ⟨i,_,rfl⟩:=List.mem_map.mp h
   exact ⟨_,_,_,_,rfl,rfl⟩
  ·obtain ⟨a,_,rfl⟩:=List.mem_map.mp h
   exact ⟨_,_,_,_,rfl,rfl⟩
noncomputable abbrev fF (a b c d : V) : List (Str × V):=[("day",a),("word",b),("who",c),("which",d)]
theorem Jf6 (a b c d : V) : List.lookup ("day" : Str) (fF a b c d) = some a:=J2I
theorem JdG (a b c d : V) : List.lookup ("word" : Str) (fF a b c d) = some b:=by rw [JN (by decide +kernel),J2I]
theorem JeI (a b c d : V) : List.lookup ("who" : Str) (fF a b c d) = some c:=by rw [JN (by decide +kernel),JN (by decide +kernel),J2I]
theorem JcY (a b c d : V) : List.lookup ("which" : Str) (fF a b c d) = some d:=by rw [JN (by decide +kernel),JN (by decide +kernel),JN (by decide +kernel),J2I]
noncomputable def JeC (C : Addr) : Sp:=fun vs H Q _=>∃ (e t : Addr) (a b c d : V),vs = [.ref e,a,b,c,d] ∧ H e = some (XN e C t none) ∧
 ∀ (dx : Addr) (H' : Hp),H dx = none → dx ≠ e → H' e = some (XN e C t (some dx)) → H' dx = some (XDt dx (fF a b c d)) → (∀ x,x ≠ e → x ≠ dx → H' x = H x) → Q .non H'
noncomputable def Jbw (P : Program) (w : World) (K : PySem.W.Frag) (mg : Str → Option Value) (base : Heap) (C1 C2 CF : Addr) : Sp:=fun vs H Q E=>∃ (o : Hd) (r : Addr) (rows : List (List Nat)),vs = [.ref o.h,.ref r] ∧ Fx P w K mg base C1 C2 H o r rows ∧
 (o.F rows = [] → ∀ H',Same H H' → Q .non H') ∧ ∀ (a b c d : V) (fs : List (List V)),o.F rows = [a,b,c,d] :: fs → ∀ (H' : Hp) (dx : Addr),Same H H' → H' dx = some (XDt dx (fF a b c d)) → E (.ref CF) (some dx) H'
section
variable {P : Program} {w : World} {K : PySem.W.Frag} {mg : Str → Option Value} {base : Heap} {Jk Jo Ji Jp Je Js J8 J4 J6 Jf Jc Ja Jm Jg Jb J5 : Addr}
theorem J7l (tx : Tx K mg Jk Jo Ji Jp Je Js J8 J4 J6 Jf Jc Ja Jm Jg Jb J5) : MtI P w K mg base J5 1 ["self","day","word","who","which"] (JeC J5):=by
 refine tx.J71.i tx.J2R J5V (fun _ _ _ _ _ _ us hl=>match us,hl with | [_,_,_,_,_],_=>rfl) (fun vs H Q E h=>?_) (fun f cdv A outer s H vs Q E hr h=>?_)
 ·obtain ⟨e,t,a,b,c,d,rfl,_⟩:=h
  rfl
 ·obtain ⟨e,t,a,b,c,d,rfl,he,q⟩:=h
  refine ⟨_,(J3 (J5O (pv 0) (pv 1) rfl)
   (J3 (J5O (pv 0) (pv 2) rfl)
   (J3 (J5O (pv 0) (pv 3) rfl)
   (Jl (J5O (pv 0) (pv 4) rfl))))),?_⟩
  walk_at "st"
  refine ⟨_,rfl,_,rfl,e,J5,t,rfl,tx.J2R,tx.J1P,.inl ⟨he,fun dx nd ne=>?_⟩⟩
  have k0 : ∀ x,x ≠ e → x ≠ dx → upd (upd (upd H dx (XDt dx [])) e (XN e J5 t (some dx))) dx (XDt dx [("day",a)]) x = H x:=fun x h1 h2=>by rw [Jn h2,Jn h1,Jn h2]
  have e0 : upd (upd (upd H dx (XDt dx [])) e (XN e J5 t (some dx))) dx (XDt dx [("day",a)]) e = some (XN e J5 t (some dx)):=by rw [Jn (Ne.symm ne),Jd]
  have d0 : upd (upd (upd H dx (XDt dx [])) e (XN e J5 t (some dx))) dx (XDt dx [("day",a)]) dx = some (XDt dx [("day",a)]):=Jd
  generalize upd (upd (upd H dx (XDt dx [])) e (XN e J5 t (some dx))) dx (XDt dx [("day",a)]) = H0 at k0 e0 d0 ⊢
  refine ⟨_,rfl,_,rfl,e,J5,t,rfl,tx.J2R,tx.J1r,.inr ⟨dx,_,e0,d0,ne,(by show 1 < 1000; decide),?_⟩⟩
  rw [putN (fs:=[("day",a)]) (show ∀ g ∈ [("day" : Str)],g ≠ "word" from by decide +kernel)]
  refine ⟨_,rfl,_,rfl,e,J5,t,rfl,tx.J2R,tx.J1R,.inr ⟨dx,_,by rw [Jn (Ne.symm ne)]; exact e0,Jd,ne,(by show 2 < 1000; decide),?_⟩⟩
  rw [putN (fs:=[(("day" : Str),a)] ++ [(("word" : Str),b)]) (show ∀ g ∈ [("day" : Str),"word"],g ≠ "who" from by decide +kernel)]
  refine ⟨_,rfl,_,rfl,e,J5,t,rfl,tx.J2R,tx.J10,.inr ⟨dx,_,by rw [Jn (Ne.symm ne),Jn (Ne.symm ne)]; exact e0,Jd,ne,(by show 3 < 1000; decide),?_⟩⟩
  rw [putN (fs:=[(("day" : Str),a)] ++ [(("word" : Str),b)] ++ [(("who" : Str),c)]) (show ∀ g ∈ [("day" : Str),"word","who"],g ≠ "which" from by decide +kernel)]
  refine q dx _ nd ne (by rw [Jn (Ne.symm ne),Jn (Ne.symm ne),Jn (Ne.symm ne)]; exact e0) Jd fun x h1 h2=>?_
  rw [Jn h2,Jn h2,Jn h2]
  exact k0 x h1 h2
end
section
variable {P : Program} {w : World} {K : PySem.W.Frag} {mg : Str → Option Value} {base : Heap} {Jk Jo Ji Jp Je Js J8 J4 J6 Jf Jc Ja Jm Jg Jb J5 : Addr}
theorem J5J (tx : Tx K mg Jk Jo Ji Jp Je Js J8 J4 J6 Jf Jc Ja Jm Jg Jb J5) : FnY P w K mg base "refuse_faults" 13 ["house","rota"] (Jbw P w K mg base J8 J4 J5):=by
 have J3K:=J9c (P:=P) (w:=w) (base:=base) tx
 have J4c:=J7l (P:=P) (w:=w) (base:=base) tx
 refine tx.J5K.y J2s (fun _ _ _ _ _ _ us hl=>match us,hl with | [_,_],_=>rfl) (fun vs H Q E h=>?_) (fun f cdv A outer s H vs Q E hr h=>?_)
 ·obtain ⟨o,r,rows,rfl,_⟩:=h
  rfl
 ·obtain ⟨o,r,rows,rfl,hx,q0,q1⟩:=h
  refine ⟨_,(J3 (Jr (i:=2) J2s.nd rfl (Or.inl rfl) (JQ J3K (hr.mono (by decide)) (J0 (pv 0) (J0 (pv 1) J7))))
   (Jl (J03 (Jd1 (pv 2) (fun _=>rfl)) (J3 (Jr (i:=3) J2s.nd rfl (Or.inl rfl) (JF (JH (K:=K) rfl) (pv 2) Jh (fun _ _=>rfl)))
   (Jl (Jcb J5I J4c (hr.mono (by decide)) tx.J6x (J0 (JF (J1v (K:=K) rfl) (pv 3) Jh (fun _ _=>rfl)) (J0 (JF (J1v (K:=K) rfl) (pv 3) Jh (fun _ _=>rfl)) (J0 (JF (J1v (K:=K) rfl) (pv 3) Jh (fun _ _=>rfl)) (J0 (JF (J1v (K:=K) rfl) (pv 3) Jh (fun _ _=>rfl)) J7))))))) JI))),?_⟩
  walk_at "st"
  clear J3K J4c
  walk_at "rd"
  refine ⟨hx.hq,hx.hr,hx.rl,hx.p8,hx.k4,hx.d0,hx.d14,hx.rd,hx.pa,hx.ru,hx.r8,hx.pr,hx.q8,hx.pi,fun D H1 ys s1 nD hD (hA : All2 TpV H1 (o.F rows) ys)=>?_⟩
  have hS : SqL K H1 D ys:=SqL.of hD
  have all4 : ∀ f ∈ o.F rows,Four f:=fun f h=>J4L h
  generalize o.F rows = F at hA q0 q1 all4
  cases F with
  | nil =>
   cases ys with
   | cons y ys=>exact hA.elim
   | nil =>
    walk_at "rd"
    refine ⟨.inl ⟨_,hS,rfl⟩,?_⟩
    refine ite2 (fun z=>nomatch z) (fun _=>?_)
    exact q0 rfl H1 s1
  | cons g fs =>
   cases ys with
   | nil=>exact hA.elim
   | cons y ys =>
    obtain ⟨⟨t,rfl,ht⟩,hA'⟩:=hA
    obtain ⟨a,b,c,d,rfl,hf⟩:=all4 _ List.mem_cons_self
    have i0 : atI (V.ref t :: ys) 0 = some (V.ref t):=J05 (j:=0) rfl
    have t0 : atI [a,b,c,d] 0 = some a:=rfl
    have t1 : atI [a,b,c,d] 1 = some b:=rfl
    have t2 : atI [a,b,c,d] 2 = some c:=rfl
    have t3 : atI [a,b,c,d] 3 = some d:=rfl
    have hT : SqT K H1 t [a,b,c,d]:=SqT.of ht
    walk_at "rd"
    refine ⟨.inl ⟨_,hS,rfl⟩,?_⟩
    refine ite2 (fun _=>?_) (fun z=>absurd rfl z)
    walk_at "rd"
    intro e u ne nu hue
    refine ⟨e,u,a,b,c,d,rfl,Jd,fun dx H2 nd hde he2 hd2 k2=>⟨rfl,some dx,he2,?_⟩⟩
    refine q1 a b c d fs rfl (less H2 e) dx (fun x ob hxo=>?_) (by rw [J2D hde]; exact hd2)
    have h1:=s1 _ _ hxo
    have x1 : x ≠ e:=Jj h1 ne
    have x2 : x ≠ u:=Jj h1 nu
    have x3 : x ≠ dx:=Jj h1 (J2z nd)
    rw [J2D x1,k2 x x1 x3,Jn x1,Jn x2]
    exact h1
end
theorem Fx.rows {P : Program} {w : World} {K : PySem.W.Frag} {mg : Str → Option Value} {base : Heap} {C1 C2 : Addr} {H : Hp} {o : Hd} {r r2 : Addr} {rows R : List (List Nat)} (x : Fx P w K mg base C1 C2 H o r rows) (h : H r2 = some (.lst (R.map T))) (l : R.length = rows.length) (d : ∀ r ∈ R,(r.length : Int) = o.dd) : Fx P w K mg base C1 C2 H o r2 R:={ x with hr:=h,rl:=l.trans x.rl,rd:=d }
noncomputable def Jfo (C1 C2 CN : Addr) : Sp:=fun vs H Q E=>∃ (h : Addr) (nm : List Nat) (nms : List (List Nat)),vs = [.ref h,T nm] ∧ HouN C1 C2 H h nms ∧ (∀ (k : Nat) (H' : Hp),nms[k]? = some nm → Same H H' → Q (.int k) H') ∧ (¬ nm ∈ nms → ∀ H',Same H H' → E (.ref CN) none H')
noncomputable def rwF (row : List Nat) (day : Int) (m : Nat) : List Nat:=cutN row none (some day) ++ [m] ++ cutN row (some (day + 1)) none
noncomputable def swR (rows : List (List Nat)) (i j : Nat) (day : Int) : List (List Nat):=(rows.set i (rwF (rows.getD i []) day (mkA (rows.getD j []) day))).set j (rwF (rows.getD j []) day (mkA (rows.getD i []) day))
theorem Jb3 {row : List Nat} {day : Int} {m : Nat} (h0 : 0 ≤ day) (h1 : day < (row.length : Int)) : (rwF row day m).length = row.length:=by
 unfold rwF
 rw [Jaz _ _ h0,J4J _ _ (by omega),List.length_append,List.length_append,List.length_singleton,List.length_take,List.length_drop]
 omega
theorem J8A (rows : List (List Nat)) (i j : Nat) (day : Int) : (swR rows i j day).length = rows.length:=by unfold swR; rw [List.length_set,List.length_set]
theorem Jbf {rows : List (List Nat)} {i j : Nat} {day dd : Int} (hi : i < rows.length) (hj : j < rows.length) (h0 : 0 ≤ day) (h1 : day < dd) (hr : ∀ r ∈ rows,(r.length : Int) = dd) : ∀ r ∈ swR rows i j day,(r.length : Int) = dd:=fun r h=>by
 have gi : rows.getD i [] ∈ rows:=by rw [List.getD_eq_getElem?_getD,List.getElem?_eq_getElem hi]; exact List.getElem_mem hi
 have gj : rows.getD j [] ∈ rows:=by rw [List.getD_eq_getElem?_getD,List.getElem?_eq_getElem hj]; exact List.getElem_mem hj
 have li:=hr _ gi
 have lj:=hr _ gj
 unfold swR at h
 rcases List.mem_or_eq_of_mem_set h with z | z
 ·rcases List.mem_or_eq_of_mem_set z with y | y
  ·exact hr r y
  ·rw [y,Jb3 h0 (by omega)]; exact li
 ·rw [z,Jb3 h0 (by omega)]; exact lj
inductive Oc where
 | nam
 | day
 | flt (f : List V)
 | rota (rows : List (List Nat))
noncomputable def nmsO (o : Hd) : List (List Nat):=o.ps.map (·.nm)
noncomputable def Jdo (o : Hd) : Prop:=∀ (i j : Nat) (n : List Nat),(nmsO o)[i]? = some n → (nmsO o)[j]? = some n → i = j
noncomputable def SwOc (o : Hd) (rows : List (List Nat)) (nm ot : List Nat) (day : Int) : Oc → Prop
 | .nam=>¬ nm ∈ nmsO o ∨ ¬ ot ∈ nmsO o
 | .day=>nm ∈ nmsO o ∧ ot ∈ nmsO o ∧ (day < 0 ∨ o.dd ≤ day)
 | .flt f=>∃ i j fs,(nmsO o)[i]? = some nm ∧ (nmsO o)[j]? = some ot ∧ 0 ≤ day ∧ day < o.dd ∧ o.F (swR rows i j day) = f :: fs
 | .rota R=>∃ i j,(nmsO o)[i]? = some nm ∧ (nmsO o)[j]? = some ot ∧ 0 ≤ day ∧ day < o.dd ∧ o.F (swR rows i j day) = [] ∧ R = swR rows i j day
noncomputable def OcQ (CN CD CF : Addr) (H : Hp) (Q : VK) (E : XK) : Oc → Prop
 | .nam=>∀ H',Same H H' → E (.ref CN) none H'
 | .day=>∀ H',Same H H' → E (.ref CD) none H'
 | .flt f=>∀ (a b c d : V),f = [a,b,c,d] → ∀ (H' : Hp) (dx : Addr),Same H H' → H' dx = some (XDt dx (fF a b c d)) → E (.ref CF) (some dx) H'
 | .rota R=>∀ (D : Addr) (H' : Hp),Same H H' → H D = none → H' D = some (.lst (R.map T)) → Q (.ref D) H'
noncomputable def JeE : Sp:=fun vs H Q _=>∃ (row : List Nat) (day : Int) (m : Nat),vs = [T row,.int day,T [m]] ∧ row.length ≤ 50 ∧ 0 ≤ day ∧ day < (row.length : Int) ∧ Q (T (rwF row day m)) H
noncomputable def JdE (C1 C2 CD : Addr) : Sp:=fun vs H Q E=>∃ (h : Addr) (day dd : Int) (ks : List Nat) (a1 a2 a3 a4 a5 a6 : Addr),vs = [.ref h,.int day,.int 0] ∧ J4R C2 H h dd ks a1 a2 a3 a4 a5 a6 ∧ (0 ≤ day → day < dd → Q .non H) ∧ (day < 0 ∨ dd ≤ day → E (.ref CD) none H)
noncomputable def Jez (P : Program) (w : World) (K : PySem.W.Frag) (mg : Str → Option Value) (base : Heap) (C1 C2 CN CD CF : Addr) : Sp:=fun vs H Q E=>∃ (o : Hd) (r : Addr) (rows : List (List Nat)) (nm ot : List Nat) (day : Int) (oc : Oc),vs = [.ref o.h,.ref r,T nm,T ot,.int day] ∧ Fx P w K mg base C1 C2 H o r rows ∧ Jdo o ∧ SwOc o rows nm ot day oc ∧ OcQ CN CD CF H Q E oc
section
variable {P : Program} {w : World} {K : PySem.W.Frag} {mg : Str → Option Value} {base : Heap} {Jk Jo Ji Jp Je Js J8 J4 J6 Jf Jc Ja Jm Jg Jb J5 : Addr}
local macro_rules | `(tactic| walk_at "lk")=>`(tactic| first | exact J2B _ _ _ _ _ | exact J28 _ _ _ _ _ _ _ _ | exact J4I _ _ _ _ _ _ _ _ | exact J3c _ _ _ _ _ _ _ _)
theorem J9F (tx : Tx K mg Jk Jo Ji Jp Je Js J8 J4 J6 Jf Jc Ja Jm Jg Jb J5) : MtY P w K mg base J4 "place_of" 1 ["self","name"] (Jfo J8 J4 Ja):=by
 refine tx.J3k.y tx.J00.cl J0k (fun _ _ _ _ _ _ us hl=>match us,hl with | [_,_],_=>rfl) (fun vs H Q E h=>?_) (fun f cdv A outer s H vs Q E hr h=>?_)
 ·obtain ⟨h,nm,nms,rfl,_⟩:=h
  rfl
 ·obtain ⟨h,nm,nms,rfl,hC,qy,qn⟩:=h
  refine ⟨_,(J3 (J0I J5I.own rfl (J3q (K:=K) rfl rfl tx.J0P (J0 (Jz (K:=K) rfl (pv 0) rfl) J7)) (J33 rfl (JY (JD (i:=2) J0k.nd rfl (Or.inl rfl)) (JY (JD (i:=3) J0k.nd rfl (Or.inl rfl)) J2l))) (Jl (J03 (Jw J0j (Jz (K:=K) rfl (pv 3) rfl) (pv 1) (JA _)) (Jl (Jx (pv 2))) JI)))
   (Jl (J7x J5I tx.J3i tx.J6b (J0 (JE (l:=[110,111,32,112,101,114,115,111,110,32,111,102,32,116,104,101,32,104,111,117,115,101,32,105,115,32,99,97,108,108,101,100,32,115,111]) (by decide +kernel)) J7)))),?_⟩
  obtain ⟨d,kk,a1,a2,a3,a4,a5,a6,qs,⟨dx,h1⟩,h2,h3⟩:=hC
  have cH:=tx.J00.cl
  have nH:=tx.JV
  have cP:=tx.J0d.cl
  have nP:=tx.JM
  walk_at "rd"
  refine J44 (K:=K) (xs:=qs) (fun i σ H2=>Here (∃ v1 v2,σ = [some (.ref h),some (T nm),v1,v2] ∧ (∀ j < i,¬ nms[j]? = some nm) ∧ Same H H2)) (Here.mk ⟨none,none,rfl,fun j z=>absurd z (Nat.not_lt_zero _),Same.refl _⟩) (fun i σ H2 _ hv=>by obtain ⟨_,_,_,_,s2⟩:=hv.out; exact SqL.of (s2 _ _ h2)) ?_ ?_
  ·rintro i x p σ H2 hx hp hv
   obtain ⟨v1,v2,rfl,hi,s2⟩:=hv.out
   obtain ⟨n2,hn2,p1,sk,m,c,pa,rfl,dx2,hp2⟩:=h3.back hx
   have s3 : Same H2 (upd H2 p (.tup [.int i,.ref p1])):=Jy hp _
   have hp3:=s3 _ _ (s2 _ _ hp2)
   walk_at "rd"
   refine ite2 (fun e=>?_) (fun e=>?_)
   ·have e' : n2 = nm:=J2N (of_decide_eq_true e)
    subst e'
    walk_at "rd"
    exact qy i _ hn2 (s2.trans s3)
   ·have e' : ¬ n2 = nm:=fun z=>e (decide_eq_true (by rw [z]))
    refine Here.mk ⟨_,_,rfl,fun j hj z=>?_,s2.trans s3⟩
    rcases Nat.lt_or_ge j i with y | y
    ·exact hi j y z
    ·have : j = i:=by omega
     subst this
     rw [z] at hn2
     exact e' (Option.some.inj hn2).symm
  ·rintro σ H2 hv
   obtain ⟨v1,v2,rfl,hi,s2⟩:=hv.out
   have hl:=h3.len
   refine ⟨by show 1 ≤ sizeLine; decide,qn (fun z=>?_) H2 s2⟩
   obtain ⟨j,hj⟩:=List.getElem?_of_mem z
   exact hi j (by have:=(List.getElem?_eq_some_iff.mp hj).1; omega) hj
theorem Ja8 (tx : Tx K mg Jk Jo Ji Jp Je Js J8 J4 J6 Jf Jc Ja Jm Jg Jb J5) : FnG P w K mg base "row_with" 1 ["row","day","mark"] JeE:=by
 refine tx.J9Y.g J9i (fun _ _ _ _ _ _ us hl=>match us,hl with | [_,_,_],_=>rfl) (fun vs H Q E h=>?_) (fun f cdv A outer s H vs Q E hr h=>?_)
 ·obtain ⟨row,day,m,rfl,_⟩:=h
  rfl
 ·obtain ⟨row,day,m,rfl,hl,h0,h1,q⟩:=h
  refine ⟨_,(Jl (Jx (Jq J0c (Jq J0c (J0v J2m (pv 0) J18 (J0Q (pv 1))) (pv 2)) (J0v J2m (pv 0) (J0Q (Jq JU (pv 1) Jh)) J18)))),?_⟩
  walk_at "st"
  have c1:=J17 row none (some day)
  have c2:=J17 row (some (day + 1)) none
  have c1' : (cutN row none (some day)).length ≤ 100:=by omega
  have c2' : (cutN row (some (day + 1)) none).length ≤ 100:=by omega
  have c3 : (cutN row none (some day) ++ [m]).length ≤ 100:=by rw [List.length_append,List.length_singleton]; omega
  walk_at "rd"
  exact q
theorem J7R (tx : Tx K mg Jk Jo Ji Jp Je Js J8 J4 J6 Jf Jc Ja Jm Jg Jb J5) : FnY P w K mg base "refuse_day" 1 ["house","day","first"] (JdE J8 J4 Jf):=by
 refine tx.J7X.y J75 (fun _ _ _ _ _ _ us hl=>match us,hl with | [_,_,_],_=>rfl) (fun vs H Q E h=>?_) (fun f cdv A outer s H vs Q E hr h=>?_)
 ·obtain ⟨h,day,dd,ks,a1,a2,a3,a4,a5,a6,rfl,_⟩:=h
  rfl
 ·obtain ⟨h,day,dd,ks,a1,a2,a3,a4,a5,a6,rfl,⟨dx,hh⟩,q0,q1⟩:=h
  refine ⟨_,(Jl (J03 (PW.pt (J6M (Jw J7M (pv 1) (pv 2) (JA _)) (J4m (Jw JfQ (pv 1) (Jz (K:=K) rfl (pv 0) rfl) (JA _))))) (Jl (J7x J5I tx.J3J tx.J7U (J0 (JE (l:=[116,104,101,32,100,97,121,32,105,115,32,110,111,110,101,32,111,102,32,116,104,111,115,101,32,116,104,97,116,32,109,97,121,32,98,101,32,116,111,108,100]) (by decide +kernel)) J7))) JI)),?_⟩
  walk_at "st"
  have hcl:=tx.J00.cl
  have m1:=tx.J0N
  walk_at "rd"
  refine ite2 (fun c=>?_) (fun c=>?_)
  ·refine ite2 (fun _=>?_) (fun z=>absurd rfl z)
   exact ⟨by show 1 ≤ sizeLine; decide,q1 (.inl (of_decide_eq_true c))⟩
  have c' : ¬ day < 0:=fun z=>c (decide_eq_true z)
  walk_at "rd"
  refine ite2 (fun e=>?_) (fun e=>?_)
  ·exact ⟨by show 1 ≤ sizeLine; decide,q1 (.inr (of_decide_eq_true e))⟩
  ·have e' : ¬ dd ≤ day:=fun z=>e (decide_eq_true z)
   exact q0 (by omega) (by omega)
end
section
variable {P : Program} {w : World} {K : PySem.W.Frag} {mg : Str → Option Value} {base : Heap} {Jk Jo Ji Jp Je Js J8 J4 J6 Jf Jc Ja Jm Jg Jb J5 : Addr}
local macro_rules | `(tactic| walk_at "lk")=>`(tactic| first | exact J2B _ _ _ _ _ | exact J28 _ _ _ _ _ _ _ _ | exact J4I _ _ _ _ _ _ _ _ | exact J3c _ _ _ _ _ _ _ _)
theorem Jb2 {rows : List (List Nat)} {i : Nat} {row : List Nat} (h : rows[i]? = some row) : rows.getD i [] = row:=by rw [List.getD_eq_getElem?_getD,h]; rfl
theorem JbD (tx : Tx K mg Jk Jo Ji Jp Je Js J8 J4 J6 Jf Jc Ja Jm Jg Jb J5) : FnY P w K mg base "swapped" 14 ["house","rota","name","other","day"] (Jez P w K mg base J8 J4 Ja Jf J5):=by
 have GY_place_of:=J9F (P:=P) (w:=w) (base:=base) tx
 have J4h:=Ja8 (P:=P) (w:=w) (base:=base) tx
 have J4z:=J7R (P:=P) (w:=w) (base:=base) tx
 have J3D:=J5J (P:=P) (w:=w) (base:=base) tx
 refine tx.JbF.y J3u (fun _ _ _ _ _ _ us hl=>match us,hl with | [_,_,_,_,_],_=>rfl) (fun vs H Q E h=>?_) (fun f cdv A outer s H vs Q E hr h=>?_)
 ·obtain ⟨o,r,rows,nm,ot,day,oc,rfl,_⟩:=h
  rfl
 ·obtain ⟨o,r,rows,nm,ot,day,oc,rfl,hx,hu,hoc,q⟩:=h
  refine ⟨_,(J3 (Jr (i:=5) J3u.nd rfl (Or.inl rfl) (Jdg GY_place_of (hr.mono (by decide)) J5I.pass (pv 0) (J0 (pv 2) J7)))
   (J3 (Jr (i:=6) J3u.nd rfl (Or.inl rfl) (Jdg GY_place_of (hr.mono (by decide)) J5I.pass (pv 0) (J0 (pv 3) J7)))
   (J3 (J1W (Jct J4z (hr.mono (by decide)) J5I.pass (J0 (pv 0) (J0 (pv 4) (J0 Jh J7)))))
   (J3 (Jr (i:=7) J3u.nd rfl (Or.inl rfl) (J0M J0g rfl tx.J1Y J0q (J0 (pv 1) J7)))
   (J3 (J5y (JQ J4h (hr.mono (by decide)) (J0 (JF (JH (K:=K) rfl) (pv 1) (pv 5) (fun _ _=>rfl)) (J0 (pv 4) (J0 (JF J0x (JF (JH (K:=K) rfl) (pv 1) (pv 6) (fun _ _=>rfl)) (pv 4) (fun _ _=>rfl)) J7)))) (J6G (pv 7) (pv 5) J3Q))
   (J3 (J5y (JQ J4h (hr.mono (by decide)) (J0 (JF (JH (K:=K) rfl) (pv 1) (pv 6) (fun _ _=>rfl)) (J0 (pv 4) (J0 (JF J0x (JF (JH (K:=K) rfl) (pv 1) (pv 5) (fun _ _=>rfl)) (pv 4) (fun _ _=>rfl)) J7)))) (J6G (pv 7) (pv 6) J3Q))
   (J3 (J1W (Jct J3D (hr.mono (by decide)) J5I.pass (J0 (pv 0) (J0 (pv 7) J7))))
   (Jl (Jx (pv 7)))))))))),?_⟩
  walk_at "st"
  clear GY_place_of J4h J4z J3D
  obtain ⟨dx,hh⟩:=id hx.ho
  have hN : HouN J8 J4 H o.h (nmsO o):=hx.hq.n
  walk_at "rd"
  refine ⟨fun i H1 hi s1=>?_,fun hno H1 s1=>?_⟩
  rotate_left
  ·cases oc with
   | nam=>exact q H1 s1
   | day=>exact absurd hoc.1 hno
   | flt f =>
    obtain ⟨i,j,fs,hi,_⟩:=hoc
    exact absurd (List.mem_of_getElem? hi) hno
   | rota R =>
    obtain ⟨i,j,hi,_⟩:=hoc
    exact absurd (List.mem_of_getElem? hi) hno
  have hx1:=hx.same s1
  have hh1:=s1 _ _ hh
  have hN1 : HouN J8 J4 H1 o.h (nmsO o):=hx1.hq.n
  clear hh hN
  walk_at "rd"
  refine ⟨fun j H2 hj s2=>?_,fun hno H2 s2=>?_⟩
  rotate_left
  ·cases oc with
   | nam=>exact q H2 (s1.trans s2)
   | day=>exact absurd hoc.2.1 hno
   | flt f =>
    obtain ⟨_,j,fs,_,hj,_⟩:=hoc
    exact absurd (List.mem_of_getElem? hj) hno
   | rota R =>
    obtain ⟨_,j,_,hj,_⟩:=hoc
    exact absurd (List.mem_of_getElem? hj) hno
  have s12:=s1.trans s2
  have hx2:=hx.same s12
  have hh2:=s2 _ _ hh1
  have hH2:=hx2.ho
  clear hh1 hN1
  have mi:=List.mem_of_getElem? hi
  have mj:=List.mem_of_getElem? hj
  walk_at "rd"
  refine ⟨fun h0 h1=>?_,fun hb=>?_⟩
  rotate_left
  ·cases oc with
   | nam=>exact absurd hoc (by intro z; rcases z with z | z; exact z mi; exact z mj)
   | day=>exact q H2 s12
   | flt f =>
    obtain ⟨_,_,_,_,_,z0,z1,_⟩:=hoc
    exact absurd hb (by omega)
   | rota R =>
    obtain ⟨_,_,_,_,z0,z1,_⟩:=hoc
    exact absurd hb (by omega)
  have nl : (nmsO o).length = rows.length:=by unfold nmsO; rw [List.length_map]; exact hx.rl.symm
  have il : i < rows.length:=by have:=(List.getElem?_eq_some_iff.mp hi).1; omega
  have jl : j < rows.length:=by have:=(List.getElem?_eq_some_iff.mp hj).1; omega
  have ri : rows[i]? = some (rows[i]'il):=List.getElem?_eq_getElem il
  generalize rows[i]'il = ra at ri
  have rj : rows[j]? = some (rows[j]'jl):=List.getElem?_eq_getElem jl
  generalize rows[j]'jl = rb at rj
  have la:=hx.rd ra (List.mem_of_getElem? ri)
  have lb:=hx.rd rb (List.mem_of_getElem? rj)
  have d14:=hx.d14
  have aI : atI (rows.map T) (i : Int) = some (T ra):=J05 (by rw [List.getElem?_map,ri]; rfl)
  have aJ : atI (rows.map T) (j : Int) = some (T rb):=J05 (by rw [List.getElem?_map,rj]; rfl)
  have xa : atI ra day = some (mkA ra day):=by
   have e : ra[day.toNat]? = some (mkA ra day):=by unfold mkA; rw [List.getD_eq_getElem?_getD,List.getElem?_eq_getElem (by omega)]; rfl
   have:=J05 e
   rwa [Int.toNat_of_nonneg h0] at this
  have xb : atI rb day = some (mkA rb day):=by
   have e : rb[day.toNat]? = some (mkA rb day):=by unfold mkA; rw [List.getD_eq_getElem?_getD,List.getElem?_eq_getElem (by omega)]; rfl
   have:=J05 e
   rwa [Int.toNat_of_nonneg h0] at this
  have ra50 : ra.length ≤ 50:=by omega
  have rb50 : rb.length ≤ 50:=by omega
  have da : day < (ra.length : Int):=by omega
  have db : day < (rb.length : Int):=by omega
  have r2:=hx2.hr
  walk_at "rd"
  intro D nD
  obtain ⟨H3,e3,hD,s3⟩:=newl (xs:=rows.map T) nD
  rw [← e3]
  clear e3
  have nDr : r ≠ D:=Jj r2 nD
  have r3:=s3 _ _ r2
  have ixi : ixN (rows.map T).length (i : Int) = some i:=by unfold ixN; rw [List.length_map,if_pos (by omega),if_pos (by omega),Int.toNat_natCast]
  have ixj : ixN ((rows.map T).set i (T (rwF ra day (mkA rb day)))).length (j : Int) = some j:=by unfold ixN; rw [List.length_set,List.length_map,if_pos (by omega),if_pos (by omega),Int.toNat_natCast]
  have r4 : upd H3 D (.lst ((rows.map T).set i (T (rwF ra day (mkA rb day))))) r = some (.lst (rows.map T)):=by rw [Jn nDr]; exact r3
  have d4 : upd H3 D (.lst ((rows.map T).set i (T (rwF ra day (mkA rb day))))) D = some (.lst ((rows.map T).set i (T (rwF ra day (mkA rb day))))):=Jd
  have eS : ((rows.map T).set i (T (rwF ra day (mkA rb day)))).set j (T (rwF rb day (mkA ra day))) = (swR rows i j day).map T:=by
   unfold swR
   rw [Jb2 ri,Jb2 rj,List.map_set,List.map_set]
  have s4 : Same H2 (upd (upd H3 D (.lst ((rows.map T).set i (T (rwF ra day (mkA rb day)))))) D (.lst (((rows.map T).set i (T (rwF ra day (mkA rb day)))).set j (T (rwF rb day (mkA ra day)))))):=(s3.upd nD).upd nD
  have d5 : upd (upd H3 D (.lst ((rows.map T).set i (T (rwF ra day (mkA rb day)))))) D (.lst (((rows.map T).set i (T (rwF ra day (mkA rb day)))).set j (T (rwF rb day (mkA ra day))))) D = some (.lst ((swR rows i j day).map T)):=by rw [Jd,eS]
  have hx5:=(hx2.same s4).rows d5 (J8A _ _ _ _) (Jbf il jl h0 h1 hx.rd)
  have fD : H D = none:=s12.free nD
  walk_at "rd"
  refine ⟨fun hF H6 s6=>?_,fun a b c d fs hF H6 dx6 s6 hd6=>?_⟩
  ·walk_at "rd"
   cases oc with
   | nam=>exact absurd hoc (by intro z; rcases z with z | z; exact z mi; exact z mj)
   | day=>exact absurd hoc.2.2 (by omega)
   | flt f =>
    obtain ⟨i',j',fs,hi',hj',_,_,hF'⟩:=hoc
    rw [hu _ _ _ hi' hi,hu _ _ _ hj' hj,hF] at hF'
    cases hF'
   | rota R =>
    obtain ⟨i',j',hi',hj',_,_,hF',hR⟩:=hoc
    rw [hu _ _ _ hi' hi,hu _ _ _ hj' hj] at hR
    exact q D H6 ((s12.trans s4).trans s6) fD (by rw [hR]; exact s6 _ _ d5)
  ·cases oc with
   | nam=>exact absurd hoc (by intro z; rcases z with z | z; exact z mi; exact z mj)
   | day=>exact absurd hoc.2.2 (by omega)
   | flt f =>
    obtain ⟨i',j',fs',hi',hj',_,_,hF'⟩:=hoc
    rw [hu _ _ _ hi' hi,hu _ _ _ hj' hj,hF] at hF'
    have e:=(List.cons.inj hF').1
    exact q a b c d e.symm H6 dx6 ((s12.trans s4).trans s6) hd6
   | rota R =>
    obtain ⟨i',j',hi',hj',_,_,hF',_⟩:=hoc
    rw [hu _ _ _ hi' hi,hu _ _ _ hj' hj,hF] at hF'
    cases hF'
end
noncomputable abbrev Jen : List Nat:=[110,111,110,101]
noncomputable abbrev JdZ : List Nat:=[102,97,117,108,116,121]
noncomputable abbrev Jfz : List Nat:=[114,111,116,97]
noncomputable def OcAt (H : Hp) (t l : Addr) : Oc → Prop
 | .nam=>H t = some (.tup [T Jen,.ref l]) ∧ H l = some (.lst [.bl true,.bl false,.bl false])
 | .day=>H t = some (.tup [T Jen,.ref l]) ∧ H l = some (.lst [.bl false,.bl true,.bl false])
 | .flt f=>H t = some (.tup [T JdZ,.ref l]) ∧ ∃ u,H l = some (.lst [.ref u]) ∧ H u = some (.tup f)
 | .rota R=>H t = some (.tup [T Jfz,.ref l]) ∧ H l = some (.lst (R.map T))
noncomputable def Jdv (P : Program) (w : World) (K : PySem.W.Frag) (mg : Str → Option Value) (base : Heap) (C1 C2 : Addr) : Sp:=fun vs H Q _=>∃ (o : Hd) (r : Addr) (rows : List (List Nat)) (nm ot : List Nat) (day : Int) (oc : Oc),vs = [.ref o.h,.ref r,T nm,T ot,.int day] ∧ Fx P w K mg base C1 C2 H o r rows ∧ Jdo o ∧ SwOc o rows nm ot day oc ∧
 ∀ (t l : Addr) (H' : Hp),Same H H' → H l = none → OcAt H' t l oc → Q (.ref t) H'
section
variable {P : Program} {w : World} {K : PySem.W.Frag} {mg : Str → Option Value} {base : Heap} {Jk Jo Ji Jp Je Js J8 J4 J6 Jf Jc Ja Jm Jg Jb J5 : Addr}
local macro_rules | `(tactic| walk_at "lk")=>`(tactic| first | exact Jf6 _ _ _ _ | exact JdG _ _ _ _ | exact JeI _ _ _ _ | exact JcY _ _ _ _)
theorem J9X (tx : Tx K mg Jk Jo Ji Jp Je Js J8 J4 J6 Jf Jc Ja Jm Jg Jb J5) : FnG P w K mg base "_law_came" 15 ["_law_house","_law_rota","_law_name_here","_law_other","_law_day"] (Jdv P w K mg base J8 J4):=by
 have J7t:=JbD (P:=P) (w:=w) (base:=base) tx
 refine tx.Jal.g J1B (fun _ _ _ _ _ _ us hl=>match us,hl with | [_,_,_,_,_],_=>rfl) (fun vs H Q E h=>?_) (fun f cdv A outer s H vs Q E hr h=>?_)
 ·obtain ⟨o,r,rows,nm,ot,day,oc,rfl,_⟩:=h
  rfl
 ·obtain ⟨o,r,rows,nm,ot,day,oc,rfl,hx,hu,hoc,q⟩:=h
  refine ⟨_,(J3 (Jr (i:=5) J1B.nd rfl (Or.inl rfl) (J0f J7))
   (J3 (Jr (i:=6) J1B.nd rfl (Or.inl rfl) J8F)
   (J3 (JdU (i:=7) (CB:=J6) rfl rfl J1B.nd rfl rfl tx.J92 (JdH (i:=5) J1B.nd rfl (Or.inl rfl) (Jf2 J7t (hr.mono (by decide)) (J0 (pv 0) (J0 (pv 1) (J0 (pv 2) (J0 (pv 3) (J0 (pv 4) J7))))))) (fun _=>(Jl (Jr (i:=6) J1B.nd rfl (Or.inl rfl) (pv 7)))))
   (J3 (J03 (Jw Jcr (pv 6) J8F (JA _)) (Jl (Jx (J02 (J0 (JE (l:=[114,111,116,97]) (by decide +kernel)) (J0 (pv 5) J7))))) JI)
   (J3 (J03 (PW.pt (J6M (J34 (JB (J6R (K:=K) rfl) rfl tx.J04 J0z (J0 (pv 6) (J0 (J02 (J0 (J2C (v:=.ref Jc) rfl tx.Jbz rfl) (J0 (J2C (v:=.ref Jm) rfl tx.JdD rfl) (J0 (J2C (v:=.ref Jg) rfl tx.Jcm rfl) (J0 (J2C (v:=.ref Jb) rfl tx.JbE rfl) J7))))) J7)))) (J4m (J8P (J34 (JB (Jau (K:=K) rfl) rfl tx.J04 J0z (J0 (pv 6) (J0 (Jep tx.J2j J5w) J7)))))))) (Jl (Jx (J02 (J0 (JE (l:=[111,116,104,101,114]) (by decide +kernel)) (J0 (J0f J7) J7))))) JI)
   (J3 (J03 (PW.pt (J3h (J34 (JB (J42 (K:=K) rfl) rfl tx.J04 J0z (J0 (pv 6) (J0 (J2C (v:=.ref J5) rfl tx.J6x rfl) J7)))) (J3f (J8P (J34 (JB (J6R (K:=K) rfl) rfl tx.J04 J0z (J0 (pv 6) (J0 (J02 (J0 (J2C (v:=.ref Ja) rfl tx.J6b rfl) (J0 (J2C (v:=.ref Jf) rfl tx.J7U rfl) J7))) J7)))))))) (Jl (Jx (J02 (J0 (JE (l:=[102,97,117,108,116,121]) (by decide +kernel)) (J0 (J0f (J0 (J02 (J0 (J4M (K:=K) rfl (pv 6) rfl) (J0 (J4M (K:=K) rfl (pv 6) rfl) (J0 (J4M (K:=K) rfl (pv 6) rfl) (J0 (J4M (K:=K) rfl (pv 6) rfl) J7))))) J7)) J7))))) JI)
   (J3 (Jr (i:=2) J1B.nd rfl (Or.inl rfl) (JB (J42 (K:=K) rfl) rfl tx.J04 J0z (J0 (pv 6) (J0 (J2C (v:=.ref Ja) rfl tx.J6b rfl) J7))))
   (Jl (Jx (J02 (J0 (JE (l:=[110,111,110,101]) (by decide +kernel)) (J0 (J0f (J0 (pv 2) (J0 (JB (J42 (K:=K) rfl) rfl tx.J04 J0z (J0 (pv 6) (J0 (J2C (v:=.ref Jf) rfl tx.J7U rfl) J7))) (J0 (JB (J42 (K:=K) rfl) rfl tx.J04 J0z (J0 (pv 6) (J0 (J2C (v:=.ref J5) rfl tx.J6x rfl) J7))) J7)))) J7)))))))))))),?_⟩
  walk_at "st"
  clear J7t
  walk_at "rd"
  intro l0 nl0
  obtain ⟨H1,e1,hl0,s1⟩:=newl (xs:=[]) nl0
  rw [← e1]
  clear e1
  have hx1:=hx.same s1
  cases oc with
  | rota R =>
   walk_at "rd"
   intro D H2 s2 nD hD
   walk_at "rd"
   intro t nt
   exact q t D _ ((s1.trans s2).upd ((s1.trans s2).free nt)) (s1.free nD) ⟨Jd,by rw [Jn (Jj hD nt)]; exact hD⟩
  | nam =>
   walk_at "rd"
   intro H2 s2
   refine ⟨Ja,rfl,tx.J0u,fun e he=>?_⟩
   obtain ⟨H3,e3,y3,s3⟩ : ∃ H3,H3 = upd H2 e (XD e Ja none) ∧ H3 e = some (XD e Ja none) ∧ Same H2 H3:=⟨_,rfl,Jd,Jy he _⟩
   rw [← e3]
   clear e3
   have x1:=tx.JbA
   have x2:=tx.J2H
   have x3:=tx.J0i
   have x4:=tx.J12
   have x5:=tx.J0Y
   have x6:=tx.J1b
   walk_at "rd"
   intro tp ntp
   obtain ⟨H4,e4,y4,s4⟩:=newt (xs:=[V.ref Jc,V.ref Jm,V.ref Jg,V.ref Jb]) ntp
   rw [← e4]
   clear e4
   have z4:=s4 _ _ y3
   refine ⟨e,Ja,none,tp,[Jc,Jm,Jg,Jb],false,rfl,z4,x1,y4,x2,false,rfl,?_⟩
   refine iteF ?_
   walk_at "rd"
   intro l nl
   obtain ⟨H5,e5,y5,s5⟩:=newl (xs:=[V.bl true,V.bl false,V.bl false]) nl
   rw [← e5]
   clear e5
   walk_at "rd"
   intro t nt
   have s15:=(((s1.trans s2).trans s3).trans s4).trans s5
   exact q t l _ (s15.upd (s15.free nt)) ((((s1.trans s2).trans s3).trans s4).free nl) ⟨Jd,by rw [Jn (Jj y5 nt)]; exact y5⟩
  | day =>
   walk_at "rd"
   intro H2 s2
   refine ⟨Jf,rfl,tx.J0E,fun e he=>?_⟩
   obtain ⟨H3,e3,y3,s3⟩ : ∃ H3,H3 = upd H2 e (XD e Jf none) ∧ H3 e = some (XD e Jf none) ∧ Same H2 H3:=⟨_,rfl,Jd,Jy he _⟩
   rw [← e3]
   clear e3
   have x1:=tx.Jce
   have x2:=tx.J2V
   have x3:=tx.J0t
   have x4:=tx.J19
   have x5:=tx.J1a
   have x6:=tx.J1w
   walk_at "rd"
   intro tp ntp
   obtain ⟨H4,e4,y4,s4⟩:=newt (xs:=[V.ref Jc,V.ref Jm,V.ref Jg,V.ref Jb]) ntp
   rw [← e4]
   clear e4
   have z4:=s4 _ _ y3
   refine ⟨e,Jf,none,tp,[Jc,Jm,Jg,Jb],false,rfl,z4,x1,y4,x2,false,rfl,?_⟩
   refine iteF ?_
   walk_at "rd"
   intro l nl
   obtain ⟨H5,e5,y5,s5⟩:=newl (xs:=[V.bl false,V.bl true,V.bl false]) nl
   rw [← e5]
   clear e5
   walk_at "rd"
   intro t nt
   have s15:=(((s1.trans s2).trans s3).trans s4).trans s5
   exact q t l _ (s15.upd (s15.free nt)) ((((s1.trans s2).trans s3).trans s4).free nl) ⟨Jd,by rw [Jn (Jj y5 nt)]; exact y5⟩
  | flt f =>
   obtain ⟨i,j,fs,hi,hj,d0,d1,hF⟩:=id hoc
   obtain ⟨a,b,c,d,rfl,hfl⟩:=J4L (show f ∈ o.F (swR rows i j day) by rw [hF]; exact List.mem_cons_self)
   walk_at "rd"
   intro a' b' c' d' ef H2 dx s2 hd2
   cases ef
   refine ⟨J5,rfl,tx.J0s,fun e he=>?_⟩
   obtain ⟨H3,e3,y3,s3⟩ : ∃ H3,H3 = upd H2 e (XD e J5 (some dx)) ∧ H3 e = some (XD e J5 (some dx)) ∧ Same H2 H3:=⟨_,rfl,Jd,Jy he _⟩
   rw [← e3]
   clear e3
   have x1:=tx.J7v
   have x2:=tx.J2G
   have x3:=tx.J0h
   have x4:=tx.J0Z
   have x5:=tx.J2E
   have x6 : XRd K J5:=⟨tx.J7v,tx.J2R.hd⟩
   have m1:=tx.J1P
   have m2:=tx.J1r
   have m3:=tx.J1R
   have m4:=tx.J10
   walk_at "rd"
   intro tp ntp
   obtain ⟨H4,e4,y4,s4⟩:=newt (xs:=[V.ref Jc,V.ref Jm,V.ref Jg,V.ref Jb]) ntp
   rw [← e4]
   clear e4
   have z4:=s4 _ _ y3
   refine ⟨e,J5,some dx,tp,[Jc,Jm,Jg,Jb],false,rfl,z4,x1,y4,x2,false,rfl,?_⟩
   refine iteF ?_
   walk_at "rd"
   intro tq ntq
   obtain ⟨H5,e5,y5,s5⟩:=newt (xs:=[V.ref Ja,V.ref Jf]) ntq
   rw [← e5]
   clear e5
   have z5:=s5 _ _ z4
   have hd5:=((s3.trans s4).trans s5) _ _ hd2
   refine ⟨e,J5,some dx,tq,[Ja,Jf],false,rfl,z5,x1,y5,x5,false,rfl,?_⟩
   refine ite2 (fun _=>?_) (fun z=>absurd rfl z)
   walk_at "rd"
   intro u nu
   obtain ⟨H6,e6,y6,s6⟩:=newt (xs:=[a,b,c,d]) nu
   rw [← e6]
   clear e6
   walk_at "rd"
   intro l nl
   obtain ⟨H7,e7,y7,s7⟩:=newl (xs:=[V.ref u]) nl
   rw [← e7]
   clear e7
   walk_at "rd"
   intro t nt
   have s16:=((((s1.trans s2).trans s3).trans s4).trans s5).trans s6
   have s17:=s16.trans s7
   have y67:=s7 _ _ y6
   exact q t l _ (s17.upd (s17.free nt)) (s16.free nl) ⟨Jd,u,by rw [Jn (Jj y7 nt)]; exact y7,by rw [Jn (Jj y67 nt)]; exact y67⟩
end
noncomputable def Jeq (P : Program) (w : World) (K : PySem.W.Frag) (mg : Str → Option Value) (base : Heap) (C1 C2 : Addr) : Sp:=fun vs H Q _=>∃ (o : Hd) (r : Addr) (rows : List (List Nat)) (i j : Nat) (day : Int),vs = [.ref o.h,.ref r,.int (i : Int),.int (j : Int),.int day] ∧ Fx P w K mg base C1 C2 H o r rows ∧ i < rows.length ∧ j < rows.length ∧ 0 ≤ day ∧ day < o.dd ∧
 ∀ (t l : Addr) (H' : Hp) (oc : Oc),Same H H' → H l = none → OcAt H' t l oc → (oc = .rota (swR rows i j day) ∧ o.F (swR rows i j day) = [] ∨ ∃ f fs,oc = .flt f ∧ o.F (swR rows i j day) = f :: fs) → Q (.ref t) H'
section
variable {P : Program} {w : World} {K : PySem.W.Frag} {mg : Str → Option Value} {base : Heap} {Jk Jo Ji Jp Je Js J8 J4 J6 Jf Jc Ja Jm Jg Jb J5 : Addr}
theorem JbG (tx : Tx K mg Jk Jo Ji Jp Je Js J8 J4 J6 Jf Jc Ja Jm Jg Jb J5) : FnG P w K mg base "_law_due" 13 ["_law_house","_law_rota","_law_one","_law_two","_law_day"] (Jeq P w K mg base J8 J4):=by
 have J3K:=J9c (P:=P) (w:=w) (base:=base) tx
 refine tx.Jby.g J2U (fun _ _ _ _ _ _ us hl=>match us,hl with | [_,_,_,_,_],_=>rfl) (fun vs H Q E h=>?_) (fun f cdv A outer s H vs Q E hr h=>?_)
 ·obtain ⟨o,r,rows,i,j,day,rfl,_⟩:=h
  rfl
 ·obtain ⟨o,r,rows,i,j,day,rfl,hx,il,jl,h0,h1,q⟩:=h
  refine ⟨_,(J3 (Jr (i:=5) J2U.nd rfl (Or.inl rfl) (J0M J0g rfl tx.J1Y J0q (J0 (pv 1) J7)))
   (J3 (Jr (i:=6) J2U.nd rfl (Or.inl rfl) (JF (JH (K:=K) rfl) (pv 1) (pv 2) (fun _ _=>rfl)))
   (J3 (Jr (i:=7) J2U.nd rfl (Or.inl rfl) (JF (JH (K:=K) rfl) (pv 1) (pv 3) (fun _ _=>rfl)))
   (J3 (J5y (Jq J0c (Jq J0c (J0v J2m (pv 6) J18 (J0Q (pv 4))) (JF J0x (pv 7) (pv 4) (fun _ _=>rfl))) (J0v J2m (pv 6) (J0Q (Jq JU (pv 4) Jh)) J18)) (J6G (pv 5) (pv 2) J3Q))
   (J3 (J5y (Jq J0c (Jq J0c (J0v J2m (pv 7) J18 (J0Q (pv 4))) (JF J0x (pv 6) (pv 4) (fun _ _=>rfl))) (J0v J2m (pv 7) (J0Q (Jq JU (pv 4) Jh)) J18)) (J6G (pv 5) (pv 3) J3Q))
   (J3 (Jr (i:=8) J2U.nd rfl (Or.inl rfl) (JQ J3K (hr.mono (by decide)) (J0 (pv 0) (J0 (pv 5) J7))))
   (J3 (J03 (Jw (Jf5 (K:=K) rfl hr.units0) (pv 8) (J0f J7) (JA _)) (Jl (Jx (J02 (J0 (JE (l:=[114,111,116,97]) (by decide +kernel)) (J0 (pv 5) J7))))) JI)
   (Jl (Jx (J02 (J0 (JE (l:=[102,97,117,108,116,121]) (by decide +kernel)) (J0 (J0f (J0 (JF (JH (K:=K) rfl) (pv 8) Jh (fun _ _=>rfl)) J7)) J7)))))))))))),?_⟩
  walk_at "st"
  clear J3K
  have ri : rows[i]? = some (rows[i]'il):=List.getElem?_eq_getElem il
  generalize rows[i]'il = ra at ri
  have rj : rows[j]? = some (rows[j]'jl):=List.getElem?_eq_getElem jl
  generalize rows[j]'jl = rb at rj
  have la:=hx.rd ra (List.mem_of_getElem? ri)
  have lb:=hx.rd rb (List.mem_of_getElem? rj)
  have d14:=hx.d14
  have aI : atI (rows.map T) (i : Int) = some (T ra):=J05 (by rw [List.getElem?_map,ri]; rfl)
  have aJ : atI (rows.map T) (j : Int) = some (T rb):=J05 (by rw [List.getElem?_map,rj]; rfl)
  have xa : atI ra day = some (mkA ra day):=by
   have e : ra[day.toNat]? = some (mkA ra day):=by unfold mkA; rw [List.getD_eq_getElem?_getD,List.getElem?_eq_getElem (by omega)]; rfl
   have:=J05 e
   rwa [Int.toNat_of_nonneg h0] at this
  have xb : atI rb day = some (mkA rb day):=by
   have e : rb[day.toNat]? = some (mkA rb day):=by unfold mkA; rw [List.getD_eq_getElem?_getD,List.getElem?_eq_getElem (by omega)]; rfl
   have:=J05 e
   rwa [Int.toNat_of_nonneg h0] at this
  have hr1:=hx.hr
  have a1:=J17 ra none (some day)
  have a2:=J17 ra (some (day + 1)) none
  have b1:=J17 rb none (some day)
  have b2:=J17 rb (some (day + 1)) none
  have a1' : (cutN ra none (some day)).length ≤ 100:=by omega
  have a2' : (cutN ra (some (day + 1)) none).length ≤ 100:=by omega
  have b1' : (cutN rb none (some day)).length ≤ 100:=by omega
  have b2' : (cutN rb (some (day + 1)) none).length ≤ 100:=by omega
  have a3 : (cutN ra none (some day) ++ [mkA rb day]).length ≤ 100:=by rw [List.length_append,List.length_singleton]; omega
  have b3 : (cutN rb none (some day) ++ [mkA ra day]).length ≤ 100:=by rw [List.length_append,List.length_singleton]; omega
  have la50 : ra.length ≤ 100:=by omega
  have lb50 : rb.length ≤ 100:=by omega
  walk_at "rd"
  intro D nD
  obtain ⟨H3,e3,hD,s3⟩:=newl (xs:=rows.map T) nD
  rw [← e3]
  clear e3
  have r3:=s3 _ _ hr1
  have ixi : ixN (rows.map T).length (i : Int) = some i:=by unfold ixN; rw [List.length_map,if_pos (by omega),if_pos (by omega),Int.toNat_natCast]
  have ixj : ixN ((rows.map T).set i (T (cutN ra none (some day) ++ [mkA rb day] ++ cutN ra (some (day + 1)) none))).length (j : Int) = some j:=by unfold ixN; rw [List.length_set,List.length_map,if_pos (by omega),if_pos (by omega),Int.toNat_natCast]
  have d4 : upd H3 D (.lst ((rows.map T).set i (T (cutN ra none (some day) ++ [mkA rb day] ++ cutN ra (some (day + 1)) none)))) D = some (.lst ((rows.map T).set i (T (cutN ra none (some day) ++ [mkA rb day] ++ cutN ra (some (day + 1)) none)))):=Jd
  have eS : ((rows.map T).set i (T (cutN ra none (some day) ++ [mkA rb day] ++ cutN ra (some (day + 1)) none))).set j (T (cutN rb none (some day) ++ [mkA ra day] ++ cutN rb (some (day + 1)) none)) = (swR rows i j day).map T:=by
   unfold swR rwF
   rw [Jb2 ri,Jb2 rj,List.map_set,List.map_set]
  have s4 : Same H (upd (upd H3 D (.lst ((rows.map T).set i (T (cutN ra none (some day) ++ [mkA rb day] ++ cutN ra (some (day + 1)) none))))) D (.lst (((rows.map T).set i (T (cutN ra none (some day) ++ [mkA rb day] ++ cutN ra (some (day + 1)) none))).set j (T (cutN rb none (some day) ++ [mkA ra day] ++ cutN rb (some (day + 1)) none))))):=(s3.upd nD).upd nD
  have d5 : upd (upd H3 D (.lst ((rows.map T).set i (T (cutN ra none (some day) ++ [mkA rb day] ++ cutN ra (some (day + 1)) none))))) D (.lst (((rows.map T).set i (T (cutN ra none (some day) ++ [mkA rb day] ++ cutN ra (some (day + 1)) none))).set j (T (cutN rb none (some day) ++ [mkA ra day] ++ cutN rb (some (day + 1)) none)))) D = some (.lst ((swR rows i j day).map T)):=by rw [Jd,eS]
  have hx5:=(hx.same s4).rows d5 (J8A _ _ _ _) (Jbf il jl h0 h1 hx.rd)
  walk_at "rd"
  refine ⟨hx5.hq,hx5.hr,hx5.rl,hx5.p8,hx5.k4,hx5.d0,hx5.d14,hx5.rd,hx5.pa,hx5.ru,hx5.r8,hx5.pr,hx5.q8,hx5.pi,fun B H6 yb s6 nB hB (hA : All2 TpV H6 (o.F (swR rows i j day)) yb)=>?_⟩
  have d6:=s6 _ _ d5
  have s06:=s4.trans s6
  clear d4 d5 eS s4 hx5
  walk_at "rd"
  intro E1 nE1
  obtain ⟨H7,e7,hE1,s7⟩:=newl (xs:=[]) nE1
  rw [← e7]
  clear e7
  have hB7:=s7 _ _ hB
  have d7:=s7 _ _ d6
  have s07:=s06.trans s7
  walk_at "rd"
  cases hFF : o.F (swR rows i j day) with
  | nil =>
   rw [hFF] at hA
   cases yb with
   | cons y yb=>exact hA.elim
   | nil =>
    refine ite2 (fun _=>?_) (fun z=>absurd rfl z)
    walk_at "rd"
    intro t nt
    exact q t D _ (.rota (swR rows i j day)) (s07.upd (s07.free nt)) nD ⟨Jd,by rw [Jn (Jj d7 nt)]; exact d7⟩ (.inl ⟨rfl,hFF⟩)
  | cons g fs =>
   rw [hFF] at hA
   cases yb with
   | nil=>exact hA.elim
   | cons y yb =>
    obtain ⟨⟨u,rfl,hu⟩,hA'⟩:=hA
    refine ite2 (fun z=>nomatch z) (fun _=>?_)
    have i0 : atI (V.ref u :: yb) 0 = some (V.ref u):=J05 (j:=0) rfl
    have hu7:=s7 _ _ hu
    walk_at "rd"
    intro l nl
    obtain ⟨H8,e8,y8,s8⟩:=newl (xs:=[V.ref u]) nl
    rw [← e8]
    clear e8
    have hu8:=s8 _ _ hu7
    have s08:=s07.trans s8
    walk_at "rd"
    intro t nt
    exact q t l _ (.flt g) (s08.upd (s08.free nt)) (s07.free nl) ⟨Jd,u,by rw [Jn (Jj y8 nt)]; exact y8,by rw [Jn (Jj hu8 nt)]; exact hu8⟩ (.inr ⟨g,fs,rfl,hFF⟩)
end
section
variable {P : Program} {w : World} {K : PySem.W.Frag} {mg : Str → Option Value} {base : Heap} {Jk Jo Ji Jp Je Js J8 J4 J6 Jf Jc Ja Jm Jg Jb J5 : Addr}
theorem badq (tx : Tx K mg Jk Jo Ji Jp Je Js J8 J4 J6 Jf Jc Ja Jm Jg Jb J5) {H : Hp} {r : R} {p : Addr} (hR : JR (cs6 Jk Jo Ji Jp Je Js J8 J4 J6 Jf Jc Ja Jm Jg Jb J5) H r p) (hd : r.depth ≤ 4) : BadQ P w K mg base H p r.bad:=by
 obtain ⟨dx,fs,ob,nb,_⟩:=hR.obj
 exact ⟨_,dx,fs,5 + r.depth,_,Jfn (cs6 Jk Jo Ji Jp Je Js J8 J4 J6 Jf Jc Ja Jm Jg Jb J5) r,ob,nb,J5X (P:=P) (w:=w) (base:=base) tx r,by omega,fun m hm H' Q' k q=>⟨p,m,rfl,hR.keeps k,by omega,q⟩⟩
end
theorem JbQ (c : Int) : 1 ≤ (J4q c).length ∧ (J4q c).length ≤ 4:=by
 unfold J4q
 rw [List.length_map,List.length_range]
 have h0 : 0 ≤ c % 4:=Int.emod_nonneg _ (by decide)
 have h1 : c % 4 < 4:=Int.emod_lt_of_pos _ (by decide)
 omega
theorem Jdh (c : Int) : ∀ x ∈ J4q c,isUp x = true:=fun x hx=>by
 unfold J4q at hx
 obtain ⟨k,_,rfl⟩:=List.mem_map.mp hx
 have h0 : 0 ≤ (c / 4 + (0 + (k : Int)) * (1 + c / 104 % 6)) % 26:=Int.emod_nonneg _ (by decide)
 have h1 : (c / 4 + (0 + (k : Int)) * (1 + c / 104 % 6)) % 26 < 26:=Int.emod_lt_of_pos _ (by decide)
 generalize (c / 4 + (0 + (k : Int)) * (1 + c / 104 % 6)) % 26 = v at h0 h1
 unfold isUp cap
 rw [Bool.and_eq_true]
 exact ⟨decide_eq_true (by omega),decide_eq_true (by omega)⟩
theorem All2.withP {α : Type} {P : α → V → Hp → Prop} {p : α → Prop} {H : Hp} : ∀ {as : List α} {ys : List V},(∀ a ∈ as,p a) → All2 P H as ys → All2 (fun a y H=>p a ∧ P a y H) H as ys
 | [],[],_,_=>trivial
 | a :: _,_ :: _,hp,h=>⟨⟨hp a List.mem_cons_self,h.1⟩,All2.withP (fun b hb=>hp b (List.mem_cons_of_mem _ hb)) h.2⟩
 | [],_ :: _,_,h=>h.elim
 | _ :: _,[],_,h=>h.elim
noncomputable def J8N (rs : List (List Nat × R)) : List Ru:=rs.map fun e=>⟨e.1,e.2.bad⟩
noncomputable def JeD : Sp:=fun vs H Q _=>∃ (r : Addr) (c d : Int) (ks : List Nat) (rows : List (List Nat)),vs = [.ref r,.int c,.int d,T ks] ∧ H r = some (.lst (rows.map T)) ∧ 1 ≤ rows.length ∧ rows.length ≤ 6 ∧ 1 ≤ d ∧ d ≤ 10 ∧ (∀ row ∈ rows,(row.length : Int) = d) ∧ ks.length ≤ 4 ∧
 ∀ (D : Addr) (H' : Hp) (rows2 : List (List Nat)),Same H H' → H D = none → H' D = some (.lst (rows2.map T)) → rows2.length = rows.length → (∀ row ∈ rows2,(row.length : Int) = d) → Q (.ref D) H'
section
variable {P : Program} {w : World} {K : PySem.W.Frag} {mg : Str → Option Value} {base : Heap} {Jk Jo Ji Jp Je Js J8 J4 J6 Jf Jc Ja Jm Jg Jb J5 : Addr}
theorem J7Z (tx : Tx K mg Jk Jo Ji Jp Je Js J8 J4 J6 Jf Jc Ja Jm Jg Jb J5) : FnG P w K mg base "_law_marked" 1 ["_law_rota","_law_cell","_law_days","_law_kinds_here"] JeD:=by
 refine tx.J7Y.g J22 (fun _ _ _ _ _ _ us hl=>match us,hl with | [_,_,_,_],_=>rfl) (fun vs H Q E h=>?_) (fun f cdv A outer s H vs Q E hr h=>?_)
 ·obtain ⟨r,c,d,ks,rows,rfl,_⟩:=h
  rfl
 ·obtain ⟨r,c,d,ks,rows,rfl,hr1,r1,r6,d1,d10,hrd,k4,q⟩:=h
  refine ⟨_,(J3 (Jr (i:=4) J22.nd rfl (Or.inl rfl) (J0M J0g rfl tx.J1Y J0q (J0 (pv 0) J7)))
   (J3 (Jr (i:=5) J22.nd rfl (Or.inl rfl) (Jq JK (Jq JW (pv 1) Jh) (JB (JS (K:=K) rfl) rfl tx.J0y PySem.boot_len (J0 (pv 0) J7))))
   (J3 (Jr (i:=6) J22.nd rfl (Or.inl rfl) (Jq JK (Jq JW (pv 1) Jh) (pv 2)))
   (J3 (Jr (i:=7) J22.nd rfl (Or.inl rfl) (JF J0x (Jq J0c (JE (l:=[45]) (by decide +kernel)) (pv 3)) (Jq JK (Jq JW (pv 1) Jh) (Jq JU (JB J0p rfl tx.J0y PySem.boot_len (J0 (pv 3) J7)) Jh)) (fun _ _=>rfl)))
   (J3 (J03 (Jw J0j (Jq JK (pv 1) Jh) Jh (JA _)) (Jl (J5y (Jq J0c (Jq J0c (J0v J2m (JF (JH (K:=K) rfl) (pv 0) (pv 5) (fun _ _=>rfl)) J18 (J0Q (pv 6))) (pv 7)) (J0v J2m (JF (JH (K:=K) rfl) (pv 0) (pv 5) (fun _ _=>rfl)) (J0Q (Jq JU (pv 6) Jh)) J18)) (J6G (pv 4) (pv 5) J3Q))) JI)
   (Jl (Jx (pv 4)))))))),?_⟩
  walk_at "st"
  walk_at "rd"
  intro D nD
  obtain ⟨H1,e1,hD,s1⟩:=newl (xs:=rows.map T) nD
  rw [← e1]
  clear e1
  have hr2:=s1 _ _ hr1
  have rl : ((rows.map T).length : Int) = (rows.length : Int):=by rw [List.length_map]
  have rp : (0 : Int) < ((rows.map T).length : Int):=by omega
  have dp : (0 : Int) < d:=by omega
  have kp : (0 : Int) < (ks.length : Int) + 1:=by omega
  have p0 : 0 ≤ c / 2 % ((rows.map T).length : Int):=Int.emod_nonneg _ (by omega)
  have p1 : c / 2 % ((rows.map T).length : Int) < ((rows.map T).length : Int):=Int.emod_lt_of_pos _ rp
  have e0 : 0 ≤ c / 12 % d:=Int.emod_nonneg _ (by omega)
  have e1 : c / 12 % d < d:=Int.emod_lt_of_pos _ dp
  obtain ⟨m,hm,_⟩:=J2P ([45] ++ ks) (c / 120 % ((ks.length : Int) + 1)) (Int.emod_nonneg _ (by omega)) (by rw [List.length_append,List.length_singleton]; have:=Int.emod_lt_of_pos (c / 120) kp; omega)
  have ltk : ([45] ++ ks).length ≤ 100:=by rw [List.length_append,List.length_singleton]; omega
  walk_at "rd"
  generalize hpp : c / 2 % ((rows.map T).length : Int) = p at p0 p1 ⊢
  have hpi : p.toNat < rows.length:=by omega
  have hri : rows[p.toNat]? = some (rows[p.toNat]'hpi):=List.getElem?_eq_getElem hpi
  generalize rows[p.toNat]'hpi = row at hri
  have hrl:=hrd row (List.mem_of_getElem? hri)
  have aT : atI (rows.map T) p = some (T row):=by
   have:=J05 (xs:=rows.map T) (j:=p.toNat) (v:=T row) (by rw [List.getElem?_map,hri]; rfl)
   rwa [Int.toNat_of_nonneg p0] at this
  refine ite2 (fun _=>?_) (fun _=>?_)
  ·generalize c / 12 % d = e at e0 e1 ⊢
   have c1:=J17 row none (some e)
   have c2:=J17 row (some (e + 1)) none
   have c1' : (cutN row none (some e)).length ≤ 100:=by omega
   have c2' : (cutN row (some (e + 1)) none).length ≤ 100:=by omega
   have c3 : (cutN row none (some e) ++ [m]).length ≤ 100:=by rw [List.length_append,List.length_singleton]; omega
   have ix : ixN (rows.map T).length p = some p.toNat:=by unfold ixN; rw [if_pos p0,if_pos (by omega)]
   walk_at "rd"
   refine q D _ (rows.set p.toNat (cutN row none (some e) ++ [m] ++ cutN row (some (e + 1)) none)) (s1.upd nD) nD (by rw [Jd,List.map_set]) List.length_set fun row' h'=>?_
   rcases List.mem_or_eq_of_mem_set h' with z | z
   ·exact hrd row' z
   ·rw [z,Jaz _ _ e0,J4J _ _ (by omega),List.length_append,List.length_append,List.length_singleton,List.length_take,List.length_drop]
    omega
  ·walk_at "rd"
   exact q D H1 rows s1 nD hD rfl hrd
end
noncomputable def JdB (P : Program) (w : World) (K : PySem.W.Frag) (mg : Str → Option Value) (base : Heap) (C1 C2 : Addr) : Sp:=fun vs H Q _=>∃ (sc : Addr) (ns : List Int),vs = [.ref sc] ∧ SqL K H sc (ns.map V.int) ∧ ns.length ≤ 63 ∧
 ∀ (t : Addr) (H' : Hp) (o : Hd) (r : Addr) (rows : List (List Nat)),Same H H' → H' t = some (.tup [.ref o.h,.ref r]) → Fx P w K mg base C1 C2 H' o r rows → 1 ≤ rows.length → rows.length ≤ 6 → 1 ≤ o.dd → (∀ (i : Nat) (n : Ps),o.ps[i]? = some n → n.nm = J2p (J15 ns 1) (0 + (i : Int))) → Q (.ref t) H'
section
variable {P : Program} {w : World} {K : PySem.W.Frag} {mg : Str → Option Value} {base : Heap} {Jk Jo Ji Jp Je Js J8 J4 J6 Jf Jc Ja Jm Jg Jb J5 : Addr}
theorem Jah (tx : Tx K mg Jk Jo Ji Jp Je Js J8 J4 J6 Jf Jc Ja Jm Jg Jb J5) : FnG P w K mg base "_law_case" 50 ["_law_script"] (JdB P w K mg base J8 J4):=by
 have JC:=J20 (P:=P) (w:=w) (base:=base) tx
 have J5B:=J9h (P:=P) (w:=w) (base:=base) tx
 have J49:=J7m (P:=P) (w:=w) (base:=base) tx
 have J39:=J4v (P:=P) (w:=w) (base:=base) tx
 have J2K:=J45 (P:=P) (w:=w) (base:=base) tx
 have J37:=J4w (P:=P) (w:=w) (base:=base) tx
 have J36:=J4B (P:=P) (w:=w) (base:=base) tx
 have J38:=J4F (P:=P) (w:=w) (base:=base) tx
 have J4y:=J7Z (P:=P) (w:=w) (base:=base) tx
 have JaS:=tx.J00.g (J81 (P:=P) (w:=w) (base:=base) tx)
 refine tx.Ja1.g J0b (fun _ _ _ _ _ _ us hl=>match us,hl with | [_],_=>rfl) (fun vs H Q E h=>?_) (fun f cdv A outer s H vs Q E hr h=>?_)
 ·obtain ⟨a,ns,rfl,_⟩:=h
  rfl
 ·obtain ⟨sc,ns,rfl,hS,hns,q⟩:=h
  refine ⟨_,(J3 (Jr (i:=1) J0b.nd rfl (Or.inl rfl) (Jq JU Jh (Jq JK (JQ JC (hr.mono (by decide)) (J0 (pv 0) (J0 Jh J7))) Jh)))
   (J3 (Jr (i:=2) J0b.nd rfl (Or.inl rfl) (Jq JU Jh (Jq JK (Jq JW (JQ JC (hr.mono (by decide)) (J0 (pv 0) (J0 Jh J7))) Jh) Jh)))
   (J3 (Jr (i:=3) J0b.nd rfl (Or.inl rfl) (JQ J5B (hr.mono (by decide)) (J0 (JQ JC (hr.mono (by decide)) (J0 (pv 0) (J0 Jh J7))) J7)))
   (J3 (Jr (i:=4) J0b.nd rfl (Or.inl rfl) (JQ J49 (hr.mono (by decide)) (J0 (pv 0) (J0 (pv 1) (J0 (pv 2) (J0 (pv 3) J7))))))
   (J3 (Jr (i:=5) J0b.nd rfl (Or.inl rfl) (JQ JC (hr.mono (by decide)) (J0 (pv 0) (J0 Jh J7))))
   (J3 (Jr (i:=6) J0b.nd rfl (Or.inl rfl) (JQ J39 (hr.mono (by decide)) (J0 (pv 4) (J0 (pv 2) (J0 (pv 3) (J0 (pv 5) (J0 (J0M (JaC rfl) rfl tx.J1Y J0q (J0 (J0M J9K rfl tx.J0n J9A (J0 (pv 2) J7)) J7)) J7)))))))
   (J3 (Jr (i:=7) J0b.nd rfl (Or.inl rfl) (JQ J2K (hr.mono (by decide)) (J0 (pv 0) (J0 (pv 4) (J0 (pv 3) J7)))))
   (J3 (Jr (i:=8) J0b.nd rfl (Or.inl rfl) (JQ J37 (hr.mono (by decide)) (J0 (pv 4) (J0 (pv 7) (J0 (pv 2) (J0 (pv 5) J7))))))
   (J3 (Jr (i:=9) J0b.nd rfl (Or.inl rfl) (JQ J36 (hr.mono (by decide)) (J0 (pv 0) (J0 (pv 4) (J0 (pv 7) (J0 (pv 3) (J0 Jh J7)))))))
   (J3 (Jr (i:=10) J0b.nd rfl (Or.inl rfl) (JQ J38 (hr.mono (by decide)) (J0 (pv 4) (J0 (pv 7) (J0 (JQ JC (hr.mono (by decide)) (J0 (pv 0) (J0 Jh J7))) J7)))))
   (J3 (Jr (i:=11) J0b.nd rfl (Or.inl rfl) (J27 (r:=rHou J4) JaS (hr.mono (by decide)) Jfb (J0 (pv 2) (J0 (pv 3) (J0 (pv 6) (J0 (pv 7) (J0 (pv 8) (J0 (J0f J7) (J0 (pv 9) (J0 (pv 10) J7))))))))))
   (Jl (Jx (J02 (J0 (pv 11) (J0 (JQ J4y (hr.mono (by decide)) (J0 (pv 4) (J0 (JQ JC (hr.mono (by decide)) (J0 (pv 0) (J0 Jh J7))) (J0 (pv 2) (J0 (pv 3) J7))))) J7)))))))))))))))),?_⟩
  walk_at "st"
  clear JC J5B J49 J39 J2K J37 J36 J38 J4y JaS
  have m0 : 0 ≤ J15 ns 0 % 6:=Int.emod_nonneg _ (by decide)
  have m1 : J15 ns 0 % 6 < 6:=Int.emod_lt_of_pos _ (by decide)
  have d0 : 0 ≤ J15 ns 0 / 6 % 10:=Int.emod_nonneg _ (by decide)
  have d1 : J15 ns 0 / 6 % 10 < 10:=Int.emod_lt_of_pos _ (by decide)
  obtain ⟨k1,k4⟩:=JbQ (J15 ns 1)
  have hup:=Jdh (J15 ns 1)
  walk_at "rd"
  intro H1 s1
  have hS1:=s1.seq hS
  generalize J4q (J15 ns 1) = ks at k1 k4 hup ⊢
  generalize hmm : 1 + J15 ns 0 % 6 = m at ⊢
  generalize hdd : 1 + J15 ns 0 / 6 % 10 = d at ⊢
  have m1' : 1 ≤ m:=by omega
  have m6 : m ≤ 6:=by omega
  have d1' : 1 ≤ d:=by omega
  have d10 : d ≤ 10:=by omega
  clear hmm hdd m0 m1 d0 d1
  walk_at "rd"
  intro r H2 rows s2 nr hr2 hrl hrows
  have hS2:=s2.seq hS1
  have hrd : ∀ row ∈ rows,(row.length : Int) = d:=fun row h=>(hrows row h).1
  have hr6 : rows.length ≤ 6:=by omega
  walk_at "rd"
  intro pr npr
  obtain ⟨H3,e3,hpr3,s3⟩ : ∃ H3,H3 = upd H2 pr (.rng 0 d) ∧ H3 pr = some (.rng 0 d) ∧ Same H2 H3:=⟨_,rfl,Jd,Jy npr _⟩
  rw [← e3]
  clear e3
  walk_at "rd"
  intro sl nsl
  obtain ⟨H4,e4,hsl,s4⟩:=newl (xs:=(List.range d.toNat).map fun (i : Nat)=>V.int (i : Int)) nsl
  rw [← e4]
  clear e4
  have s24:=s3.trans s4
  have hr4:=s24 _ _ hr2
  have hS4:=s24.seq hS2
  walk_at "rd"
  intro na H5 nds nx s5 nna hna hN hnxl
  have s25:=s24.trans s5
  have hr5:=s25 _ _ hr2
  have hS5:=s25.seq hS2
  have hrin : ∀ row ∈ rows,row.length ≤ 10 ∧ inKs ks row:=fun row h=>⟨by have:=hrd row h; omega,(hrows row h).2⟩
  walk_at "rd"
  intro pl H6 ps ys s6 npl hpl hP hpsl hPG
  have s26:=s25.trans s6
  have hr6':=s26 _ _ hr2
  have hS6:=s26.seq hS2
  walk_at "rd"
  intro lv H7 ls lx s7 nlv hlv hL hll hLG
  have s27:=s26.trans s7
  have hS7:=s27.seq hS2
  have hpl7:=s7 _ _ hpl
  have hP7:=hP.imp fun a y=>PsO.keeps a y _ _ s7.keeps
  have p1 : 1 ≤ ps.length:=by omega
  obtain ⟨H8,eH8,s8⟩ : ∃ H8,H8 = H7 ∧ Same H7 H8:=⟨H7,rfl,Same.refl _⟩
  rw [← eH8]
  clear eH8
  have s28:=s27.trans s8
  have s68:=s7.trans s8
  have hS8:=s28.seq hS2
  have hr8:=s28 _ _ hr2
  have hpl8:=s68 _ _ hpl
  have hP8:=hP.imp fun a y=>PsO.keeps a y _ _ s68.keeps
  have r1 : 1 ≤ rows.length:=by omega
  have hr10 : ∀ row ∈ rows,row.length ≤ 10:=fun row h=>(hrin row h).1
  have hpg : ∀ (i : Nat) (n : Ps),ps[i]? = some n → ∃ row,rows[i]? = some row ∧ Jcy ns i n row:=fun i n h=>by
   have hi:=(List.getElem?_eq_some_iff.mp h).1
   exact ⟨_,List.getElem?_eq_getElem (by omega),hPG i n _ h (List.getElem?_eq_getElem (by omega))⟩
  have hpast : ∀ n ∈ ps,n.past.length ≤ 6:=fun n hn=>by
   obtain ⟨i,hi⟩:=List.getElem?_of_mem hn
   obtain ⟨row,_,g⟩:=hpg i n hi
   exact g.pl
  walk_at "rd"
  intro ra H9 rs rx s9 nra hra hR hrl6 hRG
  have s29:=s28.trans s9
  have s69:=s68.trans s9
  have hr9:=s29 _ _ hr2
  have hS9:=s29.seq hS2
  have hpl9:=s69 _ _ hpl
  have hP9:=hP.imp fun a y=>PsO.keeps a y _ _ s69.keeps
  have hnm : ∀ (i : Nat) (n : Ps),ps[i]? = some n → n.nm = J2p (J15 ns 1) (0 + (i : Int)):=fun i n h=>by
   obtain ⟨row,_,g⟩:=hpg i n h
   exact g.nm
  walk_at "rd"
  intro pp H10' prs px s10' npp hpp' hPr' hpr2 hPrG
  walk_at "rd"
  intro wa nwa
  obtain ⟨H10,e10,hwaA,s0⟩:=newl (xs:=[]) nwa
  rw [← e10]
  clear e10
  have s10:=s10'.trans s0
  have hpp:=s0 _ _ hpp'
  have hPr:=hPr'.imp fun a y=>PrT.keeps a y _ _ s0.keeps
  clear hpp' hPr'
  have s2A:=s29.trans s10
  have hnaA:=((((s6.trans s7).trans s8).trans s9).trans s10) _ _ hna
  have hplA:=(s69.trans s10) _ _ hpl
  have hlvA:=((s8.trans s9).trans s10) _ _ hlv
  have hraA:=s10 _ _ hra
  have hSA:=s2A.seq hS2
  have hNA:=hN.imp fun a y=>NdAt.keeps a y _ _ ((((s6.trans s7).trans s8).trans s9).trans s10).keeps
  have hPA:=hP.imp fun a y=>PsO.keeps a y _ _ (s69.trans s10).keeps
  have hLA:=hL.imp fun a y=>LvT.keeps a y _ _ ((s8.trans s9).trans s10).keeps
  have hRA:=hR.imp fun a y=>RlT.keeps a y _ _ s10.keeps
  have hrA:=s2A _ _ hr2
  clear hS1 hS4 hS5 hS6 hS7 hS8 hS9 hr4 hr5 hr6' hr8 hr9 hpl7 hpl8 hpl9 hP7 hP8 hP9 hsl hpr3 hna hpl hlv hra hN hP hL hR
  walk_at "rd"
  intro ho H11 a1 a2 a3 a4 a5 a6 s11 hHo e1 e2 e3 e4 e5 e6 n1 n2 n3 n4 n5 n6
  have hSB:=s11.seq hSA
  have hrB:=s11 _ _ hrA
  have hplB:=s11 _ _ hplA
  have hNB:=hNA.imp fun a y=>NdAt.keeps a y _ _ s11.keeps
  have hPB:=hPA.imp fun a y=>PsO.keeps a y _ _ s11.keeps
  have hLB:=hLA.imp fun a y=>LvT.keeps a y _ _ s11.keeps
  have hRB:=hRA.imp fun a y=>RlT.keeps a y _ _ s11.keeps
  have hPrB:=hPr.imp fun a y=>PrT.keeps a y _ _ s11.keeps
  have hnaB:=s11 _ _ hnaA
  have hlvB:=s11 _ _ hlvA
  have hwaB:=s11 _ _ hwaA
  have hraB:=s11 _ _ hraA
  have hppB:=s11 _ _ hpp
  have hr6' : rows.length ≤ 6:=hr6
  walk_at "rd"
  intro D H12 rows2 s12 nD hD hrl2 hrd2
  obtain ⟨o0,eo⟩ : ∃ o : Hd,o = { h:=ho,dd:=d,ks:=ks,a1:=a1,a2:=a2,a3:=a3,a4:=a4,a5:=a5,a6:=a6,xs:=nx,ys:=ys,zs:=lx,ws:=[],u5:=rx,u6:=px,nds:=nds,ps:=ps,ls:=ls,rls:=J8N rs,prs:=prs }:=⟨_,rfl⟩
  have eh : o0.h = ho:=by rw [eo]
  have ed : o0.dd = d:=by rw [eo]
  have ep : o0.ps = ps:=by rw [eo]
  have hfx : Fx P w K mg base J8 J4 H12 o0 D rows2:=by
   have hRuT : All2 (RuT P w K mg base) H12 (J8N rs) rx:=All2.mapL (P:=RuT P w K mg base) ((All2.withP (fun a h=>hRG a h) (hRB.imp fun a y=>RlT.keeps a y _ _ s12.keeps)).imp fun a y h=>by
    obtain ⟨hg,t,p,e,ht,hr⟩:=h
    exact ⟨t,p,e,ht,badq tx hr (Nat.le_trans hg.dp (by decide))⟩)
   rw [eo]
   exact { ho:=hHo.keeps s12.keeps,e1:=s12 _ _ e1,nd:=hNB.imp fun a y=>NdAt.keeps a y _ _ s12.keeps,e2:=s12 _ _ e2,pe:=hPB.imp fun a y=>PsO.keeps a y _ _ s12.keeps,e3:=s12 _ _ e3,lv:=hLB.imp fun a y=>LvT.keeps a y _ _ s12.keeps,e4:=s12 _ _ e4,e5:=s12 _ _ e5,e6:=s12 _ _ e6,hr:=hD,rl:=(by show rows2.length = ps.length; omega),p8:=(by show ps.length ≤ 8; omega),k4:=k4,d0:=(by show (0 : Int) ≤ d; omega),d14:=(by show d ≤ 14; omega),rd:=hrd2,pa:=fun n hn=>Nat.le_trans (hpast n hn) (by decide),ru:=hRuT,r8:=(by show (J8N rs).length ≤ 8; unfold J8N; rw [List.length_map]; omega),pr:=hPrB.imp fun a y=>PrT.keeps a y _ _ s12.keeps,q8:=(by show prs.length ≤ 8; omega),pi:=fun p h=>(hPrG p h).inn }
  rw [← eh]
  clear hHo eo hNB hPB hLB hRB hPrB hnaB hlvB hwaB hraB hppB hplB hrB e1 e2 e3 e4 e5 e6
  walk_at "rd"
  intro t nt
  have sAll:=(((s1.trans s2).trans s2A).trans s11).trans s12
  exact q t _ o0 D rows2 (sAll.upd (sAll.free nt)) Jd (hfx.same (Jy nt _)) (by omega) (by omega) (by rw [ed]; exact d1') (fun i n h=>hnm i n (by rw [← ep]; exact h))
end
theorem JbV (c p q : Int) : (J1u c p).length = (J1u c q).length:=by
 unfold J1u
 simp only [List.length_append,List.length_singleton]
theorem J9E (c p : Int) : (J2p c p).length = (J1u c 0).length ∨ (J2p c p).length = (J1u c 0).length + 1:=by
 have h:=JbV c p 0
 unfold J2p
 split
 ·rename_i e
  rw [e] at h
  exact .inr (by rw [← h]; rfl)
 ·exact .inl h
theorem JaA {o : Hd} {c : Int} (hnm : ∀ (i : Nat) (n : Ps),o.ps[i]? = some n → n.nm = J2p c (0 + (i : Int))) {i : Nat} {n : Ps} (hi : o.ps[i]? = some n) : ¬ (n.nm ++ [122,122]) ∈ nmsO o:=fun h=>by
 unfold nmsO at h
 obtain ⟨k,hk,e⟩:=List.mem_map.mp h
 obtain ⟨j,hj⟩:=List.getElem?_of_mem hk
 have e1:=congrArg List.length e
 rw [hnm j k hj,hnm i n hi,List.length_append] at e1
 have z1:=J9E c (0 + (i : Int))
 have z2:=J9E c (0 + (j : Int))
 simp only [List.length_cons,List.length_nil] at e1
 omega
theorem Jed {o : Hd} {c : Int} (hl : o.ps.length ≤ 6) (hnm : ∀ (i : Nat) (n : Ps),o.ps[i]? = some n → n.nm = J2p c (0 + (i : Int))) : Jdo o:=fun i j m h1 h2=>by
 unfold nmsO at h1 h2
 rw [List.getElem?_map] at h1 h2
 cases e1 : o.ps[i]? with
 | none=>rw [e1] at h1; cases h1
 | some a =>
  cases e2 : o.ps[j]? with
  | none=>rw [e2] at h2; cases h2
  | some b =>
   rw [e1] at h1
   rw [e2] at h2
   have i1:=(List.getElem?_eq_some_iff.mp e1).1
   have i2:=(List.getElem?_eq_some_iff.mp e2).1
   have z1 : a.nm = m:=Option.some.inj h1
   have z2 : b.nm = m:=Option.some.inj h2
   have:=J7P (c:=c) (p:=0 + (i : Int)) (q:=0 + (j : Int)) ⟨by omega,by omega⟩ ⟨by omega,by omega⟩ (by rw [← hnm i a e1,← hnm j b e2,z1,z2])
   omega
theorem OcAt.same {H H' : Hp} {t l : Addr} : ∀ {oc : Oc},OcAt H t l oc → Same H H' → OcAt H' t l oc
 | .nam,h,s=>⟨s _ _ h.1,s _ _ h.2⟩
 | .day,h,s=>⟨s _ _ h.1,s _ _ h.2⟩
 | .flt f,h,s=>let ⟨a,u,b,c⟩:=h; ⟨s _ _ a,u,s _ _ b,s _ _ c⟩
 | .rota R,h,s=>⟨s _ _ h.1,s _ _ h.2⟩
theorem OcAt.two {K : PySem.W.Frag} {H : Hp} {t l t2 l2 : Addr} : ∀ {oc : Oc},OcAt H t l oc → OcAt H t2 l2 oc → (∀ f,oc = .flt f → f.all J09 = true) → ∃ a xs ys,H t = some (.tup [T a,.ref l]) ∧ H t2 = some (.tup [T a,.ref l2]) ∧ H l = some (.lst xs) ∧ H l2 = some (.lst ys) ∧ xs.length ≤ 1000 + ys.length ∧ (xs = ys ∧ xs.all J09 = true ∨ J8G K H xs ys)
 | .nam,h,g,_=>⟨_,_,_,h.1,g.1,h.2,g.2,by omega,.inl ⟨rfl,rfl⟩⟩
 | .day,h,g,_=>⟨_,_,_,h.1,g.1,h.2,g.2,by omega,.inl ⟨rfl,rfl⟩⟩
 | .flt f,h,g,hf=>by
  obtain ⟨a,u,b,c⟩:=h
  obtain ⟨a2,u2,b2,c2⟩:=g
  refine ⟨_,_,_,a,a2,b,b2,by simp,.inr ⟨rfl,fun j x y hx hy=>?_⟩⟩
  cases j with
  | zero =>
   cases hx
   cases hy
   exact .tups (SqT.of c) (SqT.of c2) (hf f rfl) (hf f rfl) (J3m (hf f rfl))
  | succ j=>simp at hx
 | .rota R,h,g,_=>⟨_,_,_,h.1,g.1,h.2,g.2,by omega,.inl ⟨rfl,List.all_eq_true.mpr fun x hx=>by obtain ⟨n,_,rfl⟩:=List.mem_map.mp hx; rfl⟩⟩
theorem OcAt.len {H : Hp} {t l : Addr} {o : Hd} {rows : List (List Nat)} {nm ot : List Nat} {dy : Int} {xs : List V} (h6 : rows.length ≤ 6) : ∀ {oc : Oc},OcAt H t l oc → SwOc o rows nm ot dy oc → H l = some (.lst xs) → xs.length ≤ 10
 | .nam,h,_,e=>by have z:=h.2; rw [e] at z; cases z; simp
 | .day,h,_,e=>by have z:=h.2; rw [e] at z; cases z; simp
 | .flt f,h,_,e=>by obtain ⟨_,u,z,_⟩:=h; rw [e] at z; cases z; simp
 | .rota R,h,g,e=>by
  have z:=h.2
  rw [e] at z
  cases z
  obtain ⟨i,j,_,_,_,_,_,hR⟩:=g
  rw [hR,List.length_map,J8A]
  omega
section
variable {P : Program} {w : World} {K : PySem.W.Frag} {mg : Str → Option Value} {base : Heap} {Jk Jo Ji Jp Je Js J8 J4 J6 Jf Jc Ja Jm Jg Jb J5 : Addr}
local macro_rules | `(tactic| walk_at "lk")=>`(tactic| first | exact J4I _ _ _ _ _ _ _ _ | exact J28 _ _ _ _ _ _ _ _ | exact J2B _ _ _ _ _)
theorem Jfc {f : Addr} {fd : FuncData} (tx : Tx K mg Jk Jo Ji Jp Je Js J8 J4 J6 Jf Jc Ja Jm Jg Jb J5) (F : Fun K "law" "law" J3I f fd) : FnOk P w K mg base CX0 60 f fd ["_law_script"] (sp_law K):=by
 have JC:=J20 (P:=P) (w:=w) (base:=base) tx
 have J62:=Jah (P:=P) (w:=w) (base:=base) tx
 have J7u:=JbG (P:=P) (w:=w) (base:=base) tx
 have J6g:=J9X (P:=P) (w:=w) (base:=base) tx
 refine F.ok J0H (fun vs H Q E h=>?_) (fun cdv A outer s H vs Q E hr h=>?_)
 ·obtain ⟨a,ns,rfl,_⟩:=h
  rfl
 ·obtain ⟨sc,ns,rfl,hS,hns,q⟩:=h
  refine ⟨_,(J3 (J5y (JQ J62 (hr.mono (by decide)) (J0 (pv 0) J7)) (Je9 (K:=K) (n:=2) rfl rfl (JY (JD (i:=1) J0H.nd rfl (Or.inl rfl)) (JY (JD (i:=2) J0H.nd rfl (Or.inl rfl)) J2l))))
   (J3 (Jr (i:=3) J0H.nd rfl (Or.inl rfl) (JB (JS (K:=K) rfl) rfl tx.J0y PySem.boot_len (J0 (pv 2) J7)))
   (J3 (Jr (i:=4) J0H.nd rfl (Or.inl rfl) (Jz (K:=K) rfl (pv 1) rfl))
   (J3 (Jr (i:=5) J0H.nd rfl (Or.inl rfl) (JQ JC (hr.mono (by decide)) (J0 (pv 0) (J0 Jh J7))))
   (J3 (Jr (i:=6) J0H.nd rfl (Or.inl rfl) (Jq JK (Jq JW (pv 5) Jh) (pv 3)))
   (J3 (Jr (i:=7) J0H.nd rfl (Or.inl rfl) (Jq JK (Jq JW (pv 5) Jh) (pv 3)))
   (J3 (Jr (i:=8) J0H.nd rfl (Or.inl rfl) (Jq JK (Jq JW (pv 5) Jh) (pv 4)))
   (J3 (Jr (i:=9) J0H.nd rfl (Or.inl rfl) (Jz (K:=K) rfl (JF (JH (K:=K) rfl) (Jz (K:=K) rfl (pv 1) rfl) (pv 6) (fun _ _=>rfl)) rfl))
   (J3 (Jr (i:=10) J0H.nd rfl (Or.inl rfl) (Jz (K:=K) rfl (JF (JH (K:=K) rfl) (Jz (K:=K) rfl (pv 1) rfl) (pv 7) (fun _ _=>rfl)) rfl))
   (J3 (Jr (i:=11) J0H.nd rfl (Or.inl rfl) J8F)
   (J3 (J26 (J03 (Jw J0j (Jq JK (pv 5) Jh) Jh (JA _)) (J3 (Jr (i:=8) J0H.nd rfl (Or.inl rfl) (JF (JH (K:=K) rfl) (J0f (J0 (JfX JeY Jh) (J0 (pv 4) (J0 (Jq JaN Jh (pv 4)) (J0 (Jq JU (pv 4) Jh) J7))))) (Jq JK (Jq JW (pv 5) Jh) Jh) (fun _ _=>rfl)))
   (Jl (Jr (i:=11) J0H.nd rfl (Or.inl rfl) (J02 (J0 (JE (l:=[110,111,110,101]) (by decide +kernel)) (J0 (J0f (J0 J2h (J0 J2h (J0 J2h J7)))) J7)))))) JI))
   (J3 (J26 (J03 (PW.pt (J6M (Jw J0j (Jq JK (pv 5) Jh) Jh (JA _)) (J4m (Jw J0j (Jq JK (Jq JW (pv 5) Jh) Jh) Jh (JA _))))) (J3 (Jr (i:=9) J0H.nd rfl (Or.inl rfl) (Jq J0c (pv 9) (JE (l:=[122,122]) (by decide +kernel))))
   (Jl (Jr (i:=11) J0H.nd rfl (Or.inl rfl) (J02 (J0 (JE (l:=[110,111,110,101]) (by decide +kernel)) (J0 (J0f (J0 J2h (J0 J2h (J0 J2h J7)))) J7)))))) JI))
   (J3 (J26 (J03 (Jw J0j (Jq JK (pv 5) Jh) Jh (JA _)) (J3 (Jr (i:=10) J0H.nd rfl (Or.inl rfl) (Jq J0c (pv 10) (JE (l:=[122,122]) (by decide +kernel))))
   (Jl (Jr (i:=11) J0H.nd rfl (Or.inl rfl) (J02 (J0 (JE (l:=[110,111,110,101]) (by decide +kernel)) (J0 (J0f (J0 J2h (J0 J2h (J0 J2h J7)))) J7)))))) JI))
   (J3 (J26 (J03 (Jw Jcr (pv 11) J8F (JA _)) (Jl (Jr (i:=11) J0H.nd rfl (Or.inl rfl) (JQ J7u (hr.mono (by decide)) (J0 (pv 1) (J0 (pv 2) (J0 (pv 6) (J0 (pv 7) (J0 (pv 8) J7)))))))) JI))
   (J3 (Jr (i:=12) J0H.nd rfl (Or.inl rfl) (J0M J0g rfl tx.J1Y J0q (J0 (pv 2) J7)))
   (J3 (J0I PassesOwn.never rfl (J0e rfl tx.J0n (J0 Jh J7)) (JD (i:=13) J0H.nd rfl (Or.inl rfl)) (J3 (Jr (i:=14) J0H.nd rfl (Or.inl rfl) (JQ J6g (hr.mono (by decide)) (J0 (pv 1) (J0 (pv 12) (J0 (pv 9) (J0 (pv 10) (J0 (pv 8) J7)))))))
   (J3 (J03 (PW.pt (J6M (Jw (JdR (K:=K) rfl (JeP hr)) (pv 14) (pv 11) (JA _)) (J4m (J8P (J34 (JB JaG rfl tx.J04 J0z (J0 (JF (J1v (K:=K) rfl) (pv 14) Jh (fun _ _=>rfl)) (J0 (Jep tx.J1Y J0q) J7)))))))) (Jl (Jx J2h)) JI)
   (J3 (J1W (J3H PySem.F.plainAttrs_list PySem.F.slot_list_append PySem.F.type_list_append J0L (JF (J1v (K:=K) rfl) (pv 14) Jh (fun _ _=>rfl)) (J0 (JE (l:=[120]) (by decide +kernel)) J7)))
   (Jl (J03 (Jw (Jdj (K:=K) rfl hr.units0) (pv 12) (pv 2) (JA _)) (Jl (Jx J2h)) JI))))))
   (Jl (Jx J2h)))))))))))))))))),?_⟩
  walk_at "st"
  clear JC J62 J7u J6g
  refine ⟨_,rfl,sc,ns,rfl,hS,hns,fun tc H1 o r rows s1 htc hx r1 r6 d1 hnm=>?_⟩
  have hS1:=s1.seq hS
  obtain ⟨dx,hh⟩:=id hx.ho
  have hcl:=tx.J00.cl
  have hclP:=tx.J0d.cl
  have c1:=tx.J0N
  have c2:=tx.JV
  have c3:=tx.JM
  have hr1:=hx.hr
  have hys:=hx.e2
  have pl6 : o.ps.length ≤ 6:=by have:=hx.rl; omega
  have hu:=Jed pl6 hnm
  have mp : (0 : Int) < ((rows.map T).length : Int):=by rw [List.length_map]; omega
  have dp : (0 : Int) < o.dd:=by omega
  have o0 : 0 ≤ J15 ns 19 / 12 % ((rows.map T).length : Int):=Int.emod_nonneg _ (by omega)
  have o1 : J15 ns 19 / 12 % ((rows.map T).length : Int) < ((rows.map T).length : Int):=Int.emod_lt_of_pos _ mp
  have t0 : 0 ≤ J15 ns 19 / 72 % ((rows.map T).length : Int):=Int.emod_nonneg _ (by omega)
  have t1 : J15 ns 19 / 72 % ((rows.map T).length : Int) < ((rows.map T).length : Int):=Int.emod_lt_of_pos _ mp
  have y0 : 0 ≤ J15 ns 19 / 432 % o.dd:=Int.emod_nonneg _ (by omega)
  have y1 : J15 ns 19 / 432 % o.dd < o.dd:=Int.emod_lt_of_pos _ dp
  have key : ∀ z : Int,0 ≤ z → z < ((rows.map T).length : Int) → ∃ (i : Nat) (n : Ps) (p : Addr),z = (i : Int) ∧ i < rows.length ∧ o.ps[i]? = some n ∧ atI o.ys z = some (.ref p) ∧ J5G J8 H1 p n.nm n.sk n.most n.car n.past:=fun z h0 h1=>by
   rw [List.length_map] at h1
   obtain ⟨i,rfl⟩:=Int.eq_ofNat_of_zero_le h0
   have il : i < o.ps.length:=by have:=hx.rl; omega
   obtain ⟨y,hy,p,rfl,hp⟩:=hx.pe.get (List.getElem?_eq_getElem il)
   exact ⟨i,_,p,rfl,by omega,List.getElem?_eq_getElem il,J05 hy,hp⟩
  obtain ⟨i,n1,q1,ei,il,hi,ai,⟨dx1,hq1⟩⟩:=key _ o0 o1
  obtain ⟨j,n2,q2,ej,jl,hj,aj,⟨dx2,hq2⟩⟩:=key _ t0 t1
  have l1 : n1.nm.length ≤ 15:=by rw [hnm i n1 hi]; exact J7L _ _
  have l2 : n2.nm.length ≤ 15:=by rw [hnm j n2 hj]; exact J7L _ _
  walk_at "rd"
  rw [ei,ej]
  clear ei ej o0 o1 t0 t1 ai aj key
  generalize J15 ns 19 / 432 % o.dd = D0 at y0 y1 ⊢
  generalize hml : ((rows.map T).length : Int) = ml
  generalize J15 ns 19 = c
  have mi : n1.nm ∈ nmsO o:=List.mem_map.mpr ⟨n1,List.mem_of_getElem? hi,rfl⟩
  have mj : n2.nm ∈ nmsO o:=List.mem_map.mpr ⟨n2,List.mem_of_getElem? hj,rfl⟩
  have hni : (nmsO o)[i]? = some n1.nm:=by unfold nmsO; rw [List.getElem?_map,hi]; rfl
  have hnj : (nmsO o)[j]? = some n2.nm:=by unfold nmsO; rw [List.getElem?_map,hj]; rfl
  walk_at "rd"
  refine tCut.mk (fun σ' H'=>Here (∃ v dy,σ' = [some (.ref sc),some (.ref o.h),some (.ref r),some (.int ml),some (.int o.dd),some (.int c),some (.int (i : Int)),some (.int (j : Int)),some (.int dy),some (T n1.nm),some (T n2.nm),some v,none,none,none] ∧ Same H1 H' ∧ (v = .non ∧ dy = D0 ∨ ∃ t l,v = .ref t ∧ OcAt H' t l .day ∧ (dy < 0 ∨ o.dd ≤ dy)))) ?_ ?_
  ·walk_at "rd"
   refine ite2 (fun _=>?_) (fun _=>?_)
   ·have k0 : 0 ≤ c / 12 % 4:=Int.emod_nonneg _ (by decide)
    have k1 : c / 12 % 4 < 4:=Int.emod_lt_of_pos _ (by decide)
    walk_at "rd"
    intro p np
    obtain ⟨H2,e2,hp2,s2⟩:=newl (xs:=[V.int (-1),V.int o.dd,V.int (0 - o.dd),V.int (o.dd + 7)]) np
    rw [← e2]
    clear e2
    obtain ⟨z,hz,zb⟩ : ∃ z,atI [V.int (-1),V.int o.dd,V.int (0 - o.dd),V.int (o.dd + 7)] (c / 12 % 4) = some (V.int z) ∧ (z < 0 ∨ o.dd ≤ z):=by
     generalize c / 12 % 4 = k at k0 k1
     obtain ⟨k,rfl⟩:=Int.eq_ofNat_of_zero_le k0
     match k,k1 with
     | 0,_=>exact ⟨_,rfl,.inl (by omega)⟩
     | 1,_=>exact ⟨_,rfl,.inr (by omega)⟩
     | 2,_=>exact ⟨_,rfl,.inl (by omega)⟩
     | 3,_=>exact ⟨_,rfl,.inr (by omega)⟩
     | k + 4,h=>omega
    walk_at "rd"
    intro l nl
    obtain ⟨H3,e3,hl3,s3⟩:=newl (xs:=[V.bl false,V.bl true,V.bl false]) nl
    rw [← e3]
    clear e3
    walk_at "rd"
    intro t nt
    have s13:=s2.trans s3
    exact Here.mk ⟨_,_,rfl,s13.upd (s13.free nt),.inr ⟨t,l,rfl,⟨Jd,by rw [Jn (Jj hl3 nt)]; exact hl3⟩,zb⟩⟩
   ·exact Here.mk ⟨_,_,rfl,Same.refl _,.inl ⟨rfl,rfl⟩⟩
  ·rintro σ' H2 hv
   obtain ⟨v,dy,rfl,s2,hv2⟩:=hv.out
   walk_at "rd"
   refine tCut.mk (fun σ' H'=>Here (∃ v nm,σ' = [some (.ref sc),some (.ref o.h),some (.ref r),some (.int ml),some (.int o.dd),some (.int c),some (.int (i : Int)),some (.int (j : Int)),some (.int dy),some (T nm),some (T n2.nm),some v,none,none,none] ∧ Same H1 H' ∧ (nm = n1.nm ∧ (v = .non ∧ dy = D0 ∨ ∃ t l,v = .ref t ∧ OcAt H' t l .day ∧ (dy < 0 ∨ o.dd ≤ dy)) ∨ (¬ nm ∈ nmsO o ∧ nm.length ≤ 17 ∧ ∃ t l,v = .ref t ∧ OcAt H' t l .nam)))) ?_ ?_
   ·walk_at "rd"
    refine ite2 (fun _=>?_) (fun _=>?_)
    ·refine ite2 (fun _=>?_) (fun z=>absurd rfl z)
     walk_at "rd"
     intro l nl
     obtain ⟨HA,eA,hlA,sA⟩:=newl (xs:=[V.bl true,V.bl false,V.bl false]) nl
     rw [← eA]
     clear eA
     walk_at "rd"
     intro t nt
     have s1A:=s2.trans sA
     exact Here.mk ⟨_,n1.nm ++ [122,122],rfl,s1A.upd (s1A.free nt),.inr ⟨JaA hnm hi,by rw [List.length_append]; simp; omega,t,l,rfl,⟨Jd,by rw [Jn (Jj hlA nt)]; exact hlA⟩⟩⟩
    ·walk_at "rd"
     refine ite2 (fun _=>?_) (fun _=>?_)
     ·skip
      walk_at "rd"
      intro l nl
      obtain ⟨HA,eA,hlA,sA⟩:=newl (xs:=[V.bl true,V.bl false,V.bl false]) nl
      rw [← eA]
      clear eA
      walk_at "rd"
      intro t nt
      have s1A:=s2.trans sA
      exact Here.mk ⟨_,n1.nm ++ [122,122],rfl,s1A.upd (s1A.free nt),.inr ⟨JaA hnm hi,by rw [List.length_append]; simp; omega,t,l,rfl,⟨Jd,by rw [Jn (Jj hlA nt)]; exact hlA⟩⟩⟩
     ·exact Here.mk ⟨_,_,rfl,s2,.inl ⟨rfl,hv2⟩⟩
   ·rintro σ' H3 hv
    obtain ⟨v3,nm,rfl,s3,hv3⟩:=hv.out
    have nl17 : nm.length ≤ 17:=by
     rcases hv3 with ⟨e,_⟩ | ⟨_,e,_⟩
     ·rw [e]; omega
     ·exact e
    walk_at "rd"
    refine tCut.mk (fun σ' H'=>Here (∃ v ot,σ' = [some (.ref sc),some (.ref o.h),some (.ref r),some (.int ml),some (.int o.dd),some (.int c),some (.int (i : Int)),some (.int (j : Int)),some (.int dy),some (T nm),some (T ot),some v,none,none,none] ∧ Same H1 H' ∧ ot.length ≤ 17 ∧ (v = .non ∧ dy = D0 ∧ nm = n1.nm ∧ ot = n2.nm ∨ ∃ t l oc,v = .ref t ∧ OcAt H' t l oc ∧ SwOc o rows nm ot dy oc ∧ (oc = .nam ∨ oc = .day)))) ?_ ?_
    ·walk_at "rd"
     refine ite2 (fun _=>?_) (fun _=>?_)
     ·skip
      walk_at "rd"
      intro l nl
      obtain ⟨HA,eA,hlA,sA⟩:=newl (xs:=[V.bl true,V.bl false,V.bl false]) nl
      rw [← eA]
      clear eA
      walk_at "rd"
      intro t nt
      have s1A:=s3.trans sA
      exact Here.mk ⟨_,n2.nm ++ [122,122],rfl,s1A.upd (s1A.free nt),by rw [List.length_append]; simp; omega,.inr ⟨t,l,.nam,rfl,⟨Jd,by rw [Jn (Jj hlA nt)]; exact hlA⟩,.inr (JaA hnm hj),.inl rfl⟩⟩
     ·refine Here.mk ⟨_,_,rfl,s3,by omega,?_⟩
      rcases hv3 with ⟨e,⟨e1,e2⟩ | ⟨t,l,e1,e2,e3⟩⟩ | ⟨e1,_,t,l,e2,e3⟩
      ·exact .inl ⟨e1,e2,e,rfl⟩
      ·exact .inr ⟨t,l,.day,e1,e2,⟨by rw [e]; exact mi,mj,e3⟩,.inr rfl⟩
      ·exact .inr ⟨t,l,.nam,e2,e3,.inl e1,.inl rfl⟩
    ·rintro σ' H4 hv
     obtain ⟨v4,ot,rfl,s4,ol17,hv4⟩:=hv.out
     have hx4:=hx.same s4
     have hr4:=hx4.hr
     walk_at "rd"
     refine tCut.mk (fun σ' H'=>Here (∃ t l oc,σ' = [some (.ref sc),some (.ref o.h),some (.ref r),some (.int ml),some (.int o.dd),some (.int c),some (.int (i : Int)),some (.int (j : Int)),some (.int dy),some (T nm),some (T ot),some (.ref t),none,none,none] ∧ Same H1 H' ∧ OcAt H' t l oc ∧ SwOc o rows nm ot dy oc ∧ ∀ f,oc = .flt f → f.all J09 = true)) ?_ ?_
     ·rcases hv4 with ⟨rfl,rfl,rfl,rfl⟩ | ⟨t,l,oc,rfl,e1,e2,e3⟩
      ·walk_at "rd"
       intro t l H5 oc s5 nl hoc hres
       rcases hres with ⟨rfl,hF⟩ | ⟨f,fs,rfl,hF⟩
       ·exact Here.mk ⟨t,l,_,rfl,s4.trans s5,hoc,⟨i,j,hni,hnj,y0,y1,hF,rfl⟩,fun f z=>nomatch z⟩
       ·refine Here.mk ⟨t,l,_,rfl,s4.trans s5,hoc,⟨i,j,fs,hni,hnj,y0,y1,hF⟩,fun f' z=>?_⟩
        cases z
        obtain ⟨_,_,_,_,_,hf⟩:=J4L (show f ∈ o.F (swR rows i j dy) by rw [hF]; exact List.mem_cons_self)
        exact hf
      ·walk_at "rd"
       exact Here.mk ⟨t,l,oc,rfl,s4,e1,e2,fun f z=>by rcases e3 with rfl | rfl <;> cases z⟩
     ·rintro σ' H5 hv
      obtain ⟨td,ld,oc,rfl,s5,hoc,hsw,hfl⟩:=hv.out
      have hx5:=hx.same s5
      have hr5:=hx5.hr
      walk_at "rd"
      intro L nL
      obtain ⟨H6,e6,hL,s6⟩:=newl (xs:=rows.map T) nL
      rw [← e6]
      clear e6
      have s56:=s5.trans s6
      have hx6:=hx5.same s6
      have hfL:=hx6.rota hL
      have hoc6:=hoc.same s6
      have hr6:=hx6.hr
      have nLr : r ≠ L:=Jj hr5 nL
      have ff : (rows.map T).all J09 = true:=List.all_eq_true.mpr fun x hx=>by
       obtain ⟨n,_,rfl⟩:=List.mem_map.mp hx
       rfl
      walk_at "rd"
      refine J14 (n:=2) (fun k σ HX=>Here (∃ (v1 v2 : Option V),σ = [some (.ref sc),some (.ref o.h),some (.ref r),some (.int ml),some (.int o.dd),some (.int c),some (.int (i : Int)),some (.int (j : Int)),some (.int dy),some (T nm),some (T ot),some (.ref td),some (.ref L),v1,v2] ∧ Same H6 HX))
       (Here.mk ⟨none,none,rfl,Same.refl _⟩) ?_ ?_
      ·rintro k σ HX hk hv
       obtain ⟨v1,v2,rfl,sX⟩:=hv.out
       have hxX:=hfL.same sX
       walk_at "rd"
       intro t l H7 s7 nl hoc7
       obtain ⟨a,xs,ys,g1,g2,g3,g4,_,g5⟩:=OcAt.two (K:=K) hoc7 ((hoc6.same sX).same s7) hfl
       have xl:=OcAt.len r6 hoc7 hsw g3
       have xl100 : xs.length ≤ 100:=by omega
       have i1 : atI [T a,V.ref l] 1 = some (V.ref l):=rfl
       have hT : SqT K H7 t [T a,.ref l]:=SqT.of g1
       have LX:=sX _ _ hL
       have rX:=sX _ _ hr6
       have L8 : upd H7 l (.lst (xs ++ [T [120]])) L = some (.lst (rows.map T)):=by rw [Jn (Jj LX nl)]; exact s7 _ _ LX
       have r8 : upd H7 l (.lst (xs ++ [T [120]])) r = some (.lst (rows.map T)):=by rw [Jn (Jj rX nl)]; exact s7 _ _ rX
       have s8 : Same H6 (upd H7 l (.lst (xs ++ [T [120]]))):=(sX.trans s7).upd (sX.free nl)
       walk_at "rd"
       refine ite2 (fun z=>absurd z (by simp [J3m ff])) (fun _=>?_)
       exact Here.mk ⟨_,_,rfl,s8⟩
      ·rintro σ HX hv
       obtain ⟨v1,v2,rfl,sX⟩:=hv.out
       walk_at "rd"
       exact q _
end
open PySem.W in
theorem all_mk {l : OpenLaw} {w : World} {K : Frag} {h : Heap} {mg : Str → Option Value} {fa Jk Jo Ji Jp Je Js J8 J4 J6 Jf Jc Ja Jm Jg Jb J5 q1 q2 q3 q4 q5 q6 q7 q8 q9 q10 q11 q12 q13 q14 q15 q16 q17 q18 q19 q20 q21 q22 q23 q24 q25 q26 q27 q28 q29 q30 q31 q32 q33 q34 q35 q36 q37 q38 q39 q40 q41 q42 q43 q44 q45 q46 q47 q48 q49 q50 q51 q52 q53 q54 : Addr} (X : K.In h) (G : h.Ns mainGlobals mg) (hfa : mg "law" = some (.ref fa))
  {od1 an1 od2 an2 od3 an3 od4 an4 od5 an5 od6 an6 od7 an7 od8 an8 od9 an9 od10 an10 od11 an11 od12 an12 od13 an13 od14 an14 od15 an15 od16 an16 od17 an17 od18 an18 od19 an19 od20 an20 od21 an21 od22 an22 od23 an23 od24 an24 od25 an25 od26 an26 od27 an27 od28 an28 od29 an29 od30 an30 od31 an31 od32 an32 od33 an33 od34 an34 od35 an35 od36 an36 od37 an37 od38 an38 od39 an39 od40 an40 od41 an41 od42 an42 od43 an43 od44 an44 od45 an45 od46 an46 od47 an47 od48 an48 od49 an49 od50 an50 od51 an51 od52 an52 od53 an53 od54 an54 : Option Addr} {sl1 sl2 sl3 sl4 sl5 sl6 sl7 sl8 sl9 sl10 sl11 sl12 sl13 sl14 sl15 sl16 sl17 sl18 sl19 sl20 sl21 sl22 sl23 sl24 sl25 sl26 sl27 sl28 sl29 sl30 sl31 sl32 sl33 sl34 sl35 sl36 sl37 sl38 sl39 sl40 sl41 sl42 sl43 sl44 sl45 sl46 sl47 sl48 sl49 sl50 sl51 sl52 sl53 sl54 : Array (Option Value)} {oc1 kV1 dc1 pm1 cd1 ct1 oc2 kV2 dc2 pm2 cd2 ct2 oc3 kV3 dc3 pm3 cd3 ct3 oc4 kV4 dc4 pm4 cd4 ct4 oc5 kV5 dc5 pm5 cd5 ct5 oc6 kV6 dc6 pm6 cd6 ct6 oc7 kV7 dc7 pm7 cd7 ct7 oc8 kV8 dc8 pm8 cd8 ct8 oc9 kV9 dc9 pm9 cd9 ct9 oc10 kV10 dc10 pm10 cd10 ct10 oc11 kV11 dc11 pm11 cd11 ct11 oc12 kV12 dc12 pm12 cd12 ct12 oc13 kV13 dc13 pm13 cd13 ct13 oc14 kV14 dc14 pm14 cd14 ct14 oc15 kV15 dc15 pm15 cd15 ct15 oc16 kV16 dc16 pm16 cd16 ct16 oc17 kV17 dc17 pm17 cd17 ct17 oc18 kV18 dc18 pm18 cd18 ct18 oc19 kV19 dc19 pm19 cd19 ct19 oc20 kV20 dc20 pm20 cd20 ct20 oc21 kV21 dc21 pm21 cd21 ct21 oc22 kV22 dc22 pm22 cd22 ct22 oc23 kV23 dc23 pm23 cd23 ct23 oc24 kV24 dc24 pm24 cd24 ct24 oc25 kV25 dc25 pm25 cd25 ct25 oc26 kV26 dc26 pm26 cd26 ct26 oc27 kV27 dc27 pm27 cd27 ct27 oc28 kV28 dc28 pm28 cd28 ct28 oc29 kV29 dc29 pm29 cd29 ct29 oc30 kV30 dc30 pm30 cd30 ct30 oc31 kV31 dc31 pm31 cd31 ct31 oc32 kV32 dc32 pm32 cd32 ct32 oc33 kV33 dc33 pm33 cd33 ct33 oc34 kV34 dc34 pm34 cd34 ct34 oc35 kV35 dc35 pm35 cd35 ct35 oc36 kV36 dc36 pm36 cd36 ct36 oc37 kV37 dc37 pm37 cd37 ct37 oc38 kV38 dc38 pm38 cd38 ct38 oc39 kV39 dc39 pm39 cd39 ct39 oc40 kV40 dc40 pm40 cd40 ct40 oc41 kV41 dc41 pm41 cd41 ct41 oc42 kV42 dc42 pm42 cd42 ct42 oc43 kV43 dc43 pm43 cd43 ct43 oc44 kV44 dc44 pm44 cd44 ct44 oc45 kV45 dc45 pm45 cd45 ct45 oc46 kV46 dc46 pm46 cd46 ct46 oc47 kV47 dc47 pm47 cd47 ct47 oc48 kV48 dc48 pm48 cd48 ct48 oc49 kV49 dc49 pm49 cd49 ct49 oc50 kV50 dc50 pm50 cd50 ct50 oc51 kV51 dc51 pm51 cd51 ct51 oc52 kV52 dc52 pm52 cd52 ct52 oc53 kV53 dc53 pm53 cd53 ct53 oc54 kV54 dc54 pm54 cd54 ct54 : Value}
  (J7W : nsIn K mainGlobals "Never" = some (some (.ref Jk)))
  (Jad : nsIn K mainGlobals "Most" = some (some (.ref Jo)))
  (J8f : nsIn K mainGlobals "Least" = some (some (.ref Ji)))
  (Jaf : nsIn K mainGlobals "Both" = some (some (.ref Jp)))
  (J64 : nsIn K mainGlobals "Either" = some (some (.ref Je)))
  (Jcd : nsIn K mainGlobals "Not" = some (some (.ref Js)))
  (J5Z : nsIn K mainGlobals "Person" = some (some (.ref J8)))
  (J88 : nsIn K mainGlobals "House" = some (some (.ref J4)))
  (J3L : nsIn K mainGlobals "RotaError" = some (some (.ref J6)))
  (J83 : nsIn K mainGlobals "NoDay" = some (some (.ref Jf)))
  (J5i : nsIn K mainGlobals "NoHouse" = some (some (.ref Jc)))
  (J6l : nsIn K mainGlobals "NoName" = some (some (.ref Ja)))
  (J82 : nsIn K mainGlobals "NoRow" = some (some (.ref Jm)))
  (J69 : nsIn K mainGlobals "NoRule" = some (some (.ref Jg)))
  (J5g : nsIn K mainGlobals "TooWide" = some (some (.ref Jb)))
  (J5Q : nsIn K mainGlobals "Faulty" = some (some (.ref J5)))
  (a1 : nsIn K mainGlobals "fits" = some (some (.ref q1)))
  (l1 : K.lookup q1 = some ⟨oc1,od1,.func (fnOf "fits" "fits" (Ju J5k) (Jt J5k) (J9 J5k) .none kV1 dc1 pm1 an1 cd1 ct1),sl1⟩)
  (c1 : codeIn K cd1 "fits" = true)
  (k1 : keepIn K (.ref q1) = true)
  (a2 : nsIn K mainGlobals "last_marks" = some (some (.ref q2)))
  (l2 : K.lookup q2 = some ⟨oc2,od2,.func (fnOf "last_marks" "last_marks" (Ju J1Q) (Jt J1Q) (J9 J1Q) .none kV2 dc2 pm2 an2 cd2 ct2),sl2⟩)
  (c2 : codeIn K cd2 "last_marks" = true)
  (k2 : keepIn K (.ref q2) = true)
  (a3 : nsIn K mainGlobals "let_by" = some (some (.ref q3)))
  (l3 : K.lookup q3 = some ⟨oc3,od3,.func (fnOf "let_by" "let_by" (Ju J2X) (Jt J2X) (J9 J2X) .none kV3 dc3 pm3 an3 cd3 ct3),sl3⟩)
  (c3 : codeIn K cd3 "let_by" = true)
  (k3 : keepIn K (.ref q3) = true)
  (a4 : nsIn K mainGlobals "count_among" = some (some (.ref q4)))
  (l4 : K.lookup q4 = some ⟨oc4,od4,.func (fnOf "count_among" "count_among" (Ju J0S) (Jt J0S) (J9 J0S) .none kV4 dc4 pm4 an4 cd4 ct4),sl4⟩)
  (c4 : codeIn K cd4 "count_among" = true)
  (k4 : keepIn K (.ref q4) = true)
  (a5 : findIn K (.ref Jk) "__init__" = some (some (.ref q5)))
  (i5 : isFn K (.ref q5) = true)
  (l5 : K.lookup q5 = some ⟨oc5,od5,.func (fnOf "__init__" "Never.__init__" (Ju J1J) (Jt J1J) (J9 J1J) .none kV5 dc5 pm5 an5 cd5 ct5),sl5⟩)
  (c5 : codeIn K cd5 "Never.__init__" = true)
  (k5 : keepIn K (.ref q5) = true)
  (a6 : findIn K (.ref Jk) "bad" = some (some (.ref q6)))
  (i6 : isFn K (.ref q6) = true)
  (l6 : K.lookup q6 = some ⟨oc6,od6,.func (fnOf "bad" "Never.bad" (Ju J1A) (Jt J1A) (J9 J1A) .none kV6 dc6 pm6 an6 cd6 ct6),sl6⟩)
  (c6 : codeIn K cd6 "Never.bad" = true)
  (k6 : keepIn K (.ref q6) = true)
  (a7 : findIn K (.ref Jo) "__init__" = some (some (.ref q7)))
  (i7 : isFn K (.ref q7) = true)
  (l7 : K.lookup q7 = some ⟨oc7,od7,.func (fnOf "__init__" "Most.__init__" (Ju J2a) (Jt J2a) (J9 J2a) .none kV7 dc7 pm7 an7 cd7 ct7),sl7⟩)
  (c7 : codeIn K cd7 "Most.__init__" = true)
  (k7 : keepIn K (.ref q7) = true)
  (a8 : findIn K (.ref Jo) "bad" = some (some (.ref q8)))
  (i8 : isFn K (.ref q8) = true)
  (l8 : K.lookup q8 = some ⟨oc8,od8,.func (fnOf "bad" "Most.bad" (Ju J2y) (Jt J2y) (J9 J2y) .none kV8 dc8 pm8 an8 cd8 ct8),sl8⟩)
  (c8 : codeIn K cd8 "Most.bad" = true)
  (k8 : keepIn K (.ref q8) = true)
  (a9 : findIn K (.ref Ji) "__init__" = some (some (.ref q9)))
  (i9 : isFn K (.ref q9) = true)
  (l9 : K.lookup q9 = some ⟨oc9,od9,.func (fnOf "__init__" "Least.__init__" (Ju J1M) (Jt J1M) (J9 J1M) .none kV9 dc9 pm9 an9 cd9 ct9),sl9⟩)
  (c9 : codeIn K cd9 "Least.__init__" = true)
  (k9 : keepIn K (.ref q9) = true)
  (a10 : findIn K (.ref Ji) "bad" = some (some (.ref q10)))
  (i10 : isFn K (.ref q10) = true)
  (l10 : K.lookup q10 = some ⟨oc10,od10,.func (fnOf "bad" "Least.bad" (Ju J2e) (Jt J2e) (J9 J2e) .none kV10 dc10 pm10 an10 cd10 ct10),sl10⟩)
  (c10 : codeIn K cd10 "Least.bad" = true)
  (k10 : keepIn K (.ref q10) = true)
  (a11 : findIn K (.ref Jp) "__init__" = some (some (.ref q11)))
  (i11 : isFn K (.ref q11) = true)
  (l11 : K.lookup q11 = some ⟨oc11,od11,.func (fnOf "__init__" "Both.__init__" (Ju J29) (Jt J29) (J9 J29) .none kV11 dc11 pm11 an11 cd11 ct11),sl11⟩)
  (c11 : codeIn K cd11 "Both.__init__" = true)
  (k11 : keepIn K (.ref q11) = true)
  (a12 : findIn K (.ref Je) "__init__" = some (some (.ref q12)))
  (i12 : isFn K (.ref q12) = true)
  (l12 : K.lookup q12 = some ⟨oc12,od12,.func (fnOf "__init__" "Either.__init__" (Ju J1q) (Jt J1q) (J9 J1q) .none kV12 dc12 pm12 an12 cd12 ct12),sl12⟩)
  (c12 : codeIn K cd12 "Either.__init__" = true)
  (k12 : keepIn K (.ref q12) = true)
  (a13 : findIn K (.ref Js) "__init__" = some (some (.ref q13)))
  (i13 : isFn K (.ref q13) = true)
  (l13 : K.lookup q13 = some ⟨oc13,od13,.func (fnOf "__init__" "Not.__init__" (Ju J2w) (Jt J2w) (J9 J2w) .none kV13 dc13 pm13 an13 cd13 ct13),sl13⟩)
  (c13 : codeIn K cd13 "Not.__init__" = true)
  (k13 : keepIn K (.ref q13) = true)
  (a14 : findIn K (.ref Jp) "bad" = some (some (.ref q14)))
  (i14 : isFn K (.ref q14) = true)
  (l14 : K.lookup q14 = some ⟨oc14,od14,.func (fnOf "bad" "Both.bad" (Ju J2t) (Jt J2t) (J9 J2t) .none kV14 dc14 pm14 an14 cd14 ct14),sl14⟩)
  (c14 : codeIn K cd14 "Both.bad" = true)
  (k14 : keepIn K (.ref q14) = true)
  (a15 : findIn K (.ref Je) "bad" = some (some (.ref q15)))
  (i15 : isFn K (.ref q15) = true)
  (l15 : K.lookup q15 = some ⟨oc15,od15,.func (fnOf "bad" "Either.bad" (Ju J1V) (Jt J1V) (J9 J1V) .none kV15 dc15 pm15 an15 cd15 ct15),sl15⟩)
  (c15 : codeIn K cd15 "Either.bad" = true)
  (k15 : keepIn K (.ref q15) = true)
  (a16 : findIn K (.ref Js) "bad" = some (some (.ref q16)))
  (i16 : isFn K (.ref q16) = true)
  (l16 : K.lookup q16 = some ⟨oc16,od16,.func (fnOf "bad" "Not.bad" (Ju J2S) (Jt J2S) (J9 J2S) .none kV16 dc16 pm16 an16 cd16 ct16),sl16⟩)
  (c16 : codeIn K cd16 "Not.bad" = true)
  (k16 : keepIn K (.ref q16) = true)
  (a17 : nsIn K mainGlobals "bad_days" = some (some (.ref q17)))
  (l17 : K.lookup q17 = some ⟨oc17,od17,.func (fnOf "bad_days" "bad_days" (Ju J25) (Jt J25) (J9 J25) .none kV17 dc17 pm17 an17 cd17 ct17),sl17⟩)
  (c17 : codeIn K cd17 "bad_days" = true)
  (k17 : keepIn K (.ref q17) = true)
  (a18 : findIn K (.ref J8) "__init__" = some (some (.ref q18)))
  (i18 : isFn K (.ref q18) = true)
  (l18 : K.lookup q18 = some ⟨oc18,od18,.func (fnOf "__init__" "Person.__init__" (Ju J1t) (Jt J1t) (J9 J1t) .none kV18 dc18 pm18 an18 cd18 ct18),sl18⟩)
  (c18 : codeIn K cd18 "Person.__init__" = true)
  (k18 : keepIn K (.ref q18) = true)
  (a19 : findIn K (.ref J4) "__init__" = some (some (.ref q19)))
  (i19 : isFn K (.ref q19) = true)
  (l19 : K.lookup q19 = some ⟨oc19,od19,.func (fnOf "__init__" "House.__init__" (Ju J1S) (Jt J1S) (J9 J1S) .none kV19 dc19 pm19 an19 cd19 ct19),sl19⟩)
  (c19 : codeIn K cd19 "House.__init__" = true)
  (k19 : keepIn K (.ref q19) = true)
  (a20 : findIn K (.ref J4) "need" = some (some (.ref q20)))
  (i20 : isFn K (.ref q20) = true)
  (l20 : K.lookup q20 = some ⟨oc20,od20,.func (fnOf "need" "House.need" (Ju J1T) (Jt J1T) (J9 J1T) .none kV20 dc20 pm20 an20 cd20 ct20),sl20⟩)
  (c20 : codeIn K cd20 "House.need" = true)
  (k20 : keepIn K (.ref q20) = true)
  (a21 : nsIn K mainGlobals "duties_in" = some (some (.ref q21)))
  (l21 : K.lookup q21 = some ⟨oc21,od21,.func (fnOf "duties_in" "duties_in" (Ju J1y) (Jt J1y) (J9 J1y) .none kV21 dc21 pm21 an21 cd21 ct21),sl21⟩)
  (c21 : codeIn K cd21 "duties_in" = true)
  (k21 : keepIn K (.ref q21) = true)
  (a22 : findIn K (.ref J4) "place_of" = some (some (.ref q22)))
  (i22 : isFn K (.ref q22) = true)
  (l22 : K.lookup q22 = some ⟨oc22,od22,.func (fnOf "place_of" "House.place_of" (Ju J0A) (Jt J0A) (J9 J0A) .none kV22 dc22 pm22 an22 cd22 ct22),sl22⟩)
  (c22 : codeIn K cd22 "House.place_of" = true)
  (k22 : keepIn K (.ref q22) = true)
  (a23 : nsIn K mainGlobals "on_duty" = some (some (.ref q23)))
  (l23 : K.lookup q23 = some ⟨oc23,od23,.func (fnOf "on_duty" "on_duty" (Ju J2r) (Jt J2r) (J9 J2r) .none kV23 dc23 pm23 an23 cd23 ct23),sl23⟩)
  (c23 : codeIn K cd23 "on_duty" = true)
  (k23 : keepIn K (.ref q23) = true)
  (a24 : nsIn K mainGlobals "skill_faults" = some (some (.ref q24)))
  (l24 : K.lookup q24 = some ⟨oc24,od24,.func (fnOf "skill_faults" "skill_faults" (Ju J0D) (Jt J0D) (J9 J0D) .none kV24 dc24 pm24 an24 cd24 ct24),sl24⟩)
  (c24 : codeIn K cd24 "skill_faults" = true)
  (k24 : keepIn K (.ref q24) = true)
  (a25 : nsIn K mainGlobals "leave_faults" = some (some (.ref q25)))
  (l25 : K.lookup q25 = some ⟨oc25,od25,.func (fnOf "leave_faults" "leave_faults" (Ju J0F) (Jt J0F) (J9 J0F) .none kV25 dc25 pm25 an25 cd25 ct25),sl25⟩)
  (c25 : codeIn K cd25 "leave_faults" = true)
  (k25 : keepIn K (.ref q25) = true)
  (a26 : nsIn K mainGlobals "need_faults" = some (some (.ref q26)))
  (l26 : K.lookup q26 = some ⟨oc26,od26,.func (fnOf "need_faults" "need_faults" (Ju J0U) (Jt J0U) (J9 J0U) .none kV26 dc26 pm26 an26 cd26 ct26),sl26⟩)
  (c26 : codeIn K cd26 "need_faults" = true)
  (k26 : keepIn K (.ref q26) = true)
  (a27 : nsIn K mainGlobals "most_faults" = some (some (.ref q27)))
  (l27 : K.lookup q27 = some ⟨oc27,od27,.func (fnOf "most_faults" "most_faults" (Ju J1s) (Jt J1s) (J9 J1s) .none kV27 dc27 pm27 an27 cd27 ct27),sl27⟩)
  (c27 : codeIn K cd27 "most_faults" = true)
  (k27 : keepIn K (.ref q27) = true)
  (a28 : findIn K (.ref J4) "rules_for" = some (some (.ref q28)))
  (i28 : isFn K (.ref q28) = true)
  (l28 : K.lookup q28 = some ⟨oc28,od28,.func (fnOf "rules_for" "House.rules_for" (Ju J06) (Jt J06) (J9 J06) .none kV28 dc28 pm28 an28 cd28 ct28),sl28⟩)
  (c28 : codeIn K cd28 "House.rules_for" = true)
  (k28 : keepIn K (.ref q28) = true)
  (a29 : nsIn K mainGlobals "rule_faults" = some (some (.ref q29)))
  (l29 : K.lookup q29 = some ⟨oc29,od29,.func (fnOf "rule_faults" "rule_faults" (Ju J0T) (Jt J0T) (J9 J0T) .none kV29 dc29 pm29 an29 cd29 ct29),sl29⟩)
  (c29 : codeIn K cd29 "rule_faults" = true)
  (k29 : keepIn K (.ref q29) = true)
  (a30 : nsIn K mainGlobals "breaks_pair" = some (some (.ref q30)))
  (l30 : K.lookup q30 = some ⟨oc30,od30,.func (fnOf "breaks_pair" "breaks_pair" (Ju J1i) (Jt J1i) (J9 J1i) .none kV30 dc30 pm30 an30 cd30 ct30),sl30⟩)
  (c30 : codeIn K cd30 "breaks_pair" = true)
  (k30 : keepIn K (.ref q30) = true)
  (a31 : nsIn K mainGlobals "pair_faults" = some (some (.ref q31)))
  (l31 : K.lookup q31 = some ⟨oc31,od31,.func (fnOf "pair_faults" "pair_faults" (Ju J1j) (Jt J1j) (J9 J1j) .none kV31 dc31 pm31 an31 cd31 ct31),sl31⟩)
  (c31 : codeIn K cd31 "pair_faults" = true)
  (k31 : keepIn K (.ref q31) = true)
  (a32 : nsIn K mainGlobals "faults" = some (some (.ref q32)))
  (l32 : K.lookup q32 = some ⟨oc32,od32,.func (fnOf "faults" "faults" (Ju J3j) (Jt J3j) (J9 J3j) .none kV32 dc32 pm32 an32 cd32 ct32),sl32⟩)
  (c32 : codeIn K cd32 "faults" = true)
  (k32 : keepIn K (.ref q32) = true)
  (a33 : nsIn K mainGlobals "_law_cell_at" = some (some (.ref q33)))
  (l33 : K.lookup q33 = some ⟨oc33,od33,.func (fnOf "_law_cell_at" "_law_cell_at" (Ju J1c) (Jt J1c) (J9 J1c) .none kV33 dc33 pm33 an33 cd33 ct33),sl33⟩)
  (c33 : codeIn K cd33 "_law_cell_at" = true)
  (k33 : keepIn K (.ref q33) = true)
  (a34 : nsIn K mainGlobals "_law_stream" = some (some (.ref q34)))
  (l34 : K.lookup q34 = some ⟨oc34,od34,.func (fnOf "_law_stream" "_law_stream" (Ju J1O) (Jt J1O) (J9 J1O) .none kV34 dc34 pm34 an34 cd34 ct34),sl34⟩)
  (c34 : codeIn K cd34 "_law_stream" = true)
  (k34 : keepIn K (.ref q34) = true)
  (a35 : nsIn K mainGlobals "_law_kinds" = some (some (.ref q35)))
  (l35 : K.lookup q35 = some ⟨oc35,od35,.func (fnOf "_law_kinds" "_law_kinds" (Ju J1x) (Jt J1x) (J9 J1x) .none kV35 dc35 pm35 an35 cd35 ct35),sl35⟩)
  (c35 : codeIn K cd35 "_law_kinds" = true)
  (k35 : keepIn K (.ref q35) = true)
  (a36 : nsIn K mainGlobals "_law_name" = some (some (.ref q36)))
  (l36 : K.lookup q36 = some ⟨oc36,od36,.func (fnOf "_law_name" "_law_name" (Ju J24) (Jt J24) (J9 J24) .none kV36 dc36 pm36 an36 cd36 ct36),sl36⟩)
  (c36 : codeIn K cd36 "_law_name" = true)
  (k36 : keepIn K (.ref q36) = true)
  (a37 : nsIn K mainGlobals "_law_planted" = some (some (.ref q37)))
  (l37 : K.lookup q37 = some ⟨oc37,od37,.func (fnOf "_law_planted" "_law_planted" (Ju J1h) (Jt J1h) (J9 J1h) .none kV37 dc37 pm37 an37 cd37 ct37),sl37⟩)
  (c37 : codeIn K cd37 "_law_planted" = true)
  (k37 : keepIn K (.ref q37) = true)
  (a38 : nsIn K mainGlobals "_law_needs_about" = some (some (.ref q38)))
  (l38 : K.lookup q38 = some ⟨oc38,od38,.func (fnOf "_law_needs_about" "_law_needs_about" (Ju J08) (Jt J08) (J9 J08) .none kV38 dc38 pm38 an38 cd38 ct38),sl38⟩)
  (c38 : codeIn K cd38 "_law_needs_about" = true)
  (k38 : keepIn K (.ref q38) = true)
  (a39 : nsIn K mainGlobals "_law_carried" = some (some (.ref q39)))
  (l39 : K.lookup q39 = some ⟨oc39,od39,.func (fnOf "_law_carried" "_law_carried" (Ju J1p) (Jt J1p) (J9 J1p) .none kV39 dc39 pm39 an39 cd39 ct39),sl39⟩)
  (c39 : codeIn K cd39 "_law_carried" = true)
  (k39 : keepIn K (.ref q39) = true)
  (a40 : nsIn K mainGlobals "_law_persons_about" = some (some (.ref q40)))
  (l40 : K.lookup q40 = some ⟨oc40,od40,.func (fnOf "_law_persons_about" "_law_persons_about" (Ju JX) (Jt JX) (J9 JX) .none kV40 dc40 pm40 an40 cd40 ct40),sl40⟩)
  (c40 : codeIn K cd40 "_law_persons_about" = true)
  (k40 : keepIn K (.ref q40) = true)
  (a41 : nsIn K mainGlobals "_law_leave_about" = some (some (.ref q41)))
  (l41 : K.lookup q41 = some ⟨oc41,od41,.func (fnOf "_law_leave_about" "_law_leave_about" (Ju J0l) (Jt J0l) (J9 J0l) .none kV41 dc41 pm41 an41 cd41 ct41),sl41⟩)
  (c41 : codeIn K cd41 "_law_leave_about" = true)
  (k41 : keepIn K (.ref q41) = true)
  (a42 : nsIn K mainGlobals "_law_rule" = some (some (.ref q42)))
  (l42 : K.lookup q42 = some ⟨oc42,od42,.func (fnOf "_law_rule" "_law_rule" (Ju J2x) (Jt J2x) (J9 J2x) .none kV42 dc42 pm42 an42 cd42 ct42),sl42⟩)
  (c42 : codeIn K cd42 "_law_rule" = true)
  (k42 : keepIn K (.ref q42) = true)
  (a43 : nsIn K mainGlobals "_law_rules_about" = some (some (.ref q43)))
  (l43 : K.lookup q43 = some ⟨oc43,od43,.func (fnOf "_law_rules_about" "_law_rules_about" (Ju J0m) (Jt J0m) (J9 J0m) .none kV43 dc43 pm43 an43 cd43 ct43),sl43⟩)
  (c43 : codeIn K cd43 "_law_rules_about" = true)
  (k43 : keepIn K (.ref q43) = true)
  (a44 : nsIn K mainGlobals "_law_pairs_about" = some (some (.ref q44)))
  (l44 : K.lookup q44 = some ⟨oc44,od44,.func (fnOf "_law_pairs_about" "_law_pairs_about" (Ju J0o) (Jt J0o) (J9 J0o) .none kV44 dc44 pm44 an44 cd44 ct44),sl44⟩)
  (c44 : codeIn K cd44 "_law_pairs_about" = true)
  (k44 : keepIn K (.ref q44) = true)
  (a45 : findIn K (.ref J5) "__init__" = some (some (.ref q45)))
  (i45 : isFn K (.ref q45) = true)
  (l45 : K.lookup q45 = some ⟨oc45,od45,.func (fnOf "__init__" "Faulty.__init__" (Ju J1g) (Jt J1g) (J9 J1g) .none kV45 dc45 pm45 an45 cd45 ct45),sl45⟩)
  (c45 : codeIn K cd45 "Faulty.__init__" = true)
  (k45 : keepIn K (.ref q45) = true)
  (a46 : nsIn K mainGlobals "refuse_faults" = some (some (.ref q46)))
  (l46 : K.lookup q46 = some ⟨oc46,od46,.func (fnOf "refuse_faults" "refuse_faults" (Ju J0J) (Jt J0J) (J9 J0J) .none kV46 dc46 pm46 an46 cd46 ct46),sl46⟩)
  (c46 : codeIn K cd46 "refuse_faults" = true)
  (k46 : keepIn K (.ref q46) = true)
  (a47 : nsIn K mainGlobals "row_with" = some (some (.ref q47)))
  (l47 : K.lookup q47 = some ⟨oc47,od47,.func (fnOf "row_with" "row_with" (Ju J2v) (Jt J2v) (J9 J2v) .none kV47 dc47 pm47 an47 cd47 ct47),sl47⟩)
  (c47 : codeIn K cd47 "row_with" = true)
  (k47 : keepIn K (.ref q47) = true)
  (a48 : nsIn K mainGlobals "refuse_day" = some (some (.ref q48)))
  (l48 : K.lookup q48 = some ⟨oc48,od48,.func (fnOf "refuse_day" "refuse_day" (Ju J1N) (Jt J1N) (J9 J1N) .none kV48 dc48 pm48 an48 cd48 ct48),sl48⟩)
  (c48 : codeIn K cd48 "refuse_day" = true)
  (k48 : keepIn K (.ref q48) = true)
  (a49 : nsIn K mainGlobals "swapped" = some (some (.ref q49)))
  (l49 : K.lookup q49 = some ⟨oc49,od49,.func (fnOf "swapped" "swapped" (Ju J2T) (Jt J2T) (J9 J2T) .none kV49 dc49 pm49 an49 cd49 ct49),sl49⟩)
  (c49 : codeIn K cd49 "swapped" = true)
  (k49 : keepIn K (.ref q49) = true)
  (a50 : nsIn K mainGlobals "_law_came" = some (some (.ref q50)))
  (l50 : K.lookup q50 = some ⟨oc50,od50,.func (fnOf "_law_came" "_law_came" (Ju J2q) (Jt J2q) (J9 J2q) .none kV50 dc50 pm50 an50 cd50 ct50),sl50⟩)
  (c50 : codeIn K cd50 "_law_came" = true)
  (k50 : keepIn K (.ref q50) = true)
  (a51 : nsIn K mainGlobals "_law_due" = some (some (.ref q51)))
  (l51 : K.lookup q51 = some ⟨oc51,od51,.func (fnOf "_law_due" "_law_due" (Ju J2Q) (Jt J2Q) (J9 J2Q) .none kV51 dc51 pm51 an51 cd51 ct51),sl51⟩)
  (c51 : codeIn K cd51 "_law_due" = true)
  (k51 : keepIn K (.ref q51) = true)
  (a52 : nsIn K mainGlobals "_law_marked" = some (some (.ref q52)))
  (l52 : K.lookup q52 = some ⟨oc52,od52,.func (fnOf "_law_marked" "_law_marked" (Ju J1G) (Jt J1G) (J9 J1G) .none kV52 dc52 pm52 an52 cd52 ct52),sl52⟩)
  (c52 : codeIn K cd52 "_law_marked" = true)
  (k52 : keepIn K (.ref q52) = true)
  (a53 : nsIn K mainGlobals "_law_case" = some (some (.ref q53)))
  (l53 : K.lookup q53 = some ⟨oc53,od53,.func (fnOf "_law_case" "_law_case" (Ju J2u) (Jt J2u) (J9 J2u) .none kV53 dc53 pm53 an53 cd53 ct53),sl53⟩)
  (c53 : codeIn K cd53 "_law_case" = true)
  (k53 : keepIn K (.ref q53) = true)
  (a54 : nsIn K mainGlobals "law" = some (some (.ref q54)))
  (l54 : K.lookup q54 = some ⟨oc54,od54,.func (fnOf "law" "law" (Ju J3I) (Jt J3I) (J9 J3I) .none kV54 dc54 pm54 an54 cd54 ct54),sl54⟩)
  (c54 : codeIn K cd54 "law" = true)
  (k54 : keepIn K (.ref q54) = true)
  (J6o : plainGet K Jk Str.empty = true)
  (J65 : hasDictIn K Jk = true)
  (J61 : plainOver K Jk = true)
  (J5P : findIn K (.ref Jk) "__setattr__" = some (some (.builtin "object.__setattr__")))
  (J6s : makesIn K Jk = true)
  (J67 : keepIn K (.ref Jk) = true)
  (J87 : plainGet K Jo Str.empty = true)
  (J8o : hasDictIn K Jo = true)
  (J8j : plainOver K Jo = true)
  (J8e : findIn K (.ref Jo) "__setattr__" = some (some (.builtin "object.__setattr__")))
  (J84 : makesIn K Jo = true)
  (J80 : keepIn K (.ref Jo) = true)
  (J5Y : plainGet K Ji Str.empty = true)
  (J6t : hasDictIn K Ji = true)
  (J6u : plainOver K Ji = true)
  (J5R : findIn K (.ref Ji) "__setattr__" = some (some (.builtin "object.__setattr__")))
  (J5W : makesIn K Ji = true)
  (J6e : keepIn K (.ref Ji) = true)
  (J8k : plainGet K Jp Str.empty = true)
  (J7T : hasDictIn K Jp = true)
  (J8d : plainOver K Jp = true)
  (J8l : findIn K (.ref Jp) "__setattr__" = some (some (.builtin "object.__setattr__")))
  (J8c : makesIn K Jp = true)
  (J85 : keepIn K (.ref Jp) = true)
  (J5f : plainGet K Je Str.empty = true)
  (J4W : hasDictIn K Je = true)
  (J58 : plainOver K Je = true)
  (J5j : findIn K (.ref Je) "__setattr__" = some (some (.builtin "object.__setattr__")))
  (J56 : makesIn K Je = true)
  (J5b : keepIn K (.ref Je) = true)
  (Jag : plainGet K Js Str.empty = true)
  (Ja9 : hasDictIn K Js = true)
  (Jam : plainOver K Js = true)
  (J9V : findIn K (.ref Js) "__setattr__" = some (some (.builtin "object.__setattr__")))
  (J9S : makesIn K Js = true)
  (J9Z : keepIn K (.ref Js) = true)
  (J51 : plainGet K J8 Str.empty = true)
  (J5h : hasDictIn K J8 = true)
  (J4Y : plainOver K J8 = true)
  (J5c : findIn K (.ref J8) "__setattr__" = some (some (.builtin "object.__setattr__")))
  (J4Z : makesIn K J8 = true)
  (J5d : keepIn K (.ref J8) = true)
  (J6i : plainGet K J4 Str.empty = true)
  (J6k : hasDictIn K J4 = true)
  (J66 : plainOver K J4 = true)
  (J68 : findIn K (.ref J4) "__setattr__" = some (some (.builtin "object.__setattr__")))
  (J6w : makesIn K J4 = true)
  (J5U : keepIn K (.ref J4) = true)
  (J3i : excIn K Ja J3A "ValueError.__new__" = true)
  (J5a : findIn K (.ref Ja) "__getattribute__" = some (some (.builtin "BaseException.__getattribute__")))
  (J53 : findIn K (.ref Ja) "__getattr__" = some none)
  (J55 : findIn K (.ref Ja) "__class__" = some (some (.builtin "object.__class__")))
  (J3X : mroIn K Ja (.type "object") = some true)
  (J59 : mroIn K Ja (.type "BaseException") = some true)
  (J0u : exmOne K (.ref Ja) (.ref J6) = some true)
  (J12 : kitOne K (.ref Ja) (.ref J5) = some false)
  (J0Y : kitOne K (.ref Ja) (.ref Ja) = some true)
  (J1b : kitOne K (.ref Ja) (.ref Jf) = some false)
  (J0i : kitOne K (.ref Ja) (.type "ValueError") = some true)
  (J2H : kitAny K (.ref Ja) [.ref Jc,.ref Jm,.ref Jg,.ref Jb] = some false)
  (J3a : kitAny K (.ref Ja) [.ref Ja,.ref Jf] = some true)
  (J3J : excIn K Jf J3A "ValueError.__new__" = true)
  (J6h : findIn K (.ref Jf) "__getattribute__" = some (some (.builtin "BaseException.__getattribute__")))
  (J6q : findIn K (.ref Jf) "__getattr__" = some none)
  (J6n : findIn K (.ref Jf) "__class__" = some (some (.builtin "object.__class__")))
  (J4x : mroIn K Jf (.type "object") = some true)
  (J6c : mroIn K Jf (.type "BaseException") = some true)
  (J0E : exmOne K (.ref Jf) (.ref J6) = some true)
  (J19 : kitOne K (.ref Jf) (.ref J5) = some false)
  (J1a : kitOne K (.ref Jf) (.ref Ja) = some false)
  (J1w : kitOne K (.ref Jf) (.ref Jf) = some true)
  (J0t : kitOne K (.ref Jf) (.type "ValueError") = some true)
  (J2V : kitAny K (.ref Jf) [.ref Jc,.ref Jm,.ref Jg,.ref Jb] = some false)
  (J3t : kitAny K (.ref Jf) [.ref Ja,.ref Jf] = some true)
  (J54 : xinB K J5 = true)
  (J5n : (clsIn K J5).any (fun cd=>Jb7 cd.mro) = true)
  (J5e : findIn K (.ref J5) "__setattr__" = some (some (.builtin "object.__setattr__")))
  (J5m : mroIn K J5 (.type "object") = some true)
  (J4X : hasDictIn K J5 = true)
  (J5o : keepIn K (.ref J5) = true)
  (J57 : findIn K (.ref J5) "__getattribute__" = some (some (.builtin "BaseException.__getattribute__")))
  (J50 : findIn K (.ref J5) "__getattr__" = some none)
  (J5p : findIn K (.ref J5) "__class__" = some (some (.builtin "object.__class__")))
  (J3W : mroIn K J5 (.type "object") = some true)
  (J5l : mroIn K J5 (.type "BaseException") = some true)
  (J0s : exmOne K (.ref J5) (.ref J6) = some true)
  (J0Z : kitOne K (.ref J5) (.ref J5) = some true)
  (J1U : kitOne K (.ref J5) (.ref Ja) = some false)
  (J23 : kitOne K (.ref J5) (.ref Jf) = some false)
  (J0h : kitOne K (.ref J5) (.type "ValueError") = some true)
  (J2G : kitAny K (.ref J5) [.ref Jc,.ref Jm,.ref Jg,.ref Jb] = some false)
  (J2E : kitAny K (.ref J5) [.ref Ja,.ref Jf] = some false)
  (J2g : findIn K (.ref Jp) "left" = some none)
  (J1K : findIn K (.ref Jp) "right" = some none)
  (J1l : findIn K (.ref Je) "left" = some none)
  (J0X : findIn K (.ref Je) "right" = some none)
  (J1P : findIn K (.ref J5) "day" = some none)
  (J1r : findIn K (.ref J5) "word" = some none)
  (J1R : findIn K (.ref J5) "who" = some none)
  (J10 : findIn K (.ref J5) "which" = some none)
  (J0N : findIn K (.ref J4) "days" = some none)
  (J1k : findIn K (.ref J4) "kinds" = some none)
  (J1e : findIn K (.ref J4) "needs" = some none)
  (JV : findIn K (.ref J4) "persons" = some none)
  (J1n : findIn K (.ref J4) "leave" = some none)
  (J1z : findIn K (.ref J4) "wishes" = some none)
  (J1o : findIn K (.ref J4) "rules" = some none)
  (J1d : findIn K (.ref J4) "pairs" = some none)
  (J1I : findIn K (.ref Ji) "many" = some none)
  (J1f : findIn K (.ref Ji) "marks" = some none)
  (J16 : findIn K (.ref Ji) "days" = some none)
  (J2f : findIn K (.ref Jo) "many" = some none)
  (J1H : findIn K (.ref Jo) "marks" = some none)
  (J2d : findIn K (.ref Jo) "days" = some none)
  (J0O : findIn K (.ref Jk) "word" = some none)
  (J2c : findIn K (.ref Js) "inner" = some none)
  (JM : findIn K (.ref J8) "name" = some none)
  (J0K : findIn K (.ref J8) "skills" = some none)
  (J1m : findIn K (.ref J8) "most" = some none)
  (J11 : findIn K (.ref J8) "carried" = some none)
  (J0V : findIn K (.ref J8) "past" = some none)
  (J2j : nsIn K mainGlobals "ValueError" = some none)
  (J97 : nsIn K mainGlobals "all" = some none)
  (J99 : nsIn K mainGlobals "any" = some none)
  (J0P : nsIn K mainGlobals "enumerate" = some none)
  (J04 : nsIn K mainGlobals "isinstance" = some none)
  (J0y : nsIn K mainGlobals "len" = some none)
  (J1Y : nsIn K mainGlobals "list" = some none)
  (J8V : nsIn K mainGlobals "max" = some none)
  (J8Z : nsIn K mainGlobals "min" = some none)
  (J0n : nsIn K mainGlobals "range" = some none)
  (J5C : nsIn K mainGlobals "zip" = some none)
  : ∃ fd : FuncData,(∀ (s : Shared) (v : Value),BindsTo s fd ⟨[v],[]⟩ [("_law_script",v)]) ∧ ∀ base : Heap,K.In base → base.Ns mainGlobals mg → FnOk l.prog w K mg base CX0 60 fa fd ["_law_script"] (sp_law K):=by
 have e:=hfa.symm.trans (mg_of X G a54)
 cases e
 have T : Tx K mg Jk Jo Ji Jp Je Js J8 J4 J6 Jf Jc Ja Jm Jg Jb J5:=⟨⟨_,_,JG (st:=J5k) l1 c1 k1,mg_of X G a1⟩,
  ⟨_,_,JG (st:=J1Q) l2 c2 k2,mg_of X G a2⟩,
  ⟨_,_,JG (st:=J2X) l3 c3 k3,mg_of X G a3⟩,
  ⟨_,_,JG (st:=J0S) l4 c4 k4,mg_of X G a4⟩,
  ⟨_,_,JG (st:=J1J) l5 c5 k5,⟨a5,i5,k5⟩⟩,
  ⟨_,_,JG (st:=J1A) l6 c6 k6,⟨a6,i6,k6⟩⟩,
  ⟨_,_,JG (st:=J2a) l7 c7 k7,⟨a7,i7,k7⟩⟩,
  ⟨_,_,JG (st:=J2y) l8 c8 k8,⟨a8,i8,k8⟩⟩,
  ⟨_,_,JG (st:=J1M) l9 c9 k9,⟨a9,i9,k9⟩⟩,
  ⟨_,_,JG (st:=J2e) l10 c10 k10,⟨a10,i10,k10⟩⟩,
  ⟨_,_,JG (st:=J29) l11 c11 k11,⟨a11,i11,k11⟩⟩,
  ⟨_,_,JG (st:=J1q) l12 c12 k12,⟨a12,i12,k12⟩⟩,
  ⟨_,_,JG (st:=J2w) l13 c13 k13,⟨a13,i13,k13⟩⟩,
  ⟨_,_,JG (st:=J2t) l14 c14 k14,⟨a14,i14,k14⟩⟩,
  ⟨_,_,JG (st:=J1V) l15 c15 k15,⟨a15,i15,k15⟩⟩,
  ⟨_,_,JG (st:=J2S) l16 c16 k16,⟨a16,i16,k16⟩⟩,
  ⟨_,_,JG (st:=J25) l17 c17 k17,mg_of X G a17⟩,
  ⟨_,_,JG (st:=J1t) l18 c18 k18,⟨a18,i18,k18⟩⟩,
  ⟨_,_,JG (st:=J1S) l19 c19 k19,⟨a19,i19,k19⟩⟩,
  ⟨_,_,JG (st:=J1T) l20 c20 k20,⟨a20,i20,k20⟩⟩,
  ⟨_,_,JG (st:=J1y) l21 c21 k21,mg_of X G a21⟩,
  ⟨_,_,JG (st:=J0A) l22 c22 k22,⟨a22,i22,k22⟩⟩,
  ⟨_,_,JG (st:=J2r) l23 c23 k23,mg_of X G a23⟩,
  ⟨_,_,JG (st:=J0D) l24 c24 k24,mg_of X G a24⟩,
  ⟨_,_,JG (st:=J0F) l25 c25 k25,mg_of X G a25⟩,
  ⟨_,_,JG (st:=J0U) l26 c26 k26,mg_of X G a26⟩,
  ⟨_,_,JG (st:=J1s) l27 c27 k27,mg_of X G a27⟩,
  ⟨_,_,JG (st:=J06) l28 c28 k28,⟨a28,i28,k28⟩⟩,
  ⟨_,_,JG (st:=J0T) l29 c29 k29,mg_of X G a29⟩,
  ⟨_,_,JG (st:=J1i) l30 c30 k30,mg_of X G a30⟩,
  ⟨_,_,JG (st:=J1j) l31 c31 k31,mg_of X G a31⟩,
  ⟨_,_,JG (st:=J3j) l32 c32 k32,mg_of X G a32⟩,
  ⟨_,_,JG (st:=J1c) l33 c33 k33,mg_of X G a33⟩,
  ⟨_,_,JG (st:=J1O) l34 c34 k34,mg_of X G a34⟩,
  ⟨_,_,JG (st:=J1x) l35 c35 k35,mg_of X G a35⟩,
  ⟨_,_,JG (st:=J24) l36 c36 k36,mg_of X G a36⟩,
  ⟨_,_,JG (st:=J1h) l37 c37 k37,mg_of X G a37⟩,
  ⟨_,_,JG (st:=J08) l38 c38 k38,mg_of X G a38⟩,
  ⟨_,_,JG (st:=J1p) l39 c39 k39,mg_of X G a39⟩,
  ⟨_,_,JG (st:=JX) l40 c40 k40,mg_of X G a40⟩,
  ⟨_,_,JG (st:=J0l) l41 c41 k41,mg_of X G a41⟩,
  ⟨_,_,JG (st:=J2x) l42 c42 k42,mg_of X G a42⟩,
  ⟨_,_,JG (st:=J0m) l43 c43 k43,mg_of X G a43⟩,
  ⟨_,_,JG (st:=J0o) l44 c44 k44,mg_of X G a44⟩,
  ⟨_,_,JG (st:=J1g) l45 c45 k45,⟨a45,i45,k45⟩⟩,
  ⟨_,_,JG (st:=J0J) l46 c46 k46,mg_of X G a46⟩,
  ⟨_,_,JG (st:=J2v) l47 c47 k47,mg_of X G a47⟩,
  ⟨_,_,JG (st:=J1N) l48 c48 k48,mg_of X G a48⟩,
  ⟨_,_,JG (st:=J2T) l49 c49 k49,mg_of X G a49⟩,
  ⟨_,_,JG (st:=J2q) l50 c50 k50,mg_of X G a50⟩,
  ⟨_,_,JG (st:=J2Q) l51 c51 k51,mg_of X G a51⟩,
  ⟨_,_,JG (st:=J1G) l52 c52 k52,mg_of X G a52⟩,
  ⟨_,_,JG (st:=J2u) l53 c53 k53,mg_of X G a53⟩,
  ⟨_,_,JG (st:=J3I) l54 c54 k54,mg_of X G a54⟩,
  ⟨⟨J6o,J65,J61,J5P⟩,mg_of X G J7W,J6s,J67⟩,
  ⟨⟨J87,J8o,J8j,J8e⟩,mg_of X G Jad,J84,J80⟩,
  ⟨⟨J5Y,J6t,J6u,J5R⟩,mg_of X G J8f,J5W,J6e⟩,
  ⟨⟨J8k,J7T,J8d,J8l⟩,mg_of X G Jaf,J8c,J85⟩,
  ⟨⟨J5f,J4W,J58,J5j⟩,mg_of X G J64,J56,J5b⟩,
  ⟨⟨Jag,Ja9,Jam,J9V⟩,mg_of X G Jcd,J9S,J9Z⟩,
  ⟨⟨J51,J5h,J4Y,J5c⟩,mg_of X G J5Z,J4Z,J5d⟩,
  ⟨⟨J6i,J6k,J66,J68⟩,mg_of X G J88,J6w,J5U⟩,
  mg_of X G J3L,
  mg_of X G J83,
  mg_of X G J5i,
  mg_of X G J6l,
  mg_of X G J82,
  mg_of X G J69,
  mg_of X G J5g,
  mg_of X G J5Q,
  J3i,
  ⟨⟨J5a,J53,J55,J3X,J59⟩,J4o J3X⟩,
  J0u,
  J12,
  J0Y,
  J1b,
  J0i,
  J2H,
  J3a,
  J3J,
  ⟨⟨J6h,J6q,J6n,J4x,J6c⟩,J4o J4x⟩,
  J0E,
  J19,
  J1a,
  J1w,
  J0t,
  J2V,
  J3t,
  ⟨J54,J5n,J5e,J5m,J4X,J5o⟩,
  ⟨⟨J57,J50,J5p,J3W,J5l⟩,J4o J3W⟩,
  J0s,
  J0Z,
  J1U,
  J23,
  J0h,
  J2G,
  J2E,
  J2g,
  J1K,
  J1l,
  J0X,
  J1P,
  J1r,
  J1R,
  J10,
  J0N,
  J1k,
  J1e,
  JV,
  J1n,
  J1z,
  J1o,
  J1d,
  J1I,
  J1f,
  J16,
  J2f,
  J1H,
  J2d,
  J0O,
  J2c,
  JM,
  J0K,
  J1m,
  J11,
  J0V,
  mg_none_of X G J2j,
  mg_none_of X G J97,
  mg_none_of X G J99,
  mg_none_of X G J0P,
  mg_none_of X G J04,
  mg_none_of X G J0y,
  mg_none_of X G J1Y,
  mg_none_of X G J8V,
  mg_none_of X G J8Z,
  mg_none_of X G J0n,
  mg_none_of X G J5C⟩
 refine ⟨fnOf "law" "law" (Ju J3I) (Jt J3I) (J9 J3I) .none kV54 dc54 pm54 an54 cd54 ct54,fun s v=>.of_eq rfl,fun base _ _=>?_⟩
 exact Jfc T (JG (st:=J3I) l54 c54 k54)
theorem walk {l : PySem.W.OpenLaw} {q : Program} {loose : List Str} {XP : (Str → Option Value) → Heap → Prop} {YP : World → Heap → Prop} {d : DefRec} {K : Params → PySem.W.Frag} (hn : l.most = some 63) (hdf : d.params.defaults = [])
  (hY : ∀ (w : World) (h : Heap),YP w h → (K w.params).In h)
  (F : ∀ (w : World) (mg : Str → Option Value) (fa : Addr) (h : Heap),(K w.params).In h → h.Ns mainGlobals mg → mg d.name = some (.ref fa) →
   ∃ fd : FuncData,(∀ (s : Shared) (u : Value),BindsTo s fd ⟨[u],[]⟩ [("_law_script",u)]) ∧ ∀ base : Heap,(K w.params).In base → base.Ns mainGlobals mg → FnOk l.prog w (K w.params) mg base CX0 60 fa fd ["_law_script"] (sp_law (K w.params))) :
  PySem.W.WalkO q loose XP YP l.row.toRowW d [] (fun f vs=>PySem.call f vs) :=
 L2.walk_of (n:=63) (k:=60) (x:="_law_script") (CX:=fun _=>CX0) (sp:=fun w=>sp_law (K w.params)) hn (by decide) hdf ⟨rfl,by decide,by decide⟩ hY F (fun _ _ a ns hl _ hS=>⟨a,ns,rfl,hS,hl,fun _=>rfl⟩) fun _ _ _ _ _ z=>z
theorem walkX {q : Program} {loose : List Str} {XP : (Str → Option Value) → Heap → Prop} {K : Params → PySem.W.Frag} {as : List Addr} {n t : Nat} {r : PySem.W.RowW} {d : DefRec} {kwd : List (Str × Expr)} {run : Value → List Value → Sem Value} (e : ∀ P,as = (K P).map (·.1))
  (h : PySem.W.WalkO q loose XP (fun w hp=>(K w.params).In hp) r d kwd run) : PySem.W.WalkX q loose XP (PySem.W.X.obsZ as) (PySem.W.X.valZ K n t) r d kwd run:=by
 intro w s₀ s₁ mg mb G Y a o pm cd doc dV kV h1 h2 h3 h4 h5 h6 args vals as' L p1 p2 p3 p4 p5
 exact h w s₀ s₁ mg mb G (PySem.W.InK.keeps w _ _ (PySem.W.X.z_facts e Y).2.1 L.keeps) a o pm cd doc dV kV h1 h2 h3 h4 h5 h6 args vals as' p1 p2 p3 p4 p5
end K74
namespace PySem.W.Fast
def tw6077954568494819121:=()
def tw11890294876816910594:=()
def tw17471940276262150176:=()
def tw17431682368874257862:=()
def tw11926928403500762961:=()
def tw12576187947906300465:=()
def tw2336424546642080455:=()
def tw13921142325016864215:=()
def tw16811578960289301203:=()
def tw16804383160113683099:=()
def tw3877989777857912247:=()
def tw17215175659821892033:=()
def tw9591846515747991123:=()
def tw5354457476306811177:=()
def tw4676285874560713272:=()
def tw8176629461039479379:=()
def tw512455995425309506:=()
def tw16357989733289625389:=()
def tw6292124740722755512:=()
def tw11146660006653485230:=()
def tw7674208417890316455:=()
def tw10496964662019740670:=()
def tw14558177176617834419:=()
def tw5488666879619633847:=()
def tw9584390390705488202:=()
def tw12329881522126083513:=()
def tw10243207593405726996:=()
def tw16981067136836321181:=()
def tw1146516304384476653:=()
def tw16836754392858062684:=()
def tw17466939819550431336:=()
def tw11061793879841471644:=()
def tw4600946600908574290:=()
def tw3320542606821162149:=()
def tw2598489442058800345:=()
def tw6871692027590130969:=()
def tw13594862176655016747:=()
def tw4570698843916383667:=()
def tw18336649862254398847:=()
def tw10832255050260560895:=()
def tw7960580864846452263:=()
def tw8769489314509957590:=()
def tw1328359006896350829:=()
def tw459124592478439274:=()
def tw17117611622226658912:=()
def tw2246103604491685630:=()
def tw5154690286237332685:=()
def tw5590552966129256205:=()
def tw2540944740994544659:=()
def tw17677512174516301279:=()
def tw11167968549932142466:=()
def tw14069417163351585457:=()
def tw3303913136581819777:=()
def tw16206776280121024496:=()
def tw1900341488702277231:=()
def tw17558177603716692564:=()
def tw17004393097488792251:=()
def tw11139398217500976337:=()
def tw15160148373611950382:=()
def tw1236989702504063462:=()
def tw12766972480691462897:=()
def tw3535021990883449677:=()
def tw950735215299755733:=()
def tw15509674804994959547:=()
def tw4492037104682463083:=()
def tw9363531332799623481:=()
def tw14599932724873112736:=()
def tw13863255492077500692:=()
def tw8776069930365235000:=()
def tw7381396794125825033:=()
def tw348287599900650728:=()
def tw15340189589754171083:=()
def tw14466195327160520003:=()
def tw15965313544708319618:=()
def tw17942329806794047162:=()
def tw16304533750660524063:=()
def tw8182285519733314666:=()
def tw17492817677747549827:=()
def tw16105542699685988070:=()
def tw368700463761129029:=()
def tw13417471958378629863:=()
def tw9406552879590757245:=()
def tw17701071181715005525:=()
def tw7129080368972218745:=()
def tw874929023915364688:=()
def tw12354430990202395430:=()
def tw986853696351135423:=()
def tw13747806252430034765:=()
def tw11523780271999881111:=()
def tw7600959671204655793:=()
def tw7765460003572801642:=()
def tw649930614580322570:=()
def tw14378619852513588358:=()
def tw8108716534496253047:=()
def tw13117534402763147577:=()
def tw10697657329121327694:=()
def tw9510740714973931895:=()
def tw7392649005189008536:=()
def tw14081846245688645157:=()
def tw8045212111973822164:=()
def tw16854223335387073700:=()
def tw7493378347074092991:=()
def tw11333243320358060089:=()
def tw17071515461002897835:=()
def tw16900661924351491170:=()
def tw15906254749424283350:=()
def tw1982729898239093594:=()
def tw6349680941707753372:=()
def tw11754197072779646176:=()
def tw9540229833369062123:=()
def tw6562134257139199719:=()
def tw4014070816583367112:=()
def tw1524459342107948261:=()
def tw6255304574506211705:=()
def tw3247161677175928718:=()
def tw5115657357535118921:=()
def tw14265125442116618037:=()
def tw13687374491112861757:=()
def tw16801973328558220161:=()
def tw17669919882298261716:=()
def tw18020894600480157531:=()
def tw9455945317865946282:=()
def tw11362786104891954618:=()
def tw10098741305326259665:=()
def tw419668788434405204:=()
def tw16249485159643080607:=()
def tw14714986314565090922:=()
def tw9929346361904012471:=()
def tw2852451072812698274:=()
def tw1921961864293186049:=()
def tw12275060782242370510:=()
def tw10335036772939852956:=()
def tw15465047040119901058:=()
def tw18247809865353317359:=()
def tw10383183557652115226:=()
def tw3196074495543958000:=()
def tw1544206623682140484:=()
def tw2457274172361209885:=()
def tw5435233236459550195:=()
def tw17849261656295751220:=()
def tw4555797164929386499:=()
def tw16010333031026677936:=()
def tw5147583278690413380:=()
def tw777710814544330804:=()
def tw13027966495549761537:=()
def tw9315019044051933780:=()
def tw139316805419725562:=()
def tw13058444317748335751:=()
def tw17668812344186866602:=()
def tw6584054432890631139:=()
def tw14181913615176167080:=()
def tw6702322729441327825:=()
def tw13395404047208753532:=()
def tw12073800895514701190:=()
def tw5692996697500964776:=()
def tw4539388299355619401:=()
def tw2254180622464110194:=()
def tw9614682544911713265:=()
def tw9265199166320131223:=()
def tw14609186515466381529:=()
def tw5002232974243645743:=()
def tw16804239259396262073:=()
def tw13063307469751571954:=()
def tw16678567325670216633:=()
def tw7730452126106439402:=()
def tw17386908277168514610:=()
def tw16293075331871985108:=()
def tw10807665987216629512:=()
def tw2354562221408088431:=()
def tw12490894550355548735:=()
def tw13328985034588729759:=()
def tw10597470831578912790:=()
def tw10301591966716803400:=()
def tw14128223673145064266:=()
def tw12911731186859474121:=()
def tw13771954576483922592:=()
def tw8198722319127808002:=()
def tw1543829454156775805:=()
def tw6506699054024798069:=()
def tw13151420402369073376:=()
def tw8917288374925632489:=()
def tw14810694896623934926:=()
def tw6317393351245696144:=()
def tw16062111194140750377:=()
def tw4035133311870429107:=()
def tw2927047183468314106:=()
def tw16987675330814892306:=()
def tw14158209367014164626:=()
def tw4556006251081386214:=()
def tw4354752437097940231:=()
def tw872215711282882706:=()
def tw9178699408573655892:=()
def tw7164428972117445018:=()
def tw17919753475631326743:=()
def tw13888225172685265323:=()
def tw13349470220811026716:=()
def tw12141917988760955728:=()
def tw12958004377099582999:=()
def tw2423679649832026165:=()
def tw7412125046912337583:=()
def tw15799552200998169338:=()
def tw9673540652713628859:=()
def tw1538450021559782108:=()
def tw15515088245573411377:=()
def tw16944548568551433541:=()
def tw16585897626041720764:=()
def tw16993557385269012463:=()
def tw13420975430326804082:=()
def tw10212812912665589347:=()
def tw3878378391376195852:=()
def tw822105641554814996:=()
def tw1267911255280627899:=()
def tw15944420827096685192:=()
def tw16214321236355025852:=()
def tw2678687449715912099:=()
def tw14686940752458176765:=()
def tw4602462857330016343:=()
def tw11380169779109787739:=()
def tw1735562232102296221:=()
def tw17649740543323440645:=()
def tw11719651889172406279:=()
def tw1445689683028448679:=()
def tw9220416746052451984:=()
def tw1977548271834915985:=()
def tw12205393501944309811:=()
def tw5504327084287752957:=()
def tw5920324826387504259:=()
def tw11313409756836178866:=()
def tw3430561225055966103:=()
def tw8743231040012725717:=()
def tw10854356143968386821:=()
def tw6034997917613389037:=()
def tw18028181909969519857:=()
def tw4596264661602839886:=()
def tw5960343897754576537:=()
def tw8689626329792335232:=()
def tw15903842511324732090:=()
def tw3627246375529109549:=()
def tw14005573799055941811:=()
def tw4678373129244654303:=()
def tw1356965786675857785:=()
def tw15350572423426935691:=()
def tw2278836693613843986:=()
def tw9322758519640208149:=()
def tw16709473402699448460:=()
def tw14466490544054781827:=()
def tw18410734320056424278:=()
def tw9261956130932559020:=()
def tw16105645973065986475:=()
def tw17121093250149807148:=()
def tw17135863129424955741:=()
def tw14523268866032262000:=()
def tw16857467089627768684:=()
def tw1807487864690699451:=()
def tw8426588406187598005:=()
def tw15327310648206558635:=()
def tw14156620366016151184:=()
def tw7804372761121412718:=()
def tw6046963233399344860:=()
def tw7611951946754715671:=()
def tw5013951338433973756:=()
def tw13920261006769161061:=()
def tw8178345651239968460:=()
def tw8187422925213196562:=()
def tw17012210073434934732:=()
def tw6606271025987359189:=()
def tw13291420784579053163:=()
def tw8501611420993905011:=()
def tw13260331162779676794:=()
def tw12298485950232227075:=()
def tw15858589726067267538:=()
def tw11878680804697019306:=()
def tw18119078840328520819:=()
def tw4297853173589178815:=()
def tw16854026362345694384:=()
def tw14633397820375783904:=()
def tw3670504546355379678:=()
def tw15950000138300600615:=()
def tw17438569096244102820:=()
def tw11261561474350038821:=()
def tw17750184829802967887:=()
def tw11602832188663705514:=()
def tw8301758068187939701:=()
def tw5785083259595663780:=()
def tw12248447316653973119:=()
def tw2992863563262485515:=()
def tw17786833295836016131:=()
def tw14214608874370472473:=()
def tw15282418948593931702:=()
def tw16998265887053650956:=()
def tw5645293986715512834:=()
def tw16391391082134969667:=()
def tw13611246500315560904:=()
def tw2303115074835436351:=()
def tw2842105275621708326:=()
def tw11165203774688485140:=()
def tw764819970896125407:=()
def tw7617692356114404584:=()
def tw16828380486329319260:=()
def tw12158700621427863451:=()
def tw1577427430168444403:=()
def tw14058165346440084698:=()
def tw4291112636274257105:=()
def tw817260032997037525:=()
def tw1206098741786862031:=()
def tw567221056152428151:=()
def tw6725573238026090656:=()
def tw10854756893716037603:=()
def tw7991103853656001222:=()
def tw15779740670815580401:=()
def tw9104267879195839246:=()
def tw9588709522481334820:=()
def tw1240644237941855676:=()
def tw10617938910707896239:=()
def tw15311563064943739168:=()
def tw493297004106828825:=()
def tw18087710968724292330:=()
def tw7359498831983143021:=()
def tw6573139323621426320:=()
def tw13568168108564895861:=()
def tw1223195783755732212:=()
def tw10625641041683068062:=()
def tw17616152871563313492:=()
def tw2008976198708260240:=()
def tw5358859721892957987:=()
def tw7056119235027657845:=()
def tw8821623427835697:=()
def tw10670500889341123502:=()
def tw6646208333739602539:=()
def tw16388933323944412627:=()
def tw13539491325317731192:=()
def tw1823156355765402446:=()
def tw11007185016644739847:=()
def tw11787318004809649420:=()
def tw3776047777610739367:=()
def tw13975666849606854579:=()
def tw15799197379556849534:=()
def tw3613369080316170177:=()
def tw516338969327150902:=()
def tw15418518818703020231:=()
def tw11249800373856338292:=()
def tw6285551043592888458:=()
def tw6301629059734522999:=()
def tw14275080429877297748:=()
def tw6428698403934388681:=()
def tw6342345384961363150:=()
def tw7534116248538984124:=()
def tw11366655227834785651:=()
def tw3843070345635849320:=()
def tw6327871005602697719:=()
def tw12264895986981591662:=()
def tw9396676247705910432:=()
def tw11088473932736216365:=()
def tw2391650982121582262:=()
def tw12110494521746977032:=()
def tw14563567816618585208:=()
def tw15839637624803897515:=()
def tw16165851201622829673:=()
def tw9359074825545743713:=()
def tw2713093699661619024:=()
def tw10624820421831166205:=()
def tw171961501483404047:=()
def tw4293589791298629148:=()
def tw15779068947199358022:=()
def tw1434981832963652503:=()
def tw13544110828329458964:=()
def tw14242053935345954674:=()
def tw16748920466308106832:=()
def tw8987512280069665882:=()
def tw11475986833431439230:=()
def tw16740800920898792359:=()
def tw16218290991843427496:=()
def tw4940169251255965085:=()
def tw6956443570636714761:=()
def tw12968696076838903212:=()
def tw3281022681801208565:=()
def tw9825297460559434511:=()
def tw9118437354538659486:=()
def tw8575685620070049744:=()
def tw4403509849852601125:=()
def tw505576475329382252:=()
def tw4924834091201380524:=()
def tw8731597259034126686:=()
def tw4276101777414800429:=()
def tw4233718912953172318:=()
def tw10618668166021429869:=()
def tw10648039068774878917:=()
def tw7107254572171214393:=()
def tw11079751462472867073:=()
def tw4119322455191896734:=()
def tw16490416712044996282:=()
def tw15104127580089852720:=()
def tw4199635695980377107:=()
def tw8146105824352809371:=()
def tw10987700624178760988:=()
def tw7397198350861414075:=()
def tw4676715783973376899:=()
def tw10186045607705119177:=()
def tw2280609713930359272:=()
def tw8535483135625220527:=()
def tw14767071311635081916:=()
def tw2041812752730234053:=()
def tw4000150848493102393:=()
def tw3462634119503957985:=()
def tw965742126616059878:=()
def tw5175215214411223967:=()
def tw12636913759259998400:=()
def tw17830962082515532325:=()
def tw15519320283361324184:=()
def tw15222920062311429449:=()
def tw7244981120424136116:=()
def tw15084750428146107518:=()
def tw10317717178475328088:=()
def tw11230086871531017965:=()
def tw4748944409251273033:=()
def tw3068491167729143380:=()
def tw5384383354001266084:=()
def tw8621185502387863234:=()
def tw4730215677151992841:=()
def tw7206391531189383099:=()
def tw18232645937339864485:=()
def tw8675286305717402075:=()
def tw9456615546392293032:=()
def tw15408389469746889677:=()
def tw9233805719729439619:=()
def tw10894427682912250084:=()
def tw11206122106947086827:=()
def tw15536840511150656397:=()
def tw12836390284716693165:=()
def tw2098912668102641162:=()
def tw6689356591807161691:=()
def tw1885242979090780788:=()
def tw6016388231714300025:=()
def tw4005354157330875869:=()
def tw6405205832516338650:=()
def tw18371263531968954963:=()
def tw9030308443471785437:=()
def tw1878776676400880130:=()
def tw9581647887429707607:=()
def tw8408376996335116520:=()
def tw10834334994958055084:=()
def tw13685853373075604914:=()
def tw9388760870142011726:=()
def tw6232486448371545899:=()
def tw8198083654811929972:=()
def tw13475344451925544905:=()
def tw2255507584200869487:=()
def tw15746883683117194651:=()
def tw8174019415988412600:=()
def tw10914752621404313322:=()
def tw8693924857680543746:=()
def tw6153932722446652184:=()
def tw11669568740633108531:=()
def tw14343309481223525239:=()
def tw14731377448218870310:=()
def tw7415885608654315323:=()
def tw5522109902846739173:=()
def tw12310713662041111358:=()
def tw12506408431695502177:=()
def tw10778147303237903680:=()
def tw2767644612450038940:=()
def tw16595542091418067979:=()
def tw9904971803012116437:=()
def tw354134964828935039:=()
def tw11251394188665143837:=()
def tw15816999998447566308:=()
def tw13814451286818349014:=()
def tw2014877299558008294:=()
def tw8973792310476893685:=()
def tw11937803400660055569:=()
def tw2524015940663416199:=()
def tw2350422681683458054:=()
def tw1694504021127229013:=()
def tw7508744873648101615:=()
def tw9795816461815524363:=()
def tw14213949013359076418:=()
def tw17260105785827600179:=()
def tw4054003068418469121:=()
def tw13525302501526031664:=()
def tw15148978742328276276:=()
def tw6446308913886925313:=()
def tw6971445078801916841:=()
def tw16418463791815069360:=()
def tw4780380030095508059:=()
def tw17796810820543510383:=()
def tw5947747889299054131:=()
def tw5967559040833900919:=()
def tw13858273707349756375:=()
def tw15880347636364194830:=()
def tw9463416761160720836:=()
def tw18314143370786221785:=()
def tw5346739932103381674:=()
def tw15462269497343294165:=()
def tw15033691709424259970:=()
def tw3023528515743714347:=()
def tw8383683131244023203:=()
def tw5679132871788752905:=()
def tw13451182360915637915:=()
def tw6496445912859701381:=()
def tw6610137736735601025:=()
def tw2979462540792120005:=()
def tw10208529815365554396:=()
def tw118850629652485831:=()
def tw11150502375918913367:=()
def tw17776738530873754686:=()
def tw2921563454099410407:=()
def tw12609481320790021596:=()
def tw10066088945422985002:=()
def tw16738677679582838553:=()
def tw18303915716957587069:=()
def tw10060418325672207150:=()
def tw7092986261578087029:=()
def tw12077392709647657069:=()
def tw2258423701491520772:=()
def tw16542622021094581252:=()
def tw16471757501823713493:=()
def tw15619250979115925736:=()
def tw12843337588004937558:=()
def tw4821528746472189917:=()
def tw2846318671276319543:=()
def tw18143903776311859798:=()
def tw17534797663555929235:=()
def tw3206618134045515278:=()
def tw18277434664737857759:=()
def tw107255444450617276:=()
def tw11615543030138025335:=()
def tw1360276328489334175:=()
def tw17688065586337528515:=()
def tw2476365343536800549:=()
def tw2847030130551403546:=()
def tw1496974384402963457:=()
def tw7345690715343328169:=()
def tw10342022698333028850:=()
def tw7787557683233516721:=()
def tw5406009531875686949:=()
def tw9010954393688958529:=()
def tw8818075476896646736:=()
def tw7974574647682034351:=()
def tw9512198497667194306:=()
def tw13938218520402846989:=()
def tw13211772947951458131:=()
def tw5056889209016049924:=()
def tw13797745851166669274:=()
def tw14851146838755733111:=()
def tw7986876244715620565:=()
def tw14958676088798297160:=()
def tw8526239935698801267:=()
def tw16630664716555520601:=()
def tw15344759561828278117:=()
def tw7641454570596195696:=()
def tw13330317637259439754:=()
def tw887576544708151718:=()
def tw2622962110057052257:=()
def tw6171650303421852169:=()
def tw5208504132825453019:=()
def tw17617616517950176747:=()
def tw11652084000739950680:=()
def tw10198086431495457440:=()
def tw14422484428540366197:=()
def tw15444234047161820943:=()
def tw6405157209078243400:=()
def tw247818360015703701:=()
def tw18287984317277171009:=()
def tw2754479016669427898:=()
def tw18138798867029511025:=()
def tw282791489235321613:=()
def tw1713647866620817107:=()
def tw9091482527990691684:=()
def tw16957994436466646421:=()
def tw9747749012242658415:=()
def tw15730668978372436495:=()
def tw17685110012103506661:=()
def tw12852866679098529465:=()
def tw13450289576055363611:=()
def tw7408396186935666128:=()
def tw14583692213200471672:=()
def tw14928184142427973981:=()
def tw6282957678412945019:=()
def tw6614319732853808735:=()
def tw4071879012244996096:=()
def tw8716692645361086489:=()
def tw15550710151527090503:=()
def tw8985938457700065408:=()
def tw6329564126977998681:=()
def tw10358495175700374901:=()
def tw16340913916152187559:=()
def tw17495954068275782584:=()
def tw5732184837339240135:=()
def tw3038462866616963241:=()
def tw8817247672908235196:=()
def tw15507457164686338930:=()
def tw17344878493863332482:=()
def tw7743790741151131070:=()
def tw17759335489886937557:=()
def tw15077015823337809626:=()
def tw9295775853989417102:=()
def tw1466845039541961862:=()
def tw7054666512812764281:=()
def tw10737074514719829893:=()
def tw7929318843211381694:=()
def tw8315390279351902926:=()
def tw901263852137407001:=()
def tw7814536340424199768:=()
def tw12546225581023436015:=()
def tw17706396833925618701:=()
def tw5769837067257450385:=()
def tw9102903620151718482:=()
def tw13694725923089937006:=()
def tw933960012992184887:=()
def tw9731919320744124924:=()
def tw15290521785988041787:=()
def tw8887634684198018077:=()
def tw10451491906734898936:=()
def tw10575712879998338843:=()
def tw6384255716087105887:=()
def tw17256788252907437531:=()
def tw4794519050223657242:=()
def tw16357322375967511826:=()
def tw13630705277994552286:=()
def tw17051822400673233730:=()
def tw1639244470680560066:=()
def tw16888593103057158485:=()
def tw11878869332075340524:=()
def tw3189638347455560903:=()
def tw12504803375043683744:=()
def tw8936352350930438247:=()
def tw988546614417052250:=()
def tw16829568812696603419:=()
def tw5794957172373384231:=()
def tw3617957653795034114:=()
def tw12284451481985764504:=()
def tw13709046131469630644:=()
def tw8876943613457235073:=()
def tw5059842812559901303:=()
def tw1097648871430799001:=()
def tw16525743996121951855:=()
def tw13514039591368979329:=()
def tw7405948126888543236:=()
def tw4191988630794830818:=()
def tw10643489732889331257:=()
def tw6880301133831852671:=()
def tw1768847312035444198:=()
def tw1203432307451784902:=()
def tw9445309520419559553:=()
def tw11035161375780614156:=()
def tw15110550553147363539:=()
def tw4864528640032977152:=()
def tw6215147167988415329:=()
def tw9995053056207070660:=()
def tw2320277535870104847:=()
def tw1135887178757709680:=()
def tw3124981117516131667:=()
def tw5895101065381619191:=()
def tw7958885732310234215:=()
def tw11061310677123873608:=()
def tw4956857552689017878:=()
def tw15933894247929890363:=()
def tw40541926331759083:=()
def tw6059380267183170094:=()
def tw11921041609922601091:=()
def tw2853731533136503805:=()
def tw2564427614269490301:=()
def tw6224944433825741886:=()
def tw837387044933672253:=()
def tw543547670543778889:=()
def tw15020568790855925276:=()
def tw16003774546856369427:=()
def tw2278499193250472360:=()
def tw17853507172368137211:=()
def tw12627050550940231402:=()
def tw11690508558633227715:=()
def tw13612246051869294694:=()
def tw4817669928435011025:=()
def tw7029680646189513311:=()
def tw10190262434886684024:=()
def tw9617115319706332572:=()
def tw8037569162963440543:=()
def tw13567482059657780963:=()
def tw18214466171526669930:=()
def tw14288151564601080287:=()
def tw17405882771859471693:=()
def tw7020478267388376880:=()
def tw5558724403899536901:=()
def tw18306207751232271924:=()
def tw18174077431541232287:=()
def tw15063979459339302978:=()
def tw13524395336219188909:=()
def tw17290348393662801401:=()
def tw4007723457616041553:=()
end PySem.W.Fast
open PySem PySem.W PyProof.Rows
set_option maxRecDepth 100000 in
set_option maxHeartbeats 0 in
theorem PySem.Challenge.cw_rotafair_k74_swapped_holds : PySem.Challenge.rw_rotafair_k74_swapped.Holds := by
 w_on; o_law; z_head; (case hw=>w_witness2)
 k_fill
 refine K74.walkX (fun _=>rfl) ?_
 refine K74.walk (l:=PySem.Challenge.rw_rotafair_k74_swapped) rfl rfl (fun w h Y=>Y) ?F
 case F =>
  intro w mg fa h KX G hmg
  refine' K74.all_mk KX G hmg ?J7W ?Jad ?J8f ?Jaf ?J64 ?Jcd ?J5Z ?J88 ?J3L ?J83 ?J5i ?J6l ?J82 ?J69 ?J5g ?J5Q ?a1 ?l1 ?c1 ?k1 ?a2 ?l2 ?c2 ?k2 ?a3 ?l3 ?c3 ?k3 ?a4 ?l4 ?c4 ?k4 ?a5 ?i5 ?l5 ?c5 ?k5 ?a6 ?i6 ?l6 ?c6 ?k6 ?a7 ?i7 ?l7 ?c7 ?k7 ?a8 ?i8 ?l8 ?c8 ?k8 ?a9 ?i9 ?l9 ?c9 ?k9 ?a10 ?i10 ?l10 ?c10 ?k10 ?a11 ?i11 ?l11 ?c11 ?k11 ?a12 ?i12 ?l12 ?c12 ?k12 ?a13 ?i13 ?l13 ?c13 ?k13 ?a14 ?i14 ?l14 ?c14 ?k14 ?a15 ?i15 ?l15 ?c15 ?k15 ?a16 ?i16 ?l16 ?c16 ?k16 ?a17 ?l17 ?c17 ?k17 ?a18 ?i18 ?l18 ?c18 ?k18 ?a19 ?i19 ?l19 ?c19 ?k19 ?a20 ?i20 ?l20 ?c20 ?k20 ?a21 ?l21 ?c21 ?k21 ?a22 ?i22 ?l22 ?c22 ?k22 ?a23 ?l23 ?c23 ?k23 ?a24 ?l24 ?c24 ?k24 ?a25 ?l25 ?c25 ?k25 ?a26 ?l26 ?c26 ?k26 ?a27 ?l27 ?c27 ?k27 ?a28 ?i28 ?l28 ?c28 ?k28 ?a29 ?l29 ?c29 ?k29 ?a30 ?l30 ?c30 ?k30 ?a31 ?l31 ?c31 ?k31 ?a32 ?l32 ?c32 ?k32 ?a33 ?l33 ?c33 ?k33 ?a34 ?l34 ?c34 ?k34 ?a35 ?l35 ?c35 ?k35 ?a36 ?l36 ?c36 ?k36 ?a37 ?l37 ?c37 ?k37 ?a38 ?l38 ?c38 ?k38 ?a39 ?l39 ?c39 ?k39 ?a40 ?l40 ?c40 ?k40 ?a41 ?l41 ?c41 ?k41 ?a42 ?l42 ?c42 ?k42 ?a43 ?l43 ?c43 ?k43 ?a44 ?l44 ?c44 ?k44 ?a45 ?i45 ?l45 ?c45 ?k45 ?a46 ?l46 ?c46 ?k46 ?a47 ?l47 ?c47 ?k47 ?a48 ?l48 ?c48 ?k48 ?a49 ?l49 ?c49 ?k49 ?a50 ?l50 ?c50 ?k50 ?a51 ?l51 ?c51 ?k51 ?a52 ?l52 ?c52 ?k52 ?a53 ?l53 ?c53 ?k53 ?a54 ?l54 ?c54 ?k54 ?J6o ?J65 ?J61 ?J5P ?J6s ?J67 ?J87 ?J8o ?J8j ?J8e ?J84 ?J80 ?J5Y ?J6t ?J6u ?J5R ?J5W ?J6e ?J8k ?J7T ?J8d ?J8l ?J8c ?J85 ?J5f ?J4W ?J58 ?J5j ?J56 ?J5b ?Jag ?Ja9 ?Jam ?J9V ?J9S ?J9Z ?J51 ?J5h ?J4Y ?J5c ?J4Z ?J5d ?J6i ?J6k ?J66 ?J68 ?J6w ?J5U ?J3i ?J5a ?J53 ?J55 ?J3X ?J59 ?J0u ?J12 ?J0Y ?J1b ?J0i ?J2H ?J3a ?J3J ?J6h ?J6q ?J6n ?J4x ?J6c ?J0E ?J19 ?J1a ?J1w ?J0t ?J2V ?J3t ?J54 ?J5n ?J5e ?J5m ?J4X ?J5o ?J57 ?J50 ?J5p ?J3W ?J5l ?J0s ?J0Z ?J1U ?J23 ?J0h ?J2G ?J2E ?J2g ?J1K ?J1l ?J0X ?J1P ?J1r ?J1R ?J10 ?J0N ?J1k ?J1e ?JV ?J1n ?J1z ?J1o ?J1d ?J1I ?J1f ?J16 ?J2f ?J1H ?J2d ?J0O ?J2c ?JM ?J0K ?J1m ?J11 ?J0V ?J2j ?J97 ?J99 ?J0P ?J04 ?J0y ?J1Y ?J8V ?J8Z ?J0n ?J5C
  (case J7W=>k_is)
  (case Jad=>k_is)
  (case J8f=>k_is)
  (case Jaf=>k_is)
  (case J64=>k_is)
  (case Jcd=>k_is)
  (case J5Z=>k_is)
  (case J88=>k_is)
  (case J3L=>k_is)
  (case J83=>k_is)
  (case J5i=>k_is)
  (case J6l=>k_is)
  (case J82=>k_is)
  (case J69=>k_is)
  (case J5g=>k_is)
  (case J5Q=>k_is)
  (case a1=>k_is)
  (case l1=>k_is)
  (case c1=>k_is)
  (case k1=>k_is)
  (case a2=>k_is)
  (case l2=>k_is)
  (case c2=>k_is)
  (case k2=>k_is)
  (case a3=>k_is)
  (case l3=>k_is)
  (case c3=>k_is)
  (case k3=>k_is)
  (case a4=>k_is)
  (case l4=>k_is)
  (case c4=>k_is)
  (case k4=>k_is)
  (case a5=>k_is)
  (case i5=>k_is)
  (case l5=>k_is)
  (case c5=>k_is)
  (case k5=>k_is)
  (case a6=>k_is)
  (case i6=>k_is)
  (case l6=>k_is)
  (case c6=>k_is)
  (case k6=>k_is)
  (case a7=>k_is)
  (case i7=>k_is)
  (case l7=>k_is)
  (case c7=>k_is)
  (case k7=>k_is)
  (case a8=>k_is)
  (case i8=>k_is)
  (case l8=>k_is)
  (case c8=>k_is)
  (case k8=>k_is)
  (case a9=>k_is)
  (case i9=>k_is)
  (case l9=>k_is)
  (case c9=>k_is)
  (case k9=>k_is)
  (case a10=>k_is)
  (case i10=>k_is)
  (case l10=>k_is)
  (case c10=>k_is)
  (case k10=>k_is)
  (case a11=>k_is)
  (case i11=>k_is)
  (case l11=>k_is)
  (case c11=>k_is)
  (case k11=>k_is)
  (case a12=>k_is)
  (case i12=>k_is)
  (case l12=>k_is)
  (case c12=>k_is)
  (case k12=>k_is)
  (case a13=>k_is)
  (case i13=>k_is)
  (case l13=>k_is)
  (case c13=>k_is)
  (case k13=>k_is)
  (case a14=>k_is)
  (case i14=>k_is)
  (case l14=>k_is)
  (case c14=>k_is)
  (case k14=>k_is)
  (case a15=>k_is)
  (case i15=>k_is)
  (case l15=>k_is)
  (case c15=>k_is)
  (case k15=>k_is)
  (case a16=>k_is)
  (case i16=>k_is)
  (case l16=>k_is)
  (case c16=>k_is)
  (case k16=>k_is)
  (case a17=>k_is)
  (case l17=>k_is)
  (case c17=>k_is)
  (case k17=>k_is)
  (case a18=>k_is)
  (case i18=>k_is)
  (case l18=>k_is)
  (case c18=>k_is)
  (case k18=>k_is)
  (case a19=>k_is)
  (case i19=>k_is)
  (case l19=>k_is)
  (case c19=>k_is)
  (case k19=>k_is)
  (case a20=>k_is)
  (case i20=>k_is)
  (case l20=>k_is)
  (case c20=>k_is)
  (case k20=>k_is)
  (case a21=>k_is)
  (case l21=>k_is)
  (case c21=>k_is)
  (case k21=>k_is)
  (case a22=>k_is)
  (case i22=>k_is)
  (case l22=>k_is)
  (case c22=>k_is)
  (case k22=>k_is)
  (case a23=>k_is)
  (case l23=>k_is)
  (case c23=>k_is)
  (case k23=>k_is)
  (case a24=>k_is)
  (case l24=>k_is)
  (case c24=>k_is)
  (case k24=>k_is)
  (case a25=>k_is)
  (case l25=>k_is)
  (case c25=>k_is)
  (case k25=>k_is)
  (case a26=>k_is)
  (case l26=>k_is)
  (case c26=>k_is)
  (case k26=>k_is)
  (case a27=>k_is)
  (case l27=>k_is)
  (case c27=>k_is)
  (case k27=>k_is)
  (case a28=>k_is)
  (case i28=>k_is)
  (case l28=>k_is)
  (case c28=>k_is)
  (case k28=>k_is)
  (case a29=>k_is)
  (case l29=>k_is)
  (case c29=>k_is)
  (case k29=>k_is)
  (case a30=>k_is)
  (case l30=>k_is)
  (case c30=>k_is)
  (case k30=>k_is)
  (case a31=>k_is)
  (case l31=>k_is)
  (case c31=>k_is)
  (case k31=>k_is)
  (case a32=>k_is)
  (case l32=>k_is)
  (case c32=>k_is)
  (case k32=>k_is)
  (case a33=>k_is)
  (case l33=>k_is)
  (case c33=>k_is)
  (case k33=>k_is)
  (case a34=>k_is)
  (case l34=>k_is)
  (case c34=>k_is)
  (case k34=>k_is)
  (case a35=>k_is)
  (case l35=>k_is)
  (case c35=>k_is)
  (case k35=>k_is)
  (case a36=>k_is)
  (case l36=>k_is)
  (case c36=>k_is)
  (case k36=>k_is)
  (case a37=>k_is)
  (case l37=>k_is)
  (case c37=>k_is)
  (case k37=>k_is)
  (case a38=>k_is)
  (case l38=>k_is)
  (case c38=>k_is)
  (case k38=>k_is)
  (case a39=>k_is)
  (case l39=>k_is)
  (case c39=>k_is)
  (case k39=>k_is)
  (case a40=>k_is)
  (case l40=>k_is)
  (case c40=>k_is)
  (case k40=>k_is)
  (case a41=>k_is)
  (case l41=>k_is)
  (case c41=>k_is)
  (case k41=>k_is)
  (case a42=>k_is)
  (case l42=>k_is)
  (case c42=>k_is)
  (case k42=>k_is)
  (case a43=>k_is)
  (case l43=>k_is)
  (case c43=>k_is)
  (case k43=>k_is)
  (case a44=>k_is)
  (case l44=>k_is)
  (case c44=>k_is)
  (case k44=>k_is)
  (case a45=>k_is)
  (case i45=>k_is)
  (case l45=>k_is)
  (case c45=>k_is)
  (case k45=>k_is)
  (case a46=>k_is)
  (case l46=>k_is)
  (case c46=>k_is)
  (case k46=>k_is)
  (case a47=>k_is)
  (case l47=>k_is)
  (case c47=>k_is)
  (case k47=>k_is)
  (case a48=>k_is)
  (case l48=>k_is)
  (case c48=>k_is)
  (case k48=>k_is)
  (case a49=>k_is)
  (case l49=>k_is)
  (case c49=>k_is)
  (case k49=>k_is)
  (case a50=>k_is)
  (case l50=>k_is)
  (case c50=>k_is)
  (case k50=>k_is)
  (case a51=>k_is)
  (case l51=>k_is)
  (case c51=>k_is)
  (case k51=>k_is)
  (case a52=>k_is)
  (case l52=>k_is)
  (case c52=>k_is)
  (case k52=>k_is)
  (case a53=>k_is)
  (case l53=>k_is)
  (case c53=>k_is)
  (case k53=>k_is)
  (case a54=>k_is)
  (case l54=>k_is)
  (case c54=>k_is)
  (case k54=>k_is)
  (case J6o=>k_is)
  (case J65=>k_is)
  (case J61=>k_is)
  (case J5P=>k_is)
  (case J6s=>k_is)
  (case J67=>k_is)
  (case J87=>k_is)
  (case J8o=>k_is)
  (case J8j=>k_is)
  (case J8e=>k_is)
  (case J84=>k_is)
  (case J80=>k_is)
  (case J5Y=>k_is)
  (case J6t=>k_is)
  (case J6u=>k_is)
  (case J5R=>k_is)
  (case J5W=>k_is)
  (case J6e=>k_is)
  (case J8k=>k_is)
  (case J7T=>k_is)
  (case J8d=>k_is)
  (case J8l=>k_is)
  (case J8c=>k_is)
  (case J85=>k_is)
  (case J5f=>k_is)
  (case J4W=>k_is)
  (case J58=>k_is)
  (case J5j=>k_is)
  (case J56=>k_is)
  (case J5b=>k_is)
  (case Jag=>k_is)
  (case Ja9=>k_is)
  (case Jam=>k_is)
  (case J9V=>k_is)
  (case J9S=>k_is)
  (case J9Z=>k_is)
  (case J51=>k_is)
  (case J5h=>k_is)
  (case J4Y=>k_is)
  (case J5c=>k_is)
  (case J4Z=>k_is)
  (case J5d=>k_is)
  (case J6i=>k_is)
  (case J6k=>k_is)
  (case J66=>k_is)
  (case J68=>k_is)
  (case J6w=>k_is)
  (case J5U=>k_is)
  (case J3i=>k_exc)
  (case J5a=>k_is)
  (case J53=>k_is)
  (case J55=>k_is)
  (case J3X=>k_is)
  (case J59=>k_is)
  (case J0u=>kts_exm)
  (case J12=>kit_is)
  (case J0Y=>kit_is)
  (case J1b=>kit_is)
  (case J0i=>kit_is)
  (case J2H=>kit_is)
  (case J3a=>kit_is)
  (case J3J=>k_exc)
  (case J6h=>k_is)
  (case J6q=>k_is)
  (case J6n=>k_is)
  (case J4x=>k_is)
  (case J6c=>k_is)
  (case J0E=>kts_exm)
  (case J19=>kit_is)
  (case J1a=>kit_is)
  (case J1w=>kit_is)
  (case J0t=>kit_is)
  (case J2V=>kit_is)
  (case J3t=>kit_is)
  (case J54=>kernel_rfl)
  (case J5n=>kernel_rfl)
  (case J5e=>k_is)
  (case J5m=>k_is)
  (case J4X=>k_is)
  (case J5o=>k_is)
  (case J57=>k_is)
  (case J50=>k_is)
  (case J5p=>k_is)
  (case J3W=>k_is)
  (case J5l=>k_is)
  (case J0s=>kts_exm)
  (case J0Z=>kit_is)
  (case J1U=>kit_is)
  (case J23=>kit_is)
  (case J0h=>kit_is)
  (case J2G=>kit_is)
  (case J2E=>kit_is)
  (case J2g=>k_is)
  (case J1K=>k_is)
  (case J1l=>k_is)
  (case J0X=>k_is)
  (case J1P=>k_is)
  (case J1r=>k_is)
  (case J1R=>k_is)
  (case J10=>k_is)
  (case J0N=>k_is)
  (case J1k=>k_is)
  (case J1e=>k_is)
  (case JV=>k_is)
  (case J1n=>k_is)
  (case J1z=>k_is)
  (case J1o=>k_is)
  (case J1d=>k_is)
  (case J1I=>k_is)
  (case J1f=>k_is)
  (case J16=>k_is)
  (case J2f=>k_is)
  (case J1H=>k_is)
  (case J2d=>k_is)
  (case J0O=>k_is)
  (case J2c=>k_is)
  (case JM=>k_is)
  (case J0K=>k_is)
  (case J1m=>k_is)
  (case J11=>k_is)
  (case J0V=>k_is)
  (case J2j=>k_is)
  (case J97=>k_is)
  (case J99=>k_is)
  (case J0P=>k_is)
  (case J04=>k_is)
  (case J0y=>k_is)
  (case J1Y=>k_is)
  (case J8V=>k_is)
  (case J8Z=>k_is)
  (case J0n=>k_is)
  (case J5C=>k_is)
#print axioms PySem.Challenge.cw_rotafair_k74_swapped_holds
