import PyProof.Rows.All
import Wide.All
import OpenK.AllK
import Wide.FinOn
import PyProof.EqAt
import PyProof.EqKinds
import PyProof.TupleCall
import KE.BitLaws
import PyProof.ExcInit
import PyProof.ExcBaseAll.Exception
import PyProof.InstStoreFacts
import PyProof.ExcAttrAll.Exception
import PyProof.ExcArgsOwn
import Open.SpecLaws
import KE.OsHead
import KE.OsGo
import PyVbchai
import PyFlatLaws
import KE.KSortTupG
import KE.KDictSum
import PySem.Challenge.RW_defaultfund_s01_answers
set_option Elab.async false
set_option linter.all false
set_option maxRecDepth 100000
namespace L2
open PySem PySem.Spec PyProof.Rows
abbrev Key:=Sum Int Str
def keyIs : Key → Value → Bool
 | .inl k,v=>Value.isInt k v
 | .inr x,v=>Value.isStrOf x v
def keyH (w : World) : Key → Int
 | .inl k=>hashInt k
 | .inr x=>hashStr w x
theorem keyIs_shape : ∀ {k : Key} {v : Value},keyIs k v = true → (∃ i t,k = Sum.inl i ∧ v = Value.int i t) ∨ (∃ x t,k = Sum.inr x ∧ v = Value.str x t)
 | .inl i,v,h=>by
  obtain ⟨t,e⟩:=Value.isInt_shape (k:=i) (v:=v) h
  exact .inl ⟨i,t,rfl,e⟩
 | .inr x,v,h=>by
  obtain ⟨t,e⟩:=Value.isStrOf_shape (x:=x) (v:=v) h
  exact .inr ⟨x,t,rfl,e⟩
theorem keyIs_int (i : Int) (t : Tok) : keyIs (.inl i) (.int i t) = true:=by simp [keyIs,Value.isInt]
theorem keyIs_str (x : Str) (t : Tok) : keyIs (.inr x) (.str x t) = true:=by simp [keyIs,Value.isStrOf]
theorem key_ll (a b : Int) : decide ((Sum.inl a : Key) = Sum.inl b) = (a == b):=by
 by_cases e : a = b
 ·subst e; simp
 ·have h : ¬ (Sum.inl a : Key) = Sum.inl b:=fun q=>e (Sum.inl.inj q)
  rw [decide_eq_false h]
  exact (beq_eq_false_iff_ne.mpr e).symm
theorem key_rr (a b : Str) : decide ((Sum.inr a : Key) = Sum.inr b) = decide (a = b):=by
 by_cases e : a = b
 ·subst e; simp
 ·have h : ¬ (Sum.inr a : Key) = Sum.inr b:=fun q=>e (Sum.inr.inj q)
  rw [decide_eq_false h,decide_eq_false e]
theorem key_lr (a : Int) (b : Str) : decide ((Sum.inl a : Key) = Sum.inr b) = false:=decide_eq_false (fun q=>nomatch q)
theorem key_rl (a : Str) (b : Int) : decide ((Sum.inr a : Key) = Sum.inl b) = false:=decide_eq_false (fun q=>nomatch q)
def mixKind (prog : Program) (w : World) : PySem.KeyKind prog w Key where
 is:=keyIs
 hash:=keyH w
 inj:=fun v a b ha hb=>by
  rcases keyIs_shape ha with ⟨i,t,rfl,rfl⟩ | ⟨x,t,rfl,rfl⟩
  ·rcases keyIs_shape hb with ⟨j,u,rfl,e⟩ | ⟨y,u,rfl,e⟩
   ·injection e with e1 _; rw [e1]
   ·exact nomatch e
  ·rcases keyIs_shape hb with ⟨j,u,rfl,e⟩ | ⟨y,u,rfl,e⟩
   ·exact nomatch e
   ·injection e with e1 _; rw [e1]
 byValue:=fun k v h=>by
  rcases keyIs_shape h with ⟨i,t,rfl,rfl⟩ | ⟨x,t,rfl,rfl⟩ <;> rfl
 pyHash:=fun hv h=>by
  rcases keyIs_shape hv with ⟨i,t,rfl,rfl⟩ | ⟨x,t,rfl,rfl⟩
  ·exact wpAny_pyHash_int h
  ·exact wpAny_pyHash_str h
 eqBool:=fun hu hv h=>by
  rcases keyIs_shape hu with ⟨i,t,rfl,rfl⟩ | ⟨x,t,rfl,rfl⟩
  ·rcases keyIs_shape hv with ⟨j,u,rfl,rfl⟩ | ⟨y,u,rfl,rfl⟩
   ·rw [key_ll] at h; exact wpAny_eqBool_int h
   ·rw [key_lr] at h; exact SeqAt.EqAt.int_str i t y u _ _ _ _ h
  ·rcases keyIs_shape hv with ⟨j,u,rfl,rfl⟩ | ⟨y,u,rfl,rfl⟩
   ·rw [key_rl] at h; exact SeqAt.EqAt.str_int x t j u _ _ _ _ h
   ·rw [key_rr] at h; exact wpAny_eqBool_str h
 «strs»:=fun k x t v h=>by
  rcases keyIs_shape h with ⟨i,u,rfl,e⟩ | ⟨y,u,rfl,e⟩
  ·exact nomatch e
  ·injection e with e1 _
   subst e1
   cases v <;> rfl
theorem mixKind_int (prog : Program) (w : World) (i : Int) (t : Tok) : (mixKind prog w).is (.inl i) (.int i t) = true:=keyIs_int i t
theorem mixKind_str (prog : Program) (w : World) (x : Str) (t : Tok) : (mixKind prog w).is (.inr x) (.str x t) = true:=keyIs_str x t
end L2
namespace L2
open PySem PySem.Spec PyProof.Rows
inductive V where
 | non | bl (b : Bool) | int (i : Int) | str (x : Str) | byt (b : Array UInt8) | flt (b : UInt64) | ref (a : Addr) | ty (n : String)
 deriving DecidableEq
def RelV : V → Value → Prop
 | .non,u=>u = Value.none
 | .bl b,u=>u = Value.bool b
 | .int i,u=>∃ t,u = Value.int i t
 | .str x,u=>∃ t,u = Value.str x t
 | .byt b,u=>∃ t,u = Value.bytes b t
 | .flt b,u=>∃ t,u = Value.float b t
 | .ref a,u=>u = Value.ref a
 | .ty n,u=>u = Value.type n
abbrev Vals : List V → List Value → Prop:=Paired RelV
theorem Vals.length {xs : List V} {us : List Value} (r : Vals xs us) : xs.length = us.length:=Paired.length r
theorem Vals.get : ∀ {xs : List V} {us : List Value} {i : Nat} {x : V},Vals xs us → xs[i]? = some x → ∃ u,us[i]? = some u ∧ RelV x u
 | _,_,_,_,.nil,e=>by simp at e
 | _,_,0,_,.cons r _,e=>by simp at e; subst e; exact ⟨_,rfl,r⟩
 | _,_,i + 1,x,.cons _ t,e=>by
  obtain ⟨u,h1,h2⟩:=Vals.get (i:=i) (x:=x) t (by simpa using e)
  exact ⟨u,by simpa using h1,h2⟩
theorem Vals.append : ∀ {xs ys : List V} {us ws : List Value},Vals xs us → Vals ys ws → Vals (xs ++ ys) (us ++ ws)
 | _,_,_,_,.nil,s=>s
 | _,_,_,_,.cons r t,s=>.cons r (Vals.append t s)
theorem Vals.take : ∀ {xs : List V} {us : List Value} (n : Nat),Vals xs us → Vals (xs.take n) (us.take n)
 | _,_,0,_=>.nil
 | _,_,_ + 1,.nil=>.nil
 | _,_,n + 1,.cons r t=>.cons r (Vals.take n t)
theorem Vals.drop : ∀ {xs : List V} {us : List Value} (n : Nat),Vals xs us → Vals (xs.drop n) (us.drop n)
 | _,_,0,r=>r
 | _,_,_ + 1,.nil=>.nil
 | _,_,n + 1,.cons _ t=>Vals.drop n t
def RelO : Option V → Option Value → Prop
 | some v,some u=>RelV v u
 | none,none=>True
 | _,_=>False
def KV {κ : Type} : List (κ × V) → List (κ × Value) → Prop:=Paired fun (p : κ × V) (q : κ × Value)=>p.1 = q.1 ∧ RelV p.2 q.2
def kV : Key → V
 | .inl i=>.int i
 | .inr x=>.str x
inductive HO where
 | lst (xs : List V)
 | tup (xs : List V)
 | dK (kvs : List (Key × V)) | dT (kvs : List (List Key × V))
 | set (S : Int → Bool) (n : Nat)
 | ins (C dx : Addr) (fs : List (Str × V))
 | own (x : Addr)
 | xd (fs : List (Str × V))
 | met (f x : Addr)
 | rng (lo hi : Int)
 | frz (o : Obj) (u : HO)
 | tbl (ps : Array Value)
 | ext (φ : Heap → Prop)
abbrev Hp:=Addr → Option HO
def upd (H : Hp) (a : Addr) (o : HO) : Hp:=fun b=>if b = a then some o else H b
theorem upd_same {H : Hp} {a : Addr} {o : HO} : upd H a o a = some o:=by unfold upd; rw [if_pos rfl]
theorem upd_ne {H : Hp} {a b : Addr} {o : HO} (h : b ≠ a) : upd H a o b = H b:=by unfold upd; rw [if_neg h]
theorem ne_of {H : Hp} {a b : Addr} {o u : HO} (h : H a = some o) (h' : H b = some u) (d : o ≠ u) : a ≠ b:=by
 intro e; subst e; rw [h] at h'; exact d (Option.some.inj h')
theorem ne_of_none {H : Hp} {a b : Addr} {o : HO} (h : H a = some o) (h' : H b = none) : a ≠ b:=by
 intro e; subst e; rw [h] at h'; cases h'
section
variable (P : Program) (w : World)
def ObjOk (H : Hp) (h : Heap) (a : Addr) : HO → Prop
 | .lst xs=>xs.length ≤ sizeLine ∧ ∃ (its : List Value) (n : Nat),Vals xs its ∧ h.get? a = some { cls:=.type "list",data:=.seq its.toArray n }
 | .tup xs=>xs.length ≤ sizeLine ∧ ∃ its : List Value,Vals xs its ∧ IsTup h a its.toArray
 | .dK kvs=>kvs.length ≤ sizeLine ∧ (a == sysModules) = false ∧ ∃ vs,KV kvs vs ∧ h.DictOf (mixKind P w) a vs
 | .dT kvs=>kvs.length ≤ sizeLine ∧ (a == sysModules) = false ∧ ∃ xs : List (List Key × Addr × Value),
   Paired (fun (p : List Key × V) (q : List Key × Addr × Value)=>p.1 = q.1 ∧ H q.2.1 = some (.tup (p.1.map kV)) ∧ RelV p.2 q.2.2) kvs xs ∧
   ∃ o es ep,h.get? a = some o ∧ o.ExactDict ∧ o.data = .dict es ep ∧ es.toList = xs.map (entryOfKey (tupleKind (mixKind P w))) ∧ (xs.map (·.1)).Nodup
 | .set S n=>h.SetOf (intKind P w) a S n
 | .ins C dx fs=>H dx = some (.own a) ∧ fs.length ≤ 1000 ∧ dx ≠ a ∧ h.get? a = some (PySem.W.instObj C dx) ∧
   ∃ mA,h.Ns1 dx mA ∧ (∀ f,RelO (fs.lookup f) (mA f)) ∧ PySem.Within mA (fs.map (·.1))
 | .own _=>∃ o,h.get? a = some o
 | .xd fs=>∃ mA,h.Ns1 a mA ∧ ∀ f,RelO (fs.lookup f) (mA f)
 | .rng lo hi=>∃ t u v,h.get? a = some { cls:=.type "range",data:=.fields #[.int lo t,.int hi u,.int 1 v] }
 | .frz o u=>h.get? a = some o ∧ ObjOk H h a u
 | .tbl ps=>h.get? a = some { cls:=.none,data:=.fields ps }
 | .met f x=>h.get? a = some (PySem.W.methodObj (.ref f) (.ref x))
 | .ext φ=>φ h ∧ (∃ o,h.get? a = some o) ∧ ∀ h1 h2 : Heap,φ h1 → (∀ o,h1.get? a = some o → h2.get? a = some o) → φ h2
def HOk (H : Hp) (h : Heap) : Prop:=∀ a o,H a = some o → ObjOk P w H h a o
end
section
variable {P : Program} {w : World} {H H' : Hp} {h h' : Heap} {a : Addr} {o : HO}
theorem ObjOk.lt (x : ObjOk P w H h a o) : a < h.objs.size:=by
 cases o with
 | lst xs=>obtain ⟨_,_,_,_,e⟩:=x; exact Heap.lt_size e
 | tup xs=>obtain ⟨_,_,_,p⟩:=x; exact p.lt
 | dK kvs=>obtain ⟨_,_,_,_,o,_,_,e,_⟩:=x; exact Heap.lt_size e
 | dT kvs=>obtain ⟨_,_,_,_,o,_,_,e,_⟩:=x; exact Heap.lt_size e
 | set S n=>obtain ⟨o,_,_,_,e,_⟩:=x; exact Heap.lt_size e
 | ins C dx fs=>obtain ⟨_,_,_,e,_⟩:=x; exact Heap.lt_size e
 | own y=>obtain ⟨_,e⟩:=x; exact Heap.lt_size e
 | xd fs=>obtain ⟨_,⟨_,_,_,e,_⟩,_⟩:=x; exact Heap.lt_size e
 | rng lo hi=>obtain ⟨_,_,_,e⟩:=x; exact Heap.lt_size e
 | frz ob u=>obtain ⟨e,_⟩:=x; exact Heap.lt_size e
 | tbl ps=>exact Heap.lt_size (show h.get? a = some _ from x)
 | met f y=>exact Heap.lt_size (show h.get? a = some _ from x)
 | ext φ=>obtain ⟨_,⟨_,e⟩,_⟩:=x; exact Heap.lt_size e
theorem Paired.mapP {α β : Type} {F G : α → β → Prop} : ∀ {l₁ : List α} {l₂ : List β},Paired F l₁ l₂ → (∀ a b,F a b → G a b) → Paired G l₁ l₂
 | _,_,.nil,_=>.nil
 | _,_,.cons r t,f=>.cons (f _ _ r) (Paired.mapP t f)
theorem ObjOk.stay (x : ObjOk P w H h a o) (k : ∀ b u,(b = a ∨ H b = some (.own a)) → h.get? b = some u → h'.get? b = some u)
  (ho : ∀ b,H b = some (.own a) → H' b = some (.own a)) (ht : ∀ b xs,H b = some (.tup xs) → H' b = some (.tup xs)) : ObjOk P w H' h' a o:=by
 induction o with
 | lst xs=>obtain ⟨z,its,n,r,e⟩:=x; exact ⟨z,its,n,r,k _ _ (.inl rfl) e⟩
 | tup xs=>obtain ⟨z,its,r,ob,e,c⟩:=x; exact ⟨z,its,r,ob,k _ _ (.inl rfl) e,c⟩
 | dK kvs=>obtain ⟨z,y,vs,r,ob,es,ep,e,c⟩:=x; exact ⟨z,y,vs,r,ob,es,ep,k _ _ (.inl rfl) e,c⟩
 | dT kvs =>
  obtain ⟨z,y,xs,r,ob,es,ep,e,c⟩:=x
  exact ⟨z,y,xs,Paired.mapP r fun p q z=>⟨z.1,ht _ _ z.2.1,z.2.2⟩,ob,es,ep,k _ _ (.inl rfl) e,c⟩
 | set S n=>obtain ⟨ob,es,ep,t,e,c⟩:=x; exact ⟨ob,es,ep,t,k _ _ (.inl rfl) e,c⟩
 | ins C dx fs =>
  obtain ⟨d,z,ne,e,mA,⟨od,es,ep,e2,c⟩,r⟩:=x
  exact ⟨ho _ d,z,ne,k _ _ (.inl rfl) e,mA,⟨od,es,ep,k _ _ (.inr d) e2,c⟩,r⟩
 | own y=>obtain ⟨ob,e⟩:=x; exact ⟨ob,k _ _ (.inl rfl) e⟩
 | xd fs=>obtain ⟨mA,⟨od,es,ep,e,c⟩,r⟩:=x; exact ⟨mA,⟨od,es,ep,k _ _ (.inl rfl) e,c⟩,r⟩
 | rng lo hi=>obtain ⟨t,u,v,e⟩:=x; exact ⟨t,u,v,k _ _ (.inl rfl) e⟩
 | frz ob u ih=>obtain ⟨e,q⟩:=x; exact ⟨k _ _ (.inl rfl) e,ih q⟩
 | tbl ps =>
  have e : h.get? a = some { cls:=.none,data:=.fields ps }:=x
  show h'.get? a = some { cls:=.none,data:=.fields ps }
  exact k a _ (.inl rfl) e
 | met f y =>
  have e : h.get? a = some (PySem.W.methodObj (.ref f) (.ref y)):=x
  show h'.get? a = some (PySem.W.methodObj (.ref f) (.ref y))
  exact k a _ (.inl rfl) e
 | ext φ=>obtain ⟨p,⟨o,e⟩,st⟩:=x; exact ⟨st _ _ p fun o q=>k _ _ (.inl rfl) q,⟨o,k _ _ (.inl rfl) e⟩,st⟩
theorem HOk.lt (x : HOk P w H h) (e : H a = some o) : a < h.objs.size:=(x a o e).lt
theorem HOk.fresh (x : HOk P w H h) (e : h.objs.size ≤ a) : H a = none:=by
 cases q : H a with
 | none=>rfl
 | some u=>exact absurd (Nat.lt_of_lt_of_le (x.lt q) e) (Nat.lt_irrefl _)
theorem HOk.kept (x : HOk P w H h) (k : ∀ b u,h.get? b = some u → h'.get? b = some u) : HOk P w H h':=fun a o e =>
 (x a o e).stay (fun b u _ q=>k b u q) (fun _ q=>q) fun _ _ q=>q
theorem HOk.laid (x : HOk P w H h) (k : ∀ b u,h.get? b = some u → h'.get? b = some u) (hp : h.objs.size ≤ a) (new : ObjOk P w (upd H a o) h' a o) : HOk P w (upd H a o) h':=fun b u e=>by
 have hn:=x.fresh hp
 by_cases hb : b = a
 ·subst hb; rw [upd_same] at e; cases e; exact new
 ·rw [upd_ne hb] at e
  exact (x b u e).stay (fun c v _ q=>k c v q) (fun c q=>by rw [upd_ne (ne_of_none q hn)]; exact q) fun c xs q=>by rw [upd_ne (ne_of_none q hn)]; exact q
end
def Rd (H : Hp) (a : Addr) (u : HO) : Prop:=H a = some u ∨ ∃ o,H a = some (.frz o u)
theorem Rd.ok {P : Program} {w : World} {H : Hp} {h : Heap} {a : Addr} {u : HO} (r : Rd H a u) (x : HOk P w H h) : ObjOk P w H h a u:=by
 rcases r with r | ⟨o,r⟩
 ·exact x a u r
 ·obtain ⟨_,q⟩:=x a _ r
  exact q
def Mut : Option HO → Prop
 | some (.lst _)=>True
 | some (.dK _)=>True
 | some (.dT _)=>True
 | some (.set _ _)=>True
 | some (.ins _ _ _)=>True
 | some (.ext _)=>True
 | _=>False
section
variable {P : Program} {w : World} {H : Hp} {h h' : Heap} {x e : Addr} {o' : HO}
theorem HOk.write (ok : HOk P w H h) (mu : Mut (H x)) (he : e = x ∨ H e = some (.own x)) (k : ∀ b u,b ≠ e → h.get? b = some u → h'.get? b = some u) (heo : ∃ u,h'.get? e = some u)
  (new : ObjOk P w (upd H x o') h' x o') : HOk P w (upd H x o') h':=fun b u q=>by
 have nown : ∀ c y,H c = some (.own y) → c ≠ x:=fun c y r z=>by subst z; rw [r] at mu; exact mu
 have ntup : ∀ c xs,H c = some (.tup xs) → c ≠ x:=fun c xs r z=>by subst z; rw [r] at mu; exact mu
 by_cases hb : b = x
 ·subst hb; rw [upd_same] at q; cases q; exact new
 ·rw [upd_ne hb] at q
  by_cases hbe : b = e
  ·have q' : H b = some (.own x):=by
    rcases he with z | z
    ·exact absurd (hbe.trans z) hb
    ·rw [hbe]; exact z
   rw [q] at q'; cases q'
   obtain ⟨v,hv⟩:=heo
   exact ⟨v,by rw [hbe]; exact hv⟩
  ·refine (ok b u q).stay (fun c v hc r=>k c v ?_ r) (fun c r=>by rw [upd_ne (nown c b r)]; exact r) fun c xs r=>by rw [upd_ne (ntup c xs r)]; exact r
   rcases hc with rfl | hc
   ·exact hbe
   ·rintro rfl
    rcases he with z | z
    ·exact nown c b hc z
    ·rw [hc] at z; cases z; exact hb rfl
end
structure Un (fs ex : List Addr) (H H' : Hp) (h h' : Heap) : Prop where
 keep : ∀ b o,h.get? b = some o → H b = none → b ∉ fs → b ∉ ex → h'.get? b = some o
 slot : ∀ b o,h.get? b = some o → H b = none → b ∈ fs → b ∉ ex → ∃ sl,h'.get? b = some { o with slots:=sl }
 free : ∀ b o,h.get? b = some o → H b = none → b ∉ ex → H' b = none
 there : ∀ b o,h.get? b = some o → b ∉ ex → ∃ o',h'.get? b = some o'
 tups : ∀ b xs,H b = some (.tup xs) → H' b = some (.tup xs)
 frzs : ∀ b o u,H b = some (.frz o u) → H' b = some (.frz o u)
 tbls : ∀ b ps,H b = some (.tbl ps) → ∃ more,H' b = some (.tbl (ps ++ more))
section
variable {fs fs' ex ex' : List Addr} {H H1 H2 : Hp} {h h1 h2 h' : Heap} {a x e : Addr} {o : HO}
theorem Un.any (u : Un fs ex H H1 h h1) {b : Addr} {ob : Obj} (q : h.get? b = some ob) (n : H b = none) (hx : b ∉ ex) : ∃ sl,h1.get? b = some { ob with slots:=sl }:=by
 by_cases hb : b ∈ fs
 ·exact u.slot b ob q n hb hx
 ·exact ⟨ob.slots,u.keep b ob q n hb hx⟩
theorem Un.kept (k : ∀ b u,h.get? b = some u → h'.get? b = some u) : Un fs ex H H h h' :=
 ⟨fun b ob q _ _ _=>k b ob q,fun b ob q _ _ _=>⟨ob.slots,k b ob q⟩,fun _ _ _ n _=>n,fun b ob q _=>⟨ob,k b ob q⟩,fun _ _ q=>q,fun _ _ _ q=>q,fun _ ps q=>⟨#[],by rw [q]; simp⟩⟩
theorem Un.refl : Un fs ex H H h h:=Un.kept fun _ _ q=>q
theorem Un.laid (k : ∀ b u,h.get? b = some u → h'.get? b = some u) (hp : h.objs.size ≤ a) (hn : H a = none) : Un fs ex H (upd H a o) h h' where
 keep:=fun b u q _ _ _=>k b u q
 slot:=fun b u q _ _ _=>⟨u.slots,k b u q⟩
 free:=fun b u q n _=>by rw [upd_ne (Nat.ne_of_lt (Nat.lt_of_lt_of_le (Heap.lt_size q) hp))]; exact n
 there:=fun b u q _=>⟨u,k b u q⟩
 tups:=fun b xs q=>by rw [upd_ne (ne_of_none q hn)]; exact q
 frzs:=fun b u xs q=>by rw [upd_ne (ne_of_none q hn)]; exact q
 tbls:=fun b ps q=>⟨#[],by rw [upd_ne (ne_of_none q hn),q]; simp⟩
theorem Un.write (mu : Mut (H x)) (he : e = x ∨ H e = some (.own x)) (k : ∀ b u,b ≠ e → h.get? b = some u → h'.get? b = some u) (heo : ∃ u,h'.get? e = some u) : Un fs ex H (upd H x o) h h':=by
 have hx : ∀ b,H b = none → b ≠ x:=fun b n z=>by subst z; rw [n] at mu; exact mu
 have hb : ∀ b,H b = none → b ≠ e:=fun b n z=>by
  subst z
  rcases he with r | r
  ·exact hx b n r
  ·rw [n] at r; cases r
 have hm : ∀ b u,H b = some u → ¬ Mut (some u) → b ≠ x:=fun b u q nm z=>by subst z; rw [q] at mu; exact nm mu
 refine ⟨fun b u q n _ _=>k b u (hb b n) q,fun b u q n _ _=>⟨u.slots,k b u (hb b n) q⟩,fun b u q n _=>by rw [upd_ne (hx b n)]; exact n,fun b u q _=>?_,
  fun b xs q=>by rw [upd_ne (hm b _ q fun z=>z)]; exact q,fun b u xs q=>by rw [upd_ne (hm b _ q fun z=>z)]; exact q,fun b ps q=>⟨#[],by rw [upd_ne (hm b _ q fun z=>z),q]; simp⟩⟩
 by_cases hbe : b = e
 ·subst hbe; exact heo
 ·exact ⟨u,k b u hbe q⟩
theorem Un.mono (u : Un fs ex H H1 h h1) (hs : ∀ b ∈ fs,b ∈ fs') (hx : ∀ b ∈ ex,b ∈ ex') : Un fs' ex' H H1 h h1 :=
 ⟨fun b ob q n hb he=>u.keep b ob q n (fun z=>hb (hs b z)) fun z=>he (hx b z),fun _ _ q n _ he=>u.any q n fun z=>he (hx _ z),fun b ob q n he=>u.free b ob q n fun z=>he (hx b z),fun b ob q he=>u.there b ob q fun z=>he (hx b z),u.tups,u.frzs,u.tbls⟩
end
def trk (h : Heap) (H : Hp) : List Addr:=(List.range h.objs.size).filter fun a=>(H a).isSome
def hidT (h : Heap) (H : Hp) : Heap:=PySem.W.hideAll h (trk h H)
theorem hidT_size (h : Heap) (H : Hp) : (hidT h H).objs.size = h.objs.size:=PySem.W.hideAll_size _ _
theorem hidT_get {h : Heap} {H : Hp} {b : Addr} {o : Obj} (e : h.get? b = some o) (n : H b = none) : (hidT h H).get? b = some o :=
 PySem.W.hideAll_get _ e fun hm=>by
  have q : (H b).isSome = true:=(List.mem_filter.mp hm).2
  rw [n] at q; simp at q
theorem of_hidT {h : Heap} {H : Hp} {b : Addr} {o : Obj} (e : (hidT h H).get? b = some o) : h.get? b = some o ∧ H b = none:=by
 have e' : h.get? b = some o:=PySem.W.of_hideAll (trk h H) e
 refine ⟨e',?_⟩
 cases q : H b with
 | none=>rfl
 | some x =>
  have hm : b ∈ trk h H:=List.mem_filter.mpr ⟨List.mem_range.mpr (Heap.lt_size e'),by simp [q]⟩
  have z : (hidT h H).get? b = none:=PySem.W.hideAll_none (trk h H) hm
  rw [z] at e; cases e
def allNews (g h : Heap) (L : Addr) : List (Addr × Obj):=(List.range h.objs.size).filterMap fun a=>if a = L ∨ (g.get? a).isSome = true then none else (h.get? a).map fun o=>(a,o)
def rest (g h : Heap) (L d : Addr) : List (Addr × Obj):=(allNews g h L).filter fun p=>decide (p.1 ≠ d)
end L2
namespace L2
open PySem PySem.Spec PyProof.Rows
structure Mod (K : PySem.W.Frag) (mg : Str → Option Value) (base : Heap) : Prop where
 kin : K.In base
 glob : base.Ns mainGlobals mg
 blt : ∃ mb,base.Ns builtinsNs mb ∧ ∀ x : Str,x ≠ "__name__" → mb x = bootBuiltins x
 nolimit : base.NoLimit
structure Cx where
 prog : Program
 w : World
 K : PySem.W.Frag
 mg : Str → Option Value
 base : Heap
 A : Around
 N : List Str
 s_0 : Shared
 H_0 : Hp
 env : Env
 outer : List Env
 stack : List Env
 ex : List Addr
 fn : Str → Bool
 calm : Bool
 pn : List (Addr × Obj)
 xe : Value → Shared → Prop
def frs (l : List Env) : List Addr:=l.filterMap (·.frame)
abbrev Cx.fs (X : Cx) : List Addr:=frs X.outer
def Vis (sc : Scope) (x : Str) : Prop:=sc.names.lookup x = some .local ∨ sc.names.lookup x = some .cell ∨ sc.names.lookup x = some .free
def Loc (sc : Scope) (x : Str) : Prop:=sc.names.lookup x = some .local ∨ sc.names.lookup x = some .cell
def Look (env : Env) (h : Heap) (m : Str → Option Value) (x : Str) (u : Value) : Prop :=
 (env.kindOf x = some .local ∧ m x = some u) ∨ ((env.kindOf x = some .cell ∨ env.kindOf x = some .free) ∧ ∃ c,env.cells.lookup x = some c ∧ h.IsCell c (some u))
structure Cx.Ok (X : Cx) : Prop where
 mod : Mod X.K X.mg X.base
 kind : X.env.scope.kind = .function
 glob : X.env.globals = mainGlobals
 blt : X.env.builtins = builtinsNs
 above : X.s_0.heap.objs.size ≤ X.env.locals
 inj : ∀ x y c,X.env.cells.lookup x = some c → X.env.cells.lookup y = some c → x = y
 has : ∀ x,(X.env.kindOf x = some .cell ∨ X.env.kindOf x = some .free) → ∃ c,X.env.cells.lookup x = some c
 cab : ∀ x c,X.fn x = true → X.env.cells.lookup x = some c → X.s_0.heap.objs.size ≤ c
 hd : X.calm = true → X.A.handled = none
 frames : X.A.frames = some X.stack
 stk : X.stack = X.outer ∨ (X.stack = X.env :: X.outer ∧ X.env.frame = some X.env.locals)
 exf : ∀ b ∈ X.ex,b ≠ X.env.locals ∧ ∀ x c,X.env.cells.lookup x = some c → c ≠ b
 bs : ∀ b o,X.base.get? b = some o → X.s_0.heap.get? b = some o ∧ X.H_0 b = none
 bsz : X.base.objs.size ≤ X.s_0.heap.objs.size
 noex : ∀ b o,X.base.get? b = some o → b ∉ X.ex
 exfs : ∀ b ∈ X.ex,b ∉ X.fs
 funs : X.s_0.heap.FunFrames X.base X.outer
 frf : ∀ b ∈ X.fs,X.H_0 b = none
structure Inv (X : Cx) (pins : List (Addr × Obj)) (σ : List (Option V)) (H : Hp) (s : Shared) : Prop where
 ok : X.Ok
 os : s.os = X.s_0.os
 bare : AllBare s.gens
 base : Un X.fs X.ex X.H_0 H X.s_0.heap s.heap
 loc : ∃ m,s.heap.Ns X.env.locals m ∧ ∀ (i : Nat) (x : Str) (v : V),X.N[i]? = some x → σ[i]? = some (some v) → Vis X.env.scope x → ∃ u,RelV v u ∧ Look X.env s.heap m x u
 cell : ∀ x c,X.env.cells.lookup x = some c → ∃ v,s.heap.IsCell c v
 free : H X.env.locals = none
 freeC : ∀ x c,X.env.cells.lookup x = some c → H c = none
 pin : ∀ p ∈ X.pn ++ pins,s.heap.get? p.1 = some p.2 ∧ H p.1 = none ∧ p.1 ≠ X.env.locals ∧ p.1 ∉ X.fs ∧ ∀ v,p.2.data ≠ .cell v
 hok : HOk X.prog X.w H s.heap
 len : σ.length = X.N.length
section
variable {X : Cx} {pins : List (Addr × Obj)} {σ : List (Option V)} {H H' : Hp} {s : Shared} {h' : Heap}
theorem Cx.Ok.nofr (ok : X.Ok) {b : Addr} {o : Obj} (e : X.base.get? b = some o) : b ∉ X.fs:=fun hb=>by
 have:=(ok.funs.mem hb).1
 rw [e] at this; cases this
theorem Inv.bs (I : Inv X pins σ H s) : ∀ b o,X.base.get? b = some o → s.heap.get? b = some o ∧ H b = none:=fun b o e =>
 ⟨I.base.keep b o (I.ok.bs b o e).1 (I.ok.bs b o e).2 (I.ok.nofr e) (I.ok.noex b o e),I.base.free b o (I.ok.bs b o e).1 (I.ok.bs b o e).2 (I.ok.noex b o e)⟩
theorem Inv.bk (I : Inv X pins σ H s) : ∀ b o,X.base.get? b = some o → s.heap.get? b = some o:=fun b o e=>(I.bs b o e).1
theorem Inv.mod (I : Inv X pins σ H s) : Mod X.K X.mg X.base:=I.ok.mod
theorem Inv.kIn (I : Inv X pins σ H s) : X.K.In s.heap:=I.ok.mod.kin.keeps I.bk
theorem Inv.fr (I : Inv X pins σ H s) : ∃ m,Fr X.base X.env.locals s.heap m :=
 let ⟨m,hn,_⟩:=I.loc
 ⟨m,hn,I.bk,Nat.le_trans I.ok.bsz I.ok.above⟩
theorem Inv.lt (I : Inv X pins σ H s) : X.env.locals < s.heap.objs.size:=let ⟨_,hn,_⟩:=I.loc; hn.lt
theorem Inv.sz (I : Inv X pins σ H s) : X.s_0.heap.objs.size ≤ s.heap.objs.size:=Nat.le_trans I.ok.above (Nat.le_of_lt I.lt)
theorem Inv.nofs (I : Inv X pins σ H s) {a : Addr} (h : s.heap.objs.size ≤ a) : a ∉ X.fs:=fun hb=>by
 obtain ⟨_,o,ho,_⟩:=I.ok.funs.mem hb
 exact absurd (Nat.lt_of_lt_of_le (Heap.lt_size ho) (Nat.le_trans I.sz h)) (Nat.lt_irrefl _)
theorem Inv.cne (I : Inv X pins σ H s) : ∀ x c,X.env.cells.lookup x = some c → c ≠ X.env.locals:=fun x c e z=>by
 obtain ⟨v,o,ho,hd⟩:=I.cell x c e
 obtain ⟨m,⟨o',es,ep,ho',hd',_⟩,_⟩:=I.loc
 rw [z,ho'] at ho; cases ho; rw [hd'] at hd; cases hd
theorem Inv.funs (I : Inv X pins σ H s) : s.heap.FunFrames X.base X.outer:=by
 have all : ∀ (l : List Env),(∀ b ∈ frs l,b ∈ X.fs) → X.s_0.heap.FunFrames X.base l → s.heap.FunFrames X.base l:=by
  intro l
  induction l with
  | nil=>intro _ _; trivial
  | cons env r ih =>
   intro hs hl
   obtain ⟨hk,⟨L,o,hf,hn,ho,hd⟩,hr⟩:=hl
   have hL : L ∈ X.fs:=hs L (by unfold frs; rw [List.filterMap_cons,hf]; exact List.mem_cons_self)
   obtain ⟨sl,e⟩:=I.base.slot L o ho (I.ok.frf L hL) hL fun z=>I.ok.exfs L z hL
   exact ⟨hk,⟨L,_,hf,hn,e,hd⟩,ih (fun b hb=>hs b (by unfold frs; rw [List.filterMap_cons,hf]; exact List.mem_cons_of_mem _ hb)) hr⟩
 exact all X.outer (fun _ hb=>hb) I.ok.funs
theorem Inv.stack (I : Inv X pins σ H s) : s.heap.FunFrames X.base X.stack:=by
 rcases I.ok.stk with e | ⟨e,hf⟩
 ·rw [e]; exact I.funs
 ·rw [e]
  obtain ⟨m,hn,_⟩:=I.loc
  refine .cons (by rw [I.ok.kind]; decide) hf hn ?_ I.funs
  exact Heap.get?_none_of_le (Nat.le_trans I.ok.bsz I.ok.above)
theorem Inv.stkSub (I : Inv X pins σ H s) : ∀ b ∈ frs X.stack,b ∈ X.env.locals :: X.fs:=fun b hb=>by
 rcases I.ok.stk with e | ⟨e,hf⟩
 ·rw [e] at hb; exact List.mem_cons_of_mem _ hb
 ·rw [e] at hb
  unfold frs at hb
  rw [List.filterMap_cons,hf] at hb
  exact hb
theorem Inv.stkFree (I : Inv X pins σ H s) : ∀ b ∈ frs X.stack,H b = none:=fun b hb=>by
 rcases List.mem_cons.mp (I.stkSub b hb) with e | hb
 ·rw [e]; exact I.free
 ·obtain ⟨_,o,ho,_⟩:=I.ok.funs.mem hb
  exact I.base.free b o ho (I.ok.frf b hb) fun z=>I.ok.exfs b z hb
theorem Inv.step {g' : Array GenState} {t' : Nat} {d' : Drawn} {ch : List Addr} (I : Inv X pins σ H s)
  (hch : ∀ b ∈ ch,(b ∈ X.ex ∨ X.s_0.heap.objs.size ≤ b) ∧ b ≠ X.env.locals ∧ (∀ x c,X.env.cells.lookup x = some c → c ≠ b) ∧ ∀ p ∈ X.pn ++ pins,p.1 ≠ b)
  (keep : ∀ b o,b ≠ X.env.locals → b ∉ X.fs → b ∉ ch → s.heap.get? b = some o → H b = none → h'.get? b = some o)
  (slot : ∀ b o,b ≠ X.env.locals → b ∈ X.fs → b ∉ ch → s.heap.get? b = some o → H b = none → ∃ sl,h'.get? b = some { o with slots:=sl }) (free : ∀ b o,b ∉ ch → s.heap.get? b = some o → H b = none → H' b = none)
  (there : ∀ b o,b ∉ ch → s.heap.get? b = some o → ∃ o',h'.get? b = some o')
  (tups : ∀ b xs,H b = some (.tup xs) → H' b = some (.tup xs)) (frzs : ∀ b o u,H b = some (.frz o u) → H' b = some (.frz o u)) (tbls : ∀ b ps,H b = some (.tbl ps) → ∃ more,H' b = some (.tbl (ps ++ more)))
  (ns : ∀ m,s.heap.Ns X.env.locals m → h'.Ns X.env.locals m) (hok : HOk X.prog X.w H' h') (hg : AllBare g') :
  Inv X pins σ H' { s with heap:=h',gens:=g',drawn:=d',toks:=t' }:=by
 have neL : ∀ b o,X.s_0.heap.get? b = some o → b ≠ X.env.locals:=fun b o e=>Nat.ne_of_lt (Nat.lt_of_lt_of_le (Heap.lt_size e) I.ok.above)
 have neC : ∀ b o,X.s_0.heap.get? b = some o → b ∉ X.ex → b ∉ ch:=fun b o e hx hb=>by
  rcases (hch b hb).1 with z | z
  ·exact hx z
  ·exact absurd (Nat.lt_of_lt_of_le (Heap.lt_size e) z) (Nat.lt_irrefl _)
 have cellK : ∀ x c,X.env.cells.lookup x = some c → ∀ v,s.heap.IsCell c v → h'.IsCell c v:=fun x c e v ⟨o,ho,hd⟩=>by
  have nch : c ∉ ch:=fun z=>(hch c z).2.2.1 x c e rfl
  by_cases hc : c ∈ X.fs
  ·obtain ⟨sl,q⟩:=slot c o (I.cne x c e) hc nch ho (I.freeC x c e)
   exact ⟨_,q,hd⟩
  ·exact ⟨o,keep c o (I.cne x c e) hc nch ho (I.freeC x c e),hd⟩
 refine ⟨I.ok,I.os,hg,⟨fun b o e n hb hx=>?_,fun b o e n hb hx=>?_,fun b o e n hx=>?_,fun b o e hx=>?_,fun b xs e=>tups b xs (I.base.tups b xs e),fun b o xs e=>frzs b o xs (I.base.frzs b o xs e),fun b ps e=>?_⟩,?_,fun x c e=>?_,?_,fun x c e=>?_,fun p hp=>?_,hok,I.len⟩
 ·exact keep b o (neL b o e) hb (neC b o e hx) (I.base.keep b o e n hb hx) (I.base.free b o e n hx)
 ·obtain ⟨sl,e1⟩:=I.base.slot b o e n hb hx
  obtain ⟨sl',e2⟩:=slot b _ (neL b o e) hb (neC b o e hx) e1 (I.base.free b o e n hx)
  exact ⟨sl',e2⟩
 ·obtain ⟨o',e1⟩:=I.base.there b o e hx
  exact free b o' (neC b o e hx) e1 (I.base.free b o e n hx)
 ·obtain ⟨o',e1⟩:=I.base.there b o e hx
  exact there b o' (neC b o e hx) e1
 ·obtain ⟨m1,e1⟩:=I.base.tbls b ps e
  obtain ⟨m2,e2⟩:=tbls b _ e1
  exact ⟨m1 ++ m2,by rw [e2,Array.append_assoc]⟩
 ·obtain ⟨m,hn,hl⟩:=I.loc
  refine ⟨m,ns m hn,fun i x v e1 e2 e3=>?_⟩
  obtain ⟨u,r,l⟩:=hl i x v e1 e2 e3
  refine ⟨u,r,?_⟩
  rcases l with l | ⟨k,c,e,z⟩
  ·exact .inl l
  ·exact .inr ⟨k,c,e,cellK x c e _ z⟩
 ·obtain ⟨v,z⟩:=I.cell x c e
  exact ⟨v,cellK x c e v z⟩
 ·obtain ⟨m,⟨o,_,_,ho,_⟩,_⟩:=I.loc
  exact free _ o (fun z=>(hch _ z).2.1 rfl) ho I.free
 ·obtain ⟨v,o,ho,hd⟩:=I.cell x c e
  exact free c o (fun z=>(hch c z).2.2.1 x c e rfl) ho (I.freeC x c e)
 ·obtain ⟨e,n,ne,nf,d⟩:=I.pin p hp
  have nch : p.1 ∉ ch:=fun z=>(hch p.1 z).2.2.2 p hp rfl
  exact ⟨keep p.1 p.2 ne nf nch e n,free p.1 p.2 nch e n,ne,nf,d⟩
theorem Inv.un {t' : Nat} (I : Inv X pins σ H s) (u : Un X.fs [] H H' s.heap h') (hok : HOk X.prog X.w H' h') : Inv X pins σ H' { s with heap:=h',toks:=t' }:=by
 obtain ⟨m,⟨o,es,ep,ho,r⟩,_⟩:=id I.loc
 obtain ⟨sl,hL⟩:=u.any ho I.free (by simp)
 exact I.step (g':=s.gens) (d':=s.drawn) (ch:=[]) (fun _ z=>nomatch z) (fun b o _ hb _ e n=>u.keep b o e n hb (by simp)) (fun b o _ hb _ e n=>u.slot b o e n hb (by simp)) (fun b o _ e n=>u.free b o e n (by simp)) (fun b o _ e=>u.there b o e (by simp)) u.tups u.frzs u.tbls (fun m' hm=>by
  obtain ⟨o',es',ep',ho',r'⟩:=hm
  rw [ho] at ho'; cases ho'
  exact ⟨_,es',ep',hL,r'⟩) hok I.bare
theorem Inv.call {g' : Array GenState} {t' : Nat} {d' : Drawn} {ch : List Addr} (I : Inv X pins σ H s) (u : Un (frs X.stack) ch H H' s.heap h') (hok : HOk X.prog X.w H' h') (hg : AllBare g')
  (hch : ∀ b ∈ ch,(b ∈ X.ex ∨ X.s_0.heap.objs.size ≤ b) ∧ b ≠ X.env.locals ∧ (∀ x c,X.env.cells.lookup x = some c → c ≠ b) ∧ ∀ p ∈ X.pn ++ pins,p.1 ≠ b) :
  Inv X pins σ H' { s with heap:=h',gens:=g',drawn:=d',toks:=t' }:=by
 obtain ⟨m,⟨o,es,ep,ho,r⟩,_⟩:=id I.loc
 obtain ⟨sl,hL⟩:=u.any ho I.free fun z=>(hch _ z).2.1 rfl
 exact I.step (ch:=ch) hch (fun b o hL hb hc e n=>u.keep b o e n (fun z=>(List.mem_cons.mp (I.stkSub b z)).elim hL hb) hc) (fun b o _ _ hc e n=>u.any e n hc) (fun b o hc e n=>u.free b o e n hc) (fun b o hc e=>u.there b o e hc) u.tups u.frzs u.tbls (fun m' hm=>by
  obtain ⟨o',es',ep',ho',r'⟩:=hm
  rw [ho] at ho'; cases ho'
  exact ⟨_,es',ep',hL,r'⟩) hok hg
theorem Inv.turned {t' : Nat} {it : Addr} (I : Inv X pins σ H s) (k : ∀ b o,b ≠ it → s.heap.get? b = some o → h'.get? b = some o) (hn : H it = none) (hL : it ≠ X.env.locals)
  (h1 : it ∈ X.ex ∨ X.s_0.heap.objs.size ≤ it) (h2 : ∀ x c,X.env.cells.lookup x = some c → c ≠ it) (h3 : ∀ p ∈ X.pn ++ pins,p.1 ≠ it) : Inv X pins σ H { s with heap:=h',toks:=t' }:=by
 have nit : ∀ b u,H b = some u → b ≠ it:=fun b u e z=>by rw [z,hn] at e; cases e
 refine I.step (g':=s.gens) (d':=s.drawn) (ch:=[it]) (fun b hb=>?_) (fun b o _ _ hc e _=>k b o (fun z=>hc (by simp [z])) e) (fun b o _ _ hc e _=>⟨o.slots,k b o (fun z=>hc (by simp [z])) e⟩) (fun _ _ _ _ n=>n)
  (fun b o hc e=>⟨o,k b o (fun z=>hc (by simp [z])) e⟩) (fun _ _ e=>e) (fun _ _ _ e=>e) (fun b ps e=>⟨#[],by rw [e]; simp⟩) (fun m hm=>?_) (fun b u e=>?_) I.bare
 ·have e : b = it:=by simpa using hb
  subst e
  exact ⟨h1,hL,h2,h3⟩
 ·obtain ⟨o,es,ep,ho,r⟩:=hm
  exact ⟨o,es,ep,k _ o (Ne.symm hL) ho,r⟩
 ·refine (I.hok b u e).stay (fun c v hc q=>k c v ?_ q) (fun _ q=>q) fun _ _ q=>q
  rcases hc with z | z
  ·rw [z]; exact nit b u e
  ·exact nit c _ z
theorem Inv.tok (I : Inv X pins σ H s) (t : Nat) : Inv X pins σ H { s with toks:=t }:=I.un (h':=s.heap) (t':=t) Un.refl I.hok
theorem Inv.kept {t' : Nat} (I : Inv X pins σ H s) (k : ∀ b u,s.heap.get? b = some u → h'.get? b = some u) : Inv X pins σ H { s with heap:=h',toks:=t' }:=I.un (Un.kept k) (I.hok.kept k)
theorem Inv.laid {a : Addr} {o : HO} {t' : Nat} (I : Inv X pins σ H s) (k : ∀ b u,s.heap.get? b = some u → h'.get? b = some u) (hp : s.heap.objs.size ≤ a) (new : ObjOk X.prog X.w (upd H a o) h' a o) :
  Inv X pins σ (upd H a o) { s with heap:=h',toks:=t' }:=I.un (Un.laid k hp (I.hok.fresh hp)) (I.hok.laid k hp new)
theorem Inv.write {x e : Addr} {o : HO} {t' : Nat} (I : Inv X pins σ H s) (mu : Mut (H x)) (he : e = x ∨ H e = some (.own x)) (k : ∀ b u,b ≠ e → s.heap.get? b = some u → h'.get? b = some u) (heo : ∃ u,h'.get? e = some u)
  (new : ObjOk X.prog X.w (upd H x o) h' x o) : Inv X pins σ (upd H x o) { s with heap:=h',toks:=t' }:=I.un (Un.write mu he k heo) (I.hok.write mu he k heo new)
theorem Inv.weak {σ' : List (Option V)} (I : Inv X pins σ H s) (hl : σ'.length = σ.length) (w : ∀ (i : Nat) v,σ'[i]? = some (some v) → σ[i]? = some (some v)) : Inv X pins σ' H s :=
 ⟨I.ok,I.os,I.bare,I.base,let ⟨m,hn,hl'⟩:=I.loc; ⟨m,hn,fun i x v e1 e2 e3=>hl' i x v e1 (w i v e2) e3⟩,I.cell,I.free,I.freeC,I.pin,I.hok,hl.trans I.len⟩
theorem Inv.pins_of {pins' : List (Addr × Obj)} (I : Inv X pins σ H s) (h : ∀ p ∈ pins',s.heap.get? p.1 = some p.2 ∧ H p.1 = none ∧ p.1 ≠ X.env.locals ∧ p.1 ∉ X.fs ∧ ∀ v,p.2.data ≠ .cell v) : Inv X pins' σ H s :=
 ⟨I.ok,I.os,I.bare,I.base,I.loc,I.cell,I.free,I.freeC,fun p hp=>(List.mem_append.mp hp).elim (fun z=>I.pin p (List.mem_append_left _ z)) (h p),I.hok,I.len⟩
theorem nodup_ix {N : List Str} (hN : N.Nodup) {i j : Nat} {x : Str} (a : N[i]? = some x) (b : N[j]? = some x) : i = j:=by
 obtain ⟨h1,e1⟩:=List.getElem?_eq_some_iff.mp a
 obtain ⟨h2,e2⟩:=List.getElem?_eq_some_iff.mp b
 exact (List.getElem_inj hN).mp (e1.trans e2.symm)
theorem store_ok2 {M : Model} {A : Around} {E : Value → Shared → Prop} {i : Nat} {x : Str} {v : V} {u : Value} {Q : Unit → Shared → Prop} (I : Inv X pins σ H s) (hN : X.N.Nodup) (hi : X.N[i]? = some x) (hx : Loc X.env.scope x) (r : RelV v u)
  (h : ∀ s',Inv X pins (σ.set i (some v)) H s' → (∃ a,Heap.SameBut a s.heap s'.heap ∧ (a = X.env.locals ∨ X.env.cells.lookup x = some a)) → Q () s') (hf : X.fn x = true ∨ X.env.scope.names.lookup x = some .local:=by first | exact .inl rfl | exact .inr rfl | assumption) : wpAny M A (storeName X.env x u) Q E s:=by
 obtain ⟨m,hn,hl⟩:=id I.loc
 have hcls : (X.env.scope.kind == .class || (X.env.scope.kind == .module && X.env.locals != X.env.globals)) = false:=by rw [I.ok.kind]; rfl
 have hiσ : i < σ.length:=by rw [I.len]; exact (List.getElem?_eq_some_iff.mp hi).1
 have cne:=I.cne
 have tracked : ∀ {a : Addr} {h' : Heap},(∃ o,s.heap.get? a = some o ∧ H a = none) → Heap.SameBut a s.heap h' → HOk X.prog X.w H h':=fun {a h'} ha hs b ob e=>by
  obtain ⟨_,_,hfree⟩:=ha
  refine (I.hok b ob e).stay (fun c w' hc q=>(hs.2 c ?_).trans q) (fun _ q=>q) fun _ _ q=>q
  rintro rfl
  rcases hc with rfl | hc
  ·rw [hfree] at e; cases e
  ·rw [hfree] at hc; cases hc
 rcases hx with hk | hk
 ·refine wpAny_storeName_local hk hn (fun h' hn' hs=>?_) hcls
  obtain ⟨oL,_,_,hoL,_⟩:=id hn
  refine h _ ⟨I.ok,I.os,I.bare,⟨fun b o e n hb hx=>?_,fun b o e n hb hx=>?_,I.base.free,fun b o e hx=>?_,I.base.tups,I.base.frzs,I.base.tbls⟩,⟨_,hn',fun j y v' e1 e2 e3=>?_⟩,fun y c e=>?_,I.free,I.freeC,fun p hp=>?_,tracked ⟨oL,hoL,I.free⟩ hs,by simpa using I.len⟩ ⟨_,hs,.inl rfl⟩
  ·exact (hs.2 b (Nat.ne_of_lt (Nat.lt_of_lt_of_le (Heap.lt_size e) I.ok.above))).trans (I.base.keep b o e n hb hx)
  ·obtain ⟨sl,e1⟩:=I.base.slot b o e n hb hx
   exact ⟨sl,(hs.2 b (Nat.ne_of_lt (Nat.lt_of_lt_of_le (Heap.lt_size e) I.ok.above))).trans e1⟩
  ·obtain ⟨o',e1⟩:=I.base.there b o e hx
   exact ⟨o',(hs.2 b (Nat.ne_of_lt (Nat.lt_of_lt_of_le (Heap.lt_size e) I.ok.above))).trans e1⟩
  ·by_cases hj : j = i
   ·subst hj
    rw [hi] at e1; cases e1
    rw [List.getElem?_set_self hiσ] at e2
    cases e2
    exact ⟨u,r,.inl ⟨hk,by simp⟩⟩
   ·rw [List.getElem?_set_ne (Ne.symm hj)] at e2
    obtain ⟨u',r',q⟩:=hl j y v' e1 e2 e3
    refine ⟨u',r',?_⟩
    rcases q with ⟨k,e⟩ | ⟨k,c,e,z⟩
    ·refine .inl ⟨k,?_⟩
     have : y ≠ x:=fun e=>hj (nodup_ix hN e1 (e ▸ hi))
     simp [this,e]
    ·exact .inr ⟨k,c,e,z.sameBut hs (cne y c e)⟩
  ·obtain ⟨w',z⟩:=I.cell y c e
   exact ⟨w',z.sameBut hs (cne y c e)⟩
  ·obtain ⟨e,n,ne,nf,d⟩:=I.pin p hp
   exact ⟨(hs.2 p.1 ne).trans e,n,ne,nf,d⟩
 ·have hfn : X.fn x = true:=by
   rcases hf with z | z
   ·exact z
   ·rw [z] at hk; cases hk
  obtain ⟨c,hc⟩:=I.ok.has x (.inl hk)
  obtain ⟨w',z⟩:=I.cell x c hc
  refine wpAny_storeName_cell I.ok.kind hk hc z (fun h' hc' hs=>?_)
  obtain ⟨oc,hoc,hocd⟩:=id z
  refine h { s with heap:=h' } ⟨I.ok,I.os,I.bare,⟨fun b o e n hb hx=>?_,fun b o e n hb hx=>?_,I.base.free,fun b o e hx=>?_,I.base.tups,I.base.frzs,I.base.tbls⟩,⟨m,hn.sameBut hs (Ne.symm (cne x c hc)),fun j y v' e1 e2 e3=>?_⟩,fun y c' e=>?_,I.free,I.freeC,fun p hp=>?_,tracked ⟨oc,hoc,I.freeC x c hc⟩ hs,by simpa using I.len⟩ ⟨c,hs,.inr hc⟩
  ·exact (hs.2 b (Nat.ne_of_lt (Nat.lt_of_lt_of_le (Heap.lt_size e) (I.ok.cab x c hfn hc)))).trans (I.base.keep b o e n hb hx)
  ·obtain ⟨sl,e1⟩:=I.base.slot b o e n hb hx
   exact ⟨sl,(hs.2 b (Nat.ne_of_lt (Nat.lt_of_lt_of_le (Heap.lt_size e) (I.ok.cab x c hfn hc)))).trans e1⟩
  ·obtain ⟨o',e1⟩:=I.base.there b o e hx
   exact ⟨o',(hs.2 b (Nat.ne_of_lt (Nat.lt_of_lt_of_le (Heap.lt_size e) (I.ok.cab x c hfn hc)))).trans e1⟩
  ·by_cases hj : j = i
   ·subst hj
    rw [hi] at e1; cases e1
    rw [List.getElem?_set_self hiσ] at e2
    cases e2
    exact ⟨u,r,.inr ⟨.inl hk,c,hc,hc'⟩⟩
   ·rw [List.getElem?_set_ne (Ne.symm hj)] at e2
    obtain ⟨u',r',q⟩:=hl j y v' e1 e2 e3
    refine ⟨u',r',?_⟩
    rcases q with q | ⟨k,c',e,z'⟩
    ·exact .inl q
    ·refine .inr ⟨k,c',e,z'.sameBut hs ?_⟩
     rintro rfl
     exact hj (nodup_ix hN e1 (I.ok.inj _ _ _ e hc ▸ hi))
  ·by_cases hcc : c' = c
   ·subst hcc; exact ⟨_,hc'⟩
   ·obtain ⟨w2,z2⟩:=I.cell y c' e
    exact ⟨w2,z2.sameBut hs hcc⟩
  ·obtain ⟨e,n,ne,nf,d⟩:=I.pin p hp
   refine ⟨(hs.2 p.1 ?_).trans e,n,ne,nf,d⟩
   intro q
   rw [q,hoc] at e
   have q' : oc = p.2:=Option.some.inj e
   exact d w' (by rw [← q']; exact hocd)
theorem store_ok {M : Model} {A : Around} {E : Value → Shared → Prop} {i : Nat} {x : Str} {v : V} {u : Value} {Q : Unit → Shared → Prop} (I : Inv X pins σ H s) (hN : X.N.Nodup) (hi : X.N[i]? = some x) (hx : Loc X.env.scope x) (r : RelV v u)
  (h : ∀ s',Inv X pins (σ.set i (some v)) H s' → Q () s') (hf : X.fn x = true ∨ X.env.scope.names.lookup x = some .local:=by first | exact .inl rfl | exact .inr rfl | assumption) : wpAny M A (storeName X.env x u) Q E s :=
 store_ok2 I hN hi hx r (fun s' I' _=>h s' I') hf
theorem Inv.call' {s' : Shared} {ch : List Addr} (I : Inv X pins σ H s) (ho : s'.os = s.os) (u : Un (frs X.stack) ch H H' s.heap s'.heap) (hok : HOk X.prog X.w H' s'.heap) (hg : AllBare s'.gens)
  (hch : ∀ b ∈ ch,(b ∈ X.ex ∨ X.s_0.heap.objs.size ≤ b) ∧ b ≠ X.env.locals ∧ (∀ x c,X.env.cells.lookup x = some c → c ≠ b) ∧ ∀ p ∈ X.pn ++ pins,p.1 ≠ b) : Inv X pins σ H' s':=by
 obtain ⟨h',g',d',t',o'⟩:=s'
 have e : o' = s.os:=ho
 subst e
 exact I.call (g':=g') (t':=t') (d':=d') u hok hg hch
end
abbrev XK:=Value → Option Addr → Hp → Prop
abbrev St:=List (Option V)
abbrev VK:=V → Hp → Prop
abbrev TE:=St → Hp → VK → Prop
abbrev TT:=St → Hp → (Bool → Hp → Prop) → Prop
abbrev TA:=St → Hp → (List V → Hp → Prop) → Prop
structure Ends where
 nx : St → Hp → Prop
 rt : VK
 bk : St → Hp → Prop:=fun _ _=>False
 ct : St → Hp → Prop:=fun _ _=>False
abbrev TS:=Ends → St → Hp → Prop
def EP (X : Cx) (pins : List (Addr × Obj)) (σ : St) (Q : VK) (u : Value) (s' : Shared) : Prop:=∃ v H',Inv X pins σ H' s' ∧ RelV v u ∧ Q v H'
def TP (X : Cx) (pins : List (Addr × Obj)) (σ : St) (Q : Bool → Hp → Prop) (b : Bool) (s' : Shared) : Prop:=∃ H',Inv X pins σ H' s' ∧ Q b H'
def AP (X : Cx) (pins : List (Addr × Obj)) (σ : St) (Q : List V → Hp → Prop) (us : List Value) (s' : Shared) : Prop:=∃ vs H',Inv X pins σ H' s' ∧ Vals vs us ∧ Q vs H'
def SP (X : Cx) (pins : List (Addr × Obj)) (D : Ends) (f : Flow) (s' : Shared) : Prop :=
 match f with
 | .next=>∃ σ' H',Inv X pins σ' H' s' ∧ D.nx σ' H'
 | .brk=>∃ σ' H',Inv X pins σ' H' s' ∧ D.bk σ' H'
 | .cont=>∃ σ' H',Inv X pins σ' H' s' ∧ D.ct σ' H'
 | .ret u=>∃ v σ' H',Inv X pins σ' H' s' ∧ RelV v u ∧ D.rt v H'
def PE (X : Cx) (e : Expr) (t : TE) : Prop :=
 ∀ (pins : List (Addr × Obj)) (s : Shared) (σ : St) (H : Hp) (Q : VK),Inv X pins σ H s → t σ H Q → wpAny (model X.prog X.w) X.A (eval e X.env) (EP X pins σ Q) X.xe s
def PT (X : Cx) (e : Expr) (t : TT) : Prop :=
 ∀ (pins : List (Addr × Obj)) (s : Shared) (σ : St) (H : Hp) (Q : Bool → Hp → Prop),Inv X pins σ H s → t σ H Q → wpAny (model X.prog X.w) X.A (isTrue e X.env (eval e X.env)) (TP X pins σ Q) X.xe s
def PW (X : Cx) (e : Expr) (t : TT) : Prop :=
 ∀ (whole : Sem Value) (pins : List (Addr × Obj)) (s : Shared) (σ : St) (H : Hp) (Q : Bool → Hp → Prop),Inv X pins σ H s → t σ H Q → wpAny (model X.prog X.w) X.A (isTrue e X.env whole) (TP X pins σ Q) X.xe s
theorem PW.pt {X : Cx} {e : Expr} {t : TT} (h : PW X e t) : PT X e t:=h _
def PA (X : Cx) (es : List Expr) (t : TA) : Prop :=
 ∀ (pos : Pos) (pins : List (Addr × Obj)) (s : Shared) (σ : St) (H : Hp) (Q : List V → Hp → Prop),Inv X pins σ H s → t σ H Q → wpAny (model X.prog X.w) X.A (spliced (backTo pos (starEach es X.env))) (AP X pins σ Q) X.xe s
def PS (X : Cx) (st : Stmt) (t : TS) : Prop :=
 ∀ (pins : List (Addr × Obj)) (s : Shared) (σ : St) (H : Hp) (D : Ends),Inv X pins σ H s → t D σ H → wpAny (model X.prog X.w) X.A (exec st X.env) (SP X pins D) X.xe s
def PSs (X : Cx) (st : List Stmt) (t : TS) : Prop :=
 ∀ (pins : List (Addr × Obj)) (s : Shared) (σ : St) (H : Hp) (D : Ends),Inv X pins σ H s → t D σ H → wpAny (model X.prog X.w) X.A (execs st X.env) (SP X pins D) X.xe s
theorem thn {α : Type} {t : Sem α} {Q Q' : α → Shared → Prop} {M : Model} {A : Around} {E : Value → Shared → Prop} {s : Shared} (h : wpAny M A t Q E s) (hQ : ∀ a s,Q a s → Q' a s) : wpAny M A t Q' E s:=wpAny_mono h hQ fun _ _ x=>x
end L2
namespace L2
open PySem PySem.Spec PyProof.Rows
section
variable {X : Cx}
theorem bin {a b : Expr} {ta tb : TE} (ha : PE X a ta) (hb : PE X b tb) {pins : List (Addr × Obj)} {s : Shared} {σ : St} {H : Hp} {R : V → V → Hp → Prop} (I : Inv X pins σ H s) (h : ta σ H fun x H1=>tb σ H1 fun y H2=>R x y H2)
  {α : Type} {Q : α → Shared → Prop} {f : Value → Value → Sem α}
  (hf : ∀ v u s2 x y H2,Inv X pins σ H2 s2 → RelV x v → RelV y u → R x y H2 → wpAny (model X.prog X.w) X.A (f v u) Q X.xe s2) :
  wpAny (model X.prog X.w) X.A (eval a X.env) (fun v s₁=>wpAny (model X.prog X.w) X.A (eval b X.env) (fun u s₂=>wpAny (model X.prog X.w) X.A (f v u) Q X.xe s₂) X.xe s₁) X.xe s:=by
 refine thn (ha pins s σ H _ I h) fun v s1 ⟨x,H1,I1,r1,q1⟩=>?_
 refine thn (hb pins s1 σ H1 _ I1 q1) fun u s2 ⟨y,H2,I2,r2,q2⟩=>?_
 exact hf v u s2 x y H2 I2 r1 r2 q2
def tVar (i : Nat) : TE:=fun σ H Q=>∃ v,σ[i]? = some (some v) ∧ Q v H
def tC (v : V) : TE:=fun _ H Q=>Q v H
theorem pe_var {i : Nat} {x : Str} {pos : Pos} (hN : X.N[i]? = some x) (hv : Vis X.env.scope x) (hd : (x == ("__debug__" : Str)) = false:=by decide) (hcd : (x == ("__classdict__" : Str)) = false:=by decide) : PE X (.Name x pos) (tVar i):=by
 intro pins s σ H Q I h
 obtain ⟨v,e,h⟩:=h
 obtain ⟨m,hn,hl⟩:=I.loc
 obtain ⟨u,r,l⟩:=hl i x v hN e hv
 have fin : EP X pins σ Q u s:=⟨v,H,I,r,h⟩
 rcases l with ⟨hk,hm⟩ | ⟨hk,c,hc,hcell⟩
 ·exact wpAny_Name (wpAny_loadName_local I.ok.kind hk hn hm fin) hd
 ·rcases hk with hk | hk
  ·exact wpAny_Name (wpAny_loadName_cell I.ok.kind hk hc hcell fin) hd
  ·exact wpAny_Name (wpAny_loadName_free I.ok.kind hk hc hcell fin hcd) hd
theorem pe_int {i j pos} : PE X (.Constant (.int i) j pos) (tC (.int i)):=fun _ _ _ H _ I h=>wpAny_Constant_int ⟨.int i,H,I.tok _,⟨_,rfl⟩,h⟩
theorem pe_bl {b j pos} : PE X (.Constant (.bool b) j pos) (tC (.bl b)):=fun _ _ _ H _ I h=>Constant_bool ⟨.bl b,H,I,rfl,h⟩
def Gl (X : Cx) (x : Str) : Prop:=X.env.kindOf x = some .globalImplicit
theorem ld_glob {E : Value → Shared → Prop} {pins : List (Addr × Obj)} {s : Shared} {σ : St} {H : Hp} {x : Str} {u : Value} {pos : Pos} {Q : Value → Shared → Prop} (I : Inv X pins σ H s) (hg : Gl X x) (hm : X.mg x = some u) (h : Q u s)
  (hd : (x == ("__debug__" : Str)) = false:=by decide) : wpAny (model X.prog X.w) X.A (eval (.Name x pos) X.env) Q E s :=
 Calls.Name_function_global I.ok.kind hg (Calls.loadGlobal_global (by rw [I.ok.glob]; exact I.mod.glob.keeps I.bk) hm h) hd
theorem ld_blt {E : Value → Shared → Prop} {pins : List (Addr × Obj)} {s : Shared} {σ : St} {H : Hp} {x : Str} {u : Value} {pos : Pos} {Q : Value → Shared → Prop} (I : Inv X pins σ H s) (hg : Gl X x) (hm : X.mg x = none) (hv : bootBuiltins x = some u) (h : Q u s)
  (hn : x ≠ "__name__":=by decide) (hd : (x == ("__debug__" : Str)) = false:=by decide) : wpAny (model X.prog X.w) X.A (eval (.Name x pos) X.env) Q E s:=by
 obtain ⟨mb,h1,h2⟩:=I.mod.blt
 exact Calls.Name_function_global I.ok.kind hg (Calls.loadGlobal_builtin (by rw [I.ok.glob]; exact I.mod.glob.keeps I.bk) hm (by rw [I.ok.blt]; exact h1.keeps I.bk) ((h2 x hn).trans hv) h) hd
theorem pe_glob {x : Str} {v : V} {u : Value} {pos : Pos} (hg : Gl X x) (hm : X.mg x = some u) (r : RelV v u) (hd : (x == ("__debug__" : Str)) = false:=by decide) : PE X (.Name x pos) (tC v) :=
 fun _ _ _ H _ I h=>ld_glob I hg hm ⟨v,H,I,r,h⟩ hd
variable {a b : Expr} {ta tb : TE} {pos : Pos}
def PC (X : Cx) (op : CmpOp) (a b : Expr) (t : TE) : Prop :=
 ∀ (pins : List (Addr × Obj)) (s : Shared) (σ : St) (H : Hp) (Q : VK),Inv X pins σ H s → t σ H Q →
  wpAny (model X.prog X.w) X.A (eval a X.env) (fun v s₁=>wpAny (model X.prog X.w) X.A (eval b X.env) (fun u s₂=>wpAny (model X.prog X.w) X.A (compareOp op v u) (EP X pins σ Q) X.xe s₂) X.xe s₁) X.xe s
theorem nobehind (b : Expr) {op : CmpOp} (h : op ≠ .In) (h2 : op ≠ .NotIn) : behindInMarks op b = false:=by
 have e1 : (op == CmpOp.In) = false:=by cases op <;> first | rfl | exact absurd rfl h
 have e2 : (op == CmpOp.NotIn) = false:=by cases op <;> first | rfl | exact absurd rfl h2
 cases b <;> simp [behindInMarks,e1,e2]
def tB (t : TE) : TT:=fun σ H Q=>t σ H fun x H1=>∃ c,x = .bl c ∧ Q c H1
theorem pt_cmp {op : CmpOp} {t : TE} (h : PC X op a b t) (h1 : behindInMarks op b = false:=by first | exact nobehind _ (by decide) (by decide) | rfl) : PT X (.Compare a [op] [b] pos) (tB t):=by
 intro pins s σ H Q I hw
 refine wpAny_isTrue_Compare1 (thn (h pins s σ H _ I hw) fun v s1 h1=>thn h1 fun u s2 h2=>thn h2 fun c s3 ⟨x,H1,I1,r1,q1⟩=>?_) h1
 obtain ⟨d,rfl,q⟩:=q1
 cases r1
 exact wpAny_truthy_bool ⟨H1,I1,q⟩
theorem pt_val {e : Expr} {t : TE} (h : PE X e t) (he : ∀ whole,isTrue e X.env whole = (do let v ← whole; standAt e.pos; holding [v] (truthy v)):=by intro _; rfl) : PT X e (tB t):=by
 intro pins s σ H Q I hw
 refine isTrue_plain (thn (h pins s σ H _ I hw) fun v s1 ⟨x,H1,I1,r1,q1⟩=>?_) (he _)
 obtain ⟨d,rfl,q⟩:=q1
 cases r1
 exact wpAny_truthy_bool ⟨H1,I1,q⟩
variable {tA tB' : TT} {rest : List Expr}
def tAnd (t u : TT) : TT:=fun σ H Q=>t σ H fun c H1=>if c = true then u σ H1 Q else Q false H1
def tOr (t u : TT) : TT:=fun σ H Q=>t σ H fun c H1=>if c = true then Q true H1 else u σ H1 Q
def tNot (t : TT) : TT:=fun σ H Q=>t σ H fun c H1=>Q (!c) H1
theorem pw_and1 (ha : PT X a tA) : PW X (.BoolOp .And [a] pos) tA:=by
 intro wh pins s σ H Q I h
 refine isTrue_and (thn (ha pins s σ H Q I h) fun c s1 e=>?_)
 cases c with
 | true=>exact isTrue_and_nil e
 | false=>exact e
theorem pw_or1 (ha : PT X a tA) : PW X (.BoolOp .Or [a] pos) tA:=by
 intro wh pins s σ H Q I h
 refine isTrue_or (thn (ha pins s σ H Q I h) fun c s1 e=>?_)
 cases c with
 | false=>exact isTrue_or_nil e
 | true=>exact e
theorem pw_and (ha : PT X a tA) (hb : PW X (.BoolOp .And (b :: rest) pos) tB') : PW X (.BoolOp .And (a :: b :: rest) pos) (tAnd tA tB'):=by
 intro wh pins s σ H Q I h
 refine isTrue_and (thn (ha pins s σ H _ I h) fun c s1 ⟨H1,I1,q1⟩=>?_)
 cases c with
 | true=>exact hb wh pins s1 σ H1 Q I1 q1
 | false=>exact ⟨H1,I1,q1⟩
theorem pw_or (ha : PT X a tA) (hb : PW X (.BoolOp .Or (b :: rest) pos) tB') : PW X (.BoolOp .Or (a :: b :: rest) pos) (tOr tA tB'):=by
 intro wh pins s σ H Q I h
 refine isTrue_or (thn (ha pins s σ H _ I h) fun c s1 ⟨H1,I1,q1⟩=>?_)
 cases c with
 | true=>exact ⟨H1,I1,q1⟩
 | false=>exact hb wh pins s1 σ H1 Q I1 q1
theorem pt_not (ha : PT X a tA) : PT X (.UnaryOp .Not a pos) (tNot tA):=by
 intro pins s σ H Q I h
 exact isTrue_not (ha pins s σ H (fun c H1=>Q (!c) H1) I h)
def tAndV (ta tb : TE) : TE:=fun σ H Q=>ta σ H fun x H1=>∃ c,x = .bl c ∧ if c = true then tb σ H1 Q else Q (.bl false) H1
theorem pe_one {op} {t : TE} (h : PE X a t) : PE X (.BoolOp op [a] pos) t:=fun pins s σ H Q I hw=>BoolOp_one (h pins s σ H Q I hw)
theorem pe_and (ha : PE X a ta) (hb : PE X (.BoolOp .And (b :: rest) pos) tb) : PE X (.BoolOp .And (a :: b :: rest) pos) (tAndV ta tb):=by
 intro pins s σ H Q I h
 refine BoolOp_and (thn (ha pins s σ H _ I h) fun v s1 ⟨x,H1,I1,r1,q1⟩=>?_)
 obtain ⟨c,rfl,q1⟩:=q1
 cases r1
 refine wpAny_truthy_bool ?_
 cases c with
 | true=>exact hb pins s1 σ H1 Q I1 q1
 | false=>exact ⟨.bl false,H1,I1,rfl,q1⟩
def tIf (t : TT) (ta tb : TE) : TE:=fun σ H Q=>t σ H fun c H1=>if c = true then ta σ H1 Q else tb σ H1 Q
theorem pe_ifExp {c : Expr} (hc : PT X c tA) (ha : PE X a ta) (hb : PE X b tb) : PE X (.IfExp c a b pos) (tIf tA ta tb):=by
 intro pins s σ H Q I h
 refine wpAny_IfExp (thn (hc pins s σ H _ I h) fun d s1 ⟨H1,I1,q1⟩=>?_)
 cases d with
 | true=>exact ha pins s1 σ H1 Q I1 q1
 | false=>exact hb pins s1 σ H1 Q I1 q1
end
end L2
namespace L2
open PySem PySem.Spec PyProof.Rows
def SqL (K : PySem.W.Frag) (H : Hp) (a : Addr) (xs : List V) : Prop :=
 Rd H a (.lst xs) ∨
  ∃ (o : Obj) (its : Array Value) (n : Nat),K.lookup a = some o ∧ o.cls = .type "list" ∧ o.dict = none ∧ o.data = .seq its n ∧ its.size ≤ sizeLine ∧ Vals xs its.toList
def SqT (K : PySem.W.Frag) (H : Hp) (a : Addr) (xs : List V) : Prop :=
 Rd H a (.tup xs) ∨
  ∃ (o : Obj) (its : Array Value) (n : Nat),K.lookup a = some o ∧ o.cls = .type "tuple" ∧ o.data = .seq its n ∧ its.size ≤ sizeLine ∧ Vals xs its.toList
def absV : Value → Option V
 | .none=>some .non
 | .bool b=>some (.bl b)
 | .int i _=>some (.int i)
 | .str x _=>some (.str x)
 | .bytes b _=>some (.byt b)
 | .float b _=>some (.flt b)
 | .ref a=>some (.ref a)
 | .type n=>some (.ty n)
 | _=>none
theorem RelV.abs {x : V} {u : Value} (r : RelV x u) : absV u = some x:=by
 cases x with
 | non=>cases r; rfl
 | bl _=>cases r; rfl
 | int _=>obtain ⟨t,rfl⟩:=r; rfl
 | str _=>obtain ⟨t,rfl⟩:=r; rfl
 | byt _=>obtain ⟨t,rfl⟩:=r; rfl
 | flt _=>obtain ⟨t,rfl⟩:=r; rfl
 | ref _=>cases r; rfl
 | ty _=>cases r; rfl
theorem RelV.inj {x y : V} {u : Value} (r : RelV x u) (q : RelV y u) : x = y:=Option.some.inj (r.abs.symm.trans q.abs)
theorem Vals.inj : ∀ {xs ys : List V} {us : List Value},Vals xs us → Vals ys us → xs = ys
 | _,_,_,.nil,.nil=>rfl
 | _,_,_,.cons r t,.cons r' t'=>by rw [r.inj r',Vals.inj t t']
section
variable {X : Cx} {pins : List (Addr × Obj)} {σ : St} {H : Hp} {s : Shared} {a : Addr} {xs ys : List V}
theorem SqL.of {K : PySem.W.Frag} (h : H a = some (.lst xs)) : SqL K H a xs:=.inl (.inl h)
theorem Inv.list (I : Inv X pins σ H s) (h : SqL X.K H a xs) : ∃ its : List Value,Vals xs its ∧ PlainL s.heap a its.toArray ∧ xs.length ≤ sizeLine:=by
 rcases h with h | ⟨o,its,n,hk,hc,hd,hs,hz,r⟩
 ·obtain ⟨z,its,n,r,e⟩:=h.ok I.hok
  exact ⟨its,r,⟨_,n,e,rfl,rfl,rfl⟩,z⟩
 ·refine ⟨its.toList,r,⟨o,n,I.kIn a o hk,hc,hd,by simpa using hs⟩,?_⟩
  have e:=r.length
  simp only [Array.length_toList] at e
  omega
theorem Inv.tuple (I : Inv X pins σ H s) (h : SqT X.K H a xs) : ∃ its : List Value,Vals xs its ∧ IsTup s.heap a its.toArray ∧ xs.length ≤ sizeLine:=by
 rcases h with h | ⟨o,its,n,hk,hc,hs,hz,r⟩
 ·obtain ⟨z,its,r,p⟩:=h.ok I.hok
  exact ⟨its,r,p,z⟩
 ·refine ⟨its.toList,r,⟨o,I.kIn a o hk,hc,n,by simpa using hs⟩,?_⟩
  have e:=r.length
  simp only [Array.length_toList] at e
  omega
theorem Inv.list_inj (I : Inv X pins σ H s) (h : SqL X.K H a xs) (h' : SqL X.K H a ys) : xs = ys:=by
 obtain ⟨its,r,⟨o,n,e,_,_,d⟩,_⟩:=I.list h
 obtain ⟨its',r',⟨o',n',e',_,_,d'⟩,_⟩:=I.list h'
 rw [e] at e'; cases e'
 rw [d] at d'
 injection d' with d1 _
 have : its = its':=by simpa using congrArg Array.toList d1
 subst this
 exact r.inj r'
end
abbrev Cx.wish (X : Cx) (E : Value → Shared → Prop) : Cx:={ X with xe:=E }
abbrev Cx.nox (X : Cx) : Cx:=X.wish fun _ _=>False
theorem Cx.Ok.wish {X : Cx} (ok : X.Ok) (E : Value → Shared → Prop) : (X.wish E).Ok :=
 ⟨ok.mod,ok.kind,ok.glob,ok.blt,ok.above,ok.inj,ok.has,ok.cab,ok.hd,ok.frames,ok.stk,ok.exf,ok.bs,ok.bsz,ok.noex,ok.exfs,ok.funs,ok.frf⟩
theorem Cx.Ok.unwish {X : Cx} {E : Value → Shared → Prop} (ok : (X.wish E).Ok) : X.Ok :=
 ⟨ok.mod,ok.kind,ok.glob,ok.blt,ok.above,ok.inj,ok.has,ok.cab,ok.hd,ok.frames,ok.stk,ok.exf,ok.bs,ok.bsz,ok.noex,ok.exfs,ok.funs,ok.frf⟩
section
variable {X : Cx} {pins : List (Addr × Obj)} {σ : St} {H : Hp} {s : Shared} {E : Value → Shared → Prop}
theorem Inv.wish (I : Inv X pins σ H s) (E : Value → Shared → Prop) : Inv (X.wish E) pins σ H s:=⟨I.ok.wish E,I.os,I.bare,I.base,I.loc,I.cell,I.free,I.freeC,I.pin,I.hok,I.len⟩
theorem Inv.unwish (I : Inv (X.wish E) pins σ H s) : Inv X pins σ H s:=⟨I.ok.unwish,I.os,I.bare,I.base,I.loc,I.cell,I.free,I.freeC,I.pin,I.hok,I.len⟩
theorem SP.unwish {D : Ends} {f : Flow} {s' : Shared} (h : SP (X.wish E) pins D f s') : SP X pins D f s':=by
 cases f with
 | next=>obtain ⟨σ',H',I,q⟩:=h; exact ⟨σ',H',I.unwish,q⟩
 | brk=>obtain ⟨σ',H',I,q⟩:=h; exact ⟨σ',H',I.unwish,q⟩
 | cont=>obtain ⟨σ',H',I,q⟩:=h; exact ⟨σ',H',I.unwish,q⟩
 | ret u=>obtain ⟨v,σ',H',I,r,q⟩:=h; exact ⟨v,σ',H',I.unwish,r,q⟩
theorem PSs.nox {st : List Stmt} {t : TS} (h : PSs X.nox st t) : PSs X st t:=fun pins s σ H D I hw =>
 wpAny_mono (h pins s σ H D (I.wish _) hw) (fun _ _ q=>q.unwish) fun _ _ z=>False.elim z
end
section
variable {X : Cx} {st : Stmt} {rest : List Stmt} {t u : TS} {e : Expr} {te : TE} {pos : Pos}
def tNext : TS:=fun D σ H=>D.nx σ H
def tSeq (t u : TS) : TS:=fun D σ H=>t { D with nx:=u D } σ H
theorem pss_nil : PSs X [] tNext:=fun _ _ σ H _ I h=>wpAny_execs_nil ⟨σ,H,I,h⟩
theorem pss_cons (h1 : PS X st t) (h2 : PSs X rest u) : PSs X (st :: rest) (tSeq t u):=by
 intro pins s σ H D I h
 refine wpAny_execs_cons (thn (h1 pins s σ H { D with nx:=u D } I h) fun f s1 q=>?_)
 cases f with
 | next =>
  obtain ⟨σ',H',I',q⟩:=q
  exact h2 pins s1 σ' H' D I' q
 | ret v=>exact q
 | brk=>exact q
 | cont=>exact q
theorem pss_one (h1 : PS X st t) : PSs X [st] t:=by
 intro pins s σ H D I h
 refine wpAny_execs_cons (thn (h1 pins s σ H D I h) fun f s1 q=>?_)
 cases f with
 | next=>exact wpAny_execs_nil q
 | ret v=>exact q
 | brk=>exact q
 | cont=>exact q
def tBreak : TS:=fun D σ H=>D.bk σ H
theorem ps_break : PS X (.Break pos) tBreak:=fun _ _ σ H _ I h=>wpAny_Break ⟨σ,H,I,h⟩
theorem Inv.quiet {pins : List (Addr × Obj)} {σ : St} {H : Hp} {s : Shared} (I : Inv X pins σ H s) : interactive X.env = false:=by simp [interactive,I.ok.kind]
def tDrop (te : TE) : TS:=fun D σ H=>te σ H fun _ H1=>D.nx σ H1
theorem ps_expr (he : PE X e te) (hs : swapsWith e none pos.line X.env = pure false:=by rfl) : PS X (.Expr e pos) (tDrop te):=by
 intro pins s σ H D I h
 exact wpAny_Expr_any (thn (he pins s σ H _ I h) fun v s1 ⟨x,H1,I1,r1,q1⟩=>⟨σ,H1,I1,q1⟩) I.quiet hs
def tRet (te : TE) : TS:=fun D σ H=>te σ H D.rt
theorem ps_ret (he : PE X e te) : PS X (.Return (some e) pos) (tRet te):=by
 intro pins s σ H D I h
 exact wpAny_Return_some (thn (he pins s σ H _ I h) fun v s1 ⟨x,H1,I1,r1,q1⟩=>⟨x,σ,H1,I1,r1,q1⟩)
def tIfS (c : TT) (t u : TS) : TS:=fun D σ H=>c σ H fun b H1=>if b = true then t D σ H1 else u D σ H1
theorem ps_if {c : Expr} {a b : List Stmt} {tc : TT} (hc : PT X c tc) (ha : PSs X a t) (hb : PSs X b u) : PS X (.If c a b pos) (tIfS tc t u):=by
 intro pins s σ H D I h
 refine wpAny_If (thn (hc pins s σ H _ I h) fun d s1 ⟨H1,I1,q1⟩=>?_)
 cases d with
 | true=>exact ha pins s1 σ H1 D I1 q1
 | false=>exact hb pins s1 σ H1 D I1 q1
end
abbrev TG:=V → St → Hp → (St → Hp → Prop) → Prop
abbrev TGs:=List V → St → Hp → (St → Hp → Prop) → Prop
def PG (X : Cx) (target : Expr) (t : TG) : Prop :=
 ∀ (pins : List (Addr × Obj)) (s : Shared) (σ : St) (H : Hp) (v : V) (u : Value) (Q : St → Hp → Prop),Inv X pins σ H s → RelV v u → t v σ H Q →
  wpAny (model X.prog X.w) X.A (assign target X.env u) (fun _ s'=>∃ σ' H',Inv X pins σ' H' s' ∧ Q σ' H') X.xe s
def PGs (X : Cx) (ts : List Expr) (t : TGs) : Prop :=
 ∀ (pins : List (Addr × Obj)) (s : Shared) (σ : St) (H : Hp) (vs : List V) (us : List Value) (Q : St → Hp → Prop),Inv X pins σ H s → Vals vs us → t vs σ H Q →
  wpAny (model X.prog X.w) X.A (assignInOrder ((assignEach ts X.env).map (·.2)) us) (fun _ s'=>∃ σ' H',Inv X pins σ' H' s' ∧ Q σ' H') X.xe s
abbrev TIp:=V → V → Hp → VK → Prop
def PIp (X : Cx) (op : Operator) (t : TIp) : Prop :=
 ∀ (pins : List (Addr × Obj)) (s : Shared) (σ : St) (H : Hp) (x y : V) (v u : Value) (Q : VK),Inv X pins σ H s → RelV x v → RelV y u → t x y H Q →
  wpAny (model X.prog X.w) X.A (inplaceOp op v u) (EP X pins σ Q) X.xe s
section
variable {X : Cx} {pos : Pos}
def gName (i : Nat) : TG:=fun v σ H Q=>Q (σ.set i (some v)) H
theorem pg_name {i : Nat} {x : Str} (hN : X.N.Nodup) (hi : X.N[i]? = some x) (hx : Loc X.env.scope x) (hf : X.fn x = true ∨ X.env.scope.names.lookup x = some .local:=by first | exact .inl rfl | exact .inr rfl | assumption) : PG X (.Name x pos) (gName i):=by
 intro pins s σ H v u Q I r h
 exact wpAny_assign_Name (store_ok I hN hi hx r (fun s' I'=>⟨_,H,I',h⟩) hf)
def gNil : TGs:=fun vs σ H Q=>vs = [] ∧ Q σ H
def gCons (t : TG) (u : TGs) : TGs:=fun vs σ H Q=>∃ v r,vs = v :: r ∧ t v σ H fun σ' H'=>u r σ' H' Q
theorem pgs_nil : PGs X [] gNil:=by
 intro pins s σ H vs us Q I r h
 obtain ⟨e,h⟩:=h
 subst e
 cases r
 exact assignInOrder_nil ⟨σ,H,I,h⟩
theorem pgs_cons {e : Expr} {es : List Expr} {t : TG} {u : TGs} (h1 : PG X e t) (h2 : PGs X es u)
  (hs : (assignEach (e :: es) X.env).map (·.2) = assign e X.env :: (assignEach es X.env).map (·.2):=by rfl) : PGs X (e :: es) (gCons t u):=by
 intro pins s σ H vs us Q I r h
 obtain ⟨v,vr,e1,h⟩:=h
 subst e1
 cases r with
 | cons r rr =>
  rw [hs]
  refine assignInOrder_cons (thn (h1 pins s σ H _ _ _ I r h) fun _ s1 ⟨σ1,H1,I1,q1⟩=>?_)
  exact h2 pins s1 σ1 H1 _ _ Q I1 rr q1
def gTup (K : PySem.W.Frag) (n : Nat) (t : TGs) : TG:=fun v σ H Q=>∃ a xs,v = .ref a ∧ SqT K H a xs ∧ xs.length = n ∧ t xs σ H Q
theorem pg_tup {es : List Expr} {k : Nat} {t : TGs} {n : Nat} (hc : X.calm = true) (h : PGs X es t)
  (hn : (assignEach es X.env).length = n:=by rfl) (hst : (assignEach es X.env).findIdx? (·.1) = none:=by rfl) : PG X (.Tuple es k pos) (gTup X.K n t):=by
 intro pins s σ H v u Q I r hw
 obtain ⟨a,xs,e1,hq,hl,hw⟩:=hw
 subst e1
 cases r
 obtain ⟨its,rv,ht,hz⟩:=I.tuple hq
 refine assign_Tuple_tuple (I.ok.hd hc) ht (by simp [hn,← hl,rv.length]) hst fun h' hx=>?_
 have I1 : Inv X pins σ H { s with heap:=h' }:=I.kept (t':=s.toks) fun b o e=>hx b o (Nat.ne_of_lt (Heap.lt_size e)) e
 exact h pins _ σ H xs _ Q I1 (by simpa using rv) hw
def tAsg (te : TE) (g : TG) : TS:=fun D σ H=>te σ H fun x H1=>g x σ H1 D.nx
theorem ps_set {i : Nat} {x : Str} {e : Expr} {te : TE} {pos' : Pos} (hN : X.N.Nodup) (hi : X.N[i]? = some x) (hx : Loc X.env.scope x) (he : PE X e te) (hs : swapsWith e (some (.Name x pos')) pos.line X.env = pure false:=by rfl) (hf : X.fn x = true ∨ X.env.scope.names.lookup x = some .local:=by first | exact .inl rfl | exact .inr rfl | assumption) :
  PS X (.Assign [.Name x pos'] e pos) (tAsg te (gName i)):=by
 intro pins s σ H D I h
 refine wpAny_Assign_Name (thn (he pins s σ H _ I h) fun v s1 ⟨y,H1,I1,r1,q1⟩=>?_) hs
 exact store_ok I1 hN hi hx r1 (fun s2 I2=>⟨_,H1,I2,q1⟩) hf
def tAug (i : Nat) (te : TE) (ti : TIp) : TS:=fun D σ H=>∃ x,σ[i]? = some (some x) ∧ te σ H fun y H1=>ti x y H1 fun z H2=>D.nx (σ.set i (some z)) H2
theorem ps_aug {i : Nat} {x : Str} {e : Expr} {te : TE} {op : Operator} {ti : TIp} {pos' : Pos} (hN : X.N.Nodup) (hi : X.N[i]? = some x) (hx : Loc X.env.scope x) (he : PE X e te) (ho : PIp X op ti) (hf : X.fn x = true ∨ X.env.scope.names.lookup x = some .local:=by first | exact .inl rfl | exact .inr rfl | assumption) :
  PS X (.AugAssign (.Name x pos') op e pos) (tAug i te ti):=by
 intro pins s σ H D I h
 obtain ⟨v,e1,h⟩:=h
 obtain ⟨m,hn,hl⟩:=I.loc
 have vis : Vis X.env.scope x:=by rcases hx with k | k; exact .inl k; exact .inr (.inl k)
 obtain ⟨u,r,l⟩:=hl i x v hi e1 vis
 refine wpAny_AugAssign_Name ?_
 have go : wpAny (model X.prog X.w) X.A (eval e X.env) (fun w s₂=>wpAny (model X.prog X.w) X.A (inplaceOp op u w) (fun r s₃=>wpAny (model X.prog X.w) X.A (storeName X.env x r) (fun _=>SP X pins D .next) X.xe s₃) X.xe s₂) X.xe s:=by
  refine thn (he pins s σ H _ I h) fun w s1 ⟨y,H1,I1,r1,q1⟩=>?_
  refine thn (ho pins s1 σ H1 v y u w _ I1 r r1 q1) fun z s2 ⟨zv,H2,I2,r2,q2⟩=>?_
  exact store_ok I2 hN hi hx r2 (fun s3 I3=>⟨_,H2,I3,q2⟩) hf
 rcases l with ⟨hk,hm⟩ | ⟨hk,c,hc,hcell⟩
 ·exact wpAny_loadName_local I.ok.kind hk hn hm go
 ·rcases hk with hk | hk
  ·exact wpAny_loadName_cell I.ok.kind hk hc hcell go
  ·rcases hx with k | k
   ·have : X.env.scope.names.lookup x = some .free:=hk
    rw [k] at this; cases this
   ·have : X.env.scope.names.lookup x = some .free:=hk
    rw [k] at this; cases this
def ipI (f : Int → Int → Int) : TIp:=fun x y H Q=>∃ i j,x = .int i ∧ y = .int j ∧ Q (.int (f i j)) H
theorem ip_add : PIp X .Add (ipI fun i j=>i + j):=by
 intro pins s σ H x y v u Q I r1 r2 h
 obtain ⟨i,j,e1,e2,q⟩:=h
 subst e1; subst e2
 obtain ⟨t,rfl⟩:=r1
 obtain ⟨t',rfl⟩:=r2
 exact iadd_int ⟨.int _,H,I.tok _,⟨_,rfl⟩,q⟩
theorem ip_sub : PIp X .Sub (ipI fun i j=>i - j):=by
 intro pins s σ H x y v u Q I r1 r2 h
 obtain ⟨i,j,e1,e2,q⟩:=h
 subst e1; subst e2
 obtain ⟨t,rfl⟩:=r1
 obtain ⟨t',rfl⟩:=r2
 exact isub_int ⟨.int _,H,I.tok _,⟨_,rfl⟩,q⟩
end
section
variable {X : Cx} {pos : Pos}
def tWhile (c : TT) (tb : TS) : TS:=fun D σ H=>∃ W : Nat → St → Hp → Prop,(∃ m,W m σ H) ∧ ∀ m σ H,W m σ H →
 c σ H fun b H1=>if b = true then ∃ N : St → Hp → Prop,(∀ σ' H',N σ' H' → ∃ m',m' < m ∧ W m' σ' H') ∧ tb { D with nx:=N,ct:=N,bk:=D.nx } σ H1 else D.nx σ H1
theorem ps_while {c : Expr} {body : List Stmt} {tc : TT} {tb : TS} (hp : PassesOwn (model X.prog X.w) X.A X.env X.xe) (hc : PT X c tc) (hb : PSs X body tb) : PS X (.While c body [] pos) (tWhile tc tb):=by
 intro pins s σ H D I h
 obtain ⟨W,⟨m0,w0⟩,turn⟩:=h
 refine wpAny_While (codeAny_whileLoop (fun n s'=>∃ σ' H',Inv X pins σ' H' s' ∧ W n σ' H') ?_ m0 ⟨σ,H,I,w0⟩)
 rintro n s1 ⟨σ1,H1,I1,w1⟩
 refine wpAny_passesOwn hp (thn (hc pins s1 σ1 H1 _ I1 (turn n σ1 H1 w1)) fun b s2 ⟨H2,I2,q2⟩=>?_)
 cases b with
 | true =>
  obtain ⟨N,hN,q2⟩:=q2
  rw [if_pos rfl]
  refine wpAny_passesOwn hp (thn (hb pins s2 σ1 H2 _ I2 q2) fun f s3 q3=>?_)
  cases f with
  | next =>
   obtain ⟨σ3,H3,I3,n3⟩:=q3
   obtain ⟨m',hm,w3⟩:=hN σ3 H3 n3
   exact ⟨m',hm,σ3,H3,I3,w3⟩
  | cont =>
   obtain ⟨σ3,H3,I3,n3⟩:=q3
   obtain ⟨m',hm,w3⟩:=hN σ3 H3 n3
   exact ⟨m',hm,σ3,H3,I3,w3⟩
  | brk=>exact q3
  | ret v=>exact q3
 | false =>
  rw [if_neg Bool.false_ne_true]
  exact wpAny_execs_nil ⟨σ1,H2,I2,q2⟩
end
structure It where
 go : Nat → Hp → Prop
 yld : Nat → Hp → V → Hp → Prop
 stop : Nat → Hp → Prop
def FpOk (X : Cx) (pins : List (Addr × Obj)) (H : Hp) (b : Addr) : Prop :=
 H b = none ∧ b ≠ X.env.locals ∧ b ∉ X.fs ∧ (b ∈ X.ex ∨ X.s_0.heap.objs.size ≤ b) ∧ (∀ x c,X.env.cells.lookup x = some c → c ≠ b) ∧ ∀ p ∈ X.pn ++ pins,p.1 ≠ b
theorem Inv.fpOk {X : Cx} {pins : List (Addr × Obj)} {σ : St} {H H' : Hp} {s : Shared} {b : Addr} (I : Inv X pins σ H s) (hb : s.heap.objs.size ≤ b) (hn : H' b = none) : FpOk X pins H' b:=by
 refine ⟨hn,Nat.ne_of_gt (Nat.lt_of_lt_of_le I.lt hb),I.nofs hb,.inr (Nat.le_trans I.sz hb),fun x c e z=>?_,fun p hp z=>?_⟩
 ·obtain ⟨v,q⟩:=I.cell x c e
  exact absurd (Nat.lt_of_lt_of_le q.lt (by rw [z]; exact hb)) (Nat.lt_irrefl _)
 ·exact absurd (Nat.lt_of_lt_of_le (Heap.lt_size (I.pin p hp).1) (by rw [z]; exact hb)) (Nat.lt_irrefl _)
structure Turn (P : Program) (w : World) (K : PySem.W.Frag) (tg : Expr) (J : It) (fp : List Addr) (it : Addr) (tn : Nat → Heap → Prop) : Prop where
 mem : it ∈ fp
 obj : ∀ i h,tn i h → ∀ b ∈ fp,∃ o,h.get? b = some o ∧ ∀ v,o.data ≠ .cell v
 keep : ∀ i h h',tn i h → (∀ b ∈ fp,∀ o,h.get? b = some o → h'.get? b = some o) → tn i h'
 item : ∀ (X : Cx),X.prog = P → X.w = w → X.K = K → X.calm = true → ∀ (i : Nat) (pins : List (Addr × Obj)) (s : Shared) (σ : St) (H : Hp) (E : Value → Shared → Prop),Inv X pins σ H s → (∀ b ∈ fp,FpOk X pins H b) → tn i s.heap → J.go i H →
  wpAny (model P w) X.A (pyNext (.ref it)) (fun r s1=>∃ u,r = some u ∧
   wpAny (model P w) X.A (letOwnedTupleGo tg (.ref it) u) (fun _ s2=>∃ x H',Inv X pins σ H' s2 ∧ RelV x u ∧ J.yld i H x H' ∧ tn (i + 1) s2.heap ∧ ∀ b ∈ fp,H' b = none) E s1) E s
 done : ∀ (X : Cx),X.prog = P → X.w = w → X.K = K → X.calm = true → ∀ (i : Nat) (pins : List (Addr × Obj)) (s : Shared) (σ : St) (H : Hp) (E : Value → Shared → Prop),Inv X pins σ H s → (∀ b ∈ fp,FpOk X pins H b) → tn i s.heap → J.stop i H →
  wpAny (model P w) X.A (pyNext (.ref it)) (fun r s1=>r = none ∧ Inv X pins σ H s1) E s
 self : ∀ (A : Around) (i : Nat) (s : Shared) (Q : Value → Shared → Prop) (E : Value → Shared → Prop),tn i s.heap → Q (.ref it) s → wpAny (model P w) A (pyIter (.ref it)) Q E s
abbrev TI:=St → Hp → (It → Hp → Prop) → Prop
def PIE (X : Cx) (pins : List (Addr × Obj)) (σ : St) (tg : Expr) (R : It → Hp → Prop) (itv : Value) (s2 : Shared) : Prop :=
 ∃ (it : Addr) (fp : List Addr) (tn : Nat → Heap → Prop) (J : It) (H' : Hp),itv = .ref it ∧ Inv X pins σ H' s2 ∧ Turn X.prog X.w X.K tg J fp it tn ∧ tn 0 s2.heap ∧ (∀ b ∈ fp,FpOk X pins H' b) ∧ R J H'
def PI (X : Cx) (tg iter : Expr) (wi : TI) : Prop :=
 ∀ (pins : List (Addr × Obj)) (s : Shared) (σ : St) (H : Hp) (R : It → Hp → Prop),Inv X pins σ H s → wi σ H R →
  wpAny (model X.prog X.w) X.A (eval iter X.env) (fun v s1=>wpAny (model X.prog X.w) X.A (pyIter v) (PIE X pins σ tg R) X.xe s1) X.xe s
theorem go_of {M : Model} {A : Around} {E : Value → Shared → Prop} {s : Shared} {tg : Expr} {it : Addr} {u : Value} {o : Obj} {n : String} {vs : Array Value} {Q : Unit → Shared → Prop} (ho : s.heap.get? it = some o) (hc : o.cls = .type n) (hd : o.data = .fields vs)
  (hn : ["enumerate","zip","dict_itemiterator","dict_reverseitemiterator","odict_iterator","itertools.zip_longest","itertools.pairwise"].contains n = false) (hQ : Q () s) : wpAny M A (letOwnedTupleGo tg (.ref it) u) Q E s:=by
 unfold letOwnedTupleGo
 cases tg <;> first
  | exact wpAny_pure hQ
  | (cases u <;> first
    | exact wpAny_pure hQ
    | (refine wpAny_bind (wpAny_load ho ?_)
       rw [hc,hd]
       show wpAny M A (if (["enumerate","zip","dict_itemiterator","dict_reverseitemiterator","odict_iterator","itertools.zip_longest","itertools.pairwise"].contains n && vs[0]? == some (rawInt _)) = true then _ else _) Q E s
       rw [if_neg (by intro h; rw [hn,Bool.false_and] at h; cases h)]
       exact wpAny_pure hQ))
def Itl (K : PySem.W.Frag) (a : Addr) : It :=
 ⟨fun i H=>∃ xs x,SqL K H a xs ∧ xs[i]? = some x,fun i H x H'=>H' = H ∧ ∀ xs,SqL K H a xs → xs[i]? = some x,fun i H=>∃ xs,SqL K H a xs ∧ xs.length ≤ i⟩
def Itr (lo : Int) (n : Nat) : It:=⟨fun i _=>i < n,fun i H x H'=>H' = H ∧ x = .int (lo + i),fun i _=>n ≤ i⟩
theorem turn_list {P : Program} {w : World} {K : PySem.W.Frag} {tg : Expr} (a it : Addr) : Turn P w K tg (Itl K a) [it] it (fun i h=>h.IsListIter it a i) where
 mem:=by simp
 obj:=fun i h st b hb=>by
  have e : b = it:=by simpa using hb
  subst e
  obtain ⟨o,e,c,d⟩:=st
  exact ⟨o,e,fun v z=>by rw [d] at z; cases z⟩
 keep:=fun i h h' st k=>st.at fun o e=>k it (by simp) o e
 item:=by
  intro X hP hw hK hc i pins s σ H E I hf st hg
  subst hP hw hK
  obtain ⟨xs,x,hq,hx⟩:=hg
  obtain ⟨its,rv,p,hz⟩:=I.list hq
  obtain ⟨u,hu,ru⟩:=rv.get hx
  obtain ⟨f0,f1,f2,f3,f4,f5⟩:=hf it (by simp)
  refine wpAny_pyNext_list_item st p.isList (x:=u) (by simpa using hu) fun h' st' sb=>?_
  have I1 : Inv X pins σ H { s with heap:=h' }:=I.turned (t':=s.toks) (fun b o hb e=>(sb.2 b hb).trans e) f0 f1 f3 f4 f5
  obtain ⟨o,e,c,d⟩:=id st'
  exact ⟨u,rfl,go_of (s:={ s with heap:=h' }) e c d (by decide) ⟨x,H,I1,ru,⟨rfl,fun ys hy=>by rw [I.list_inj hy hq]; exact hx⟩,st',fun b hb=>(hf b hb).1⟩⟩
 done:=by
  intro X hP hw hK hc i pins s σ H E I hf st hg
  subst hP hw hK
  obtain ⟨xs,hq,hx⟩:=hg
  obtain ⟨its,rv,p,hz⟩:=I.list hq
  obtain ⟨f0,f1,f2,f3,f4,f5⟩:=hf it (by simp)
  have hl:=rv.length
  exact wpAny_pyNext_list_end (I.ok.hd hc) st p.isList (by simp; omega) fun h' eb=>⟨rfl,I.turned (t':=s.toks) (fun b o hb e=>eb b o hb e) f0 f1 f3 f4 f5⟩
 self:=fun _ _ _ _ _ st h=>wpAny_pyIter_listiter st h
theorem turn_range {P : Program} {w : World} {K : PySem.W.Frag} {tg : Expr} (it : Addr) (lo : Int) (n : Nat) : Turn P w K tg (Itr lo n) [it] it (fun i h=>IsRangeIter h it (lo + (i : Nat) * 1) ((n : Int) - (i : Nat)) 1) where
 mem:=by simp
 obj:=fun i h st b hb=>by
  have e : b = it:=by simpa using hb
  subst e
  exact ⟨_,st,fun v z=>by
   have z' : Data.fields _ = Data.cell v:=z
   cases z'⟩
 keep:=fun i h h' st k=>k it (by simp) _ st
 item:=by
  intro X hP hw hK hc i pins s σ H E I hf st hg
  subst hP hw hK
  obtain ⟨f0,f1,f2,f3,f4,f5⟩:=hf it (by simp)
  have W:=Walks.range (prog:=X.prog) (w:=X.w) (I.ok.hd hc) it lo 1 n
  refine W.item i s _ _ hg st fun v h' tk hv st' kk=>?_
  obtain ⟨t,rfl⟩:=hv
  have I1 : Inv X pins σ H { s with heap:=h',toks:=tk }:=I.turned (fun b o hb e=>kk b o (by simpa using hb) e) f0 f1 f3 f4 f5
  refine ⟨_,rfl,go_of (s:={ s with heap:=h',toks:=tk }) (n:="range_iterator") st' rfl rfl (by decide) ⟨.int (lo + i),H,I1,⟨t,?_⟩,⟨rfl,rfl⟩,st',fun b hb=>(hf b hb).1⟩⟩
  rw [Int.mul_one]
 done:=by
  intro X hP hw hK hc i pins s σ H E I hf st hg
  subst hP hw hK
  obtain ⟨f0,f1,f2,f3,f4,f5⟩:=hf it (by simp)
  exact wpAny_pyNext_range_end (I.ok.hd hc) st (by have : n ≤ i:=hg; omega) fun h' eb=>⟨rfl,I.turned (t':=s.toks) (fun b o hb e=>eb b o hb e) f0 f1 f3 f4 f5⟩
 self:=fun _ _ _ _ _ st h=>wpAny_pyIter_rangeiter st h
end L2
namespace L2
open PySem PySem.Spec PyProof.Rows
section
variable {X : Cx} {tg : Expr}
def iList (K : PySem.W.Frag) (tl : TE) : TI:=fun σ H R=>tl σ H fun x H1=>∃ a,x = .ref a ∧ (∃ xs,SqL K H1 a xs) ∧ R (Itl K a) H1
theorem pi_list {l : Expr} {tl : TE} (hl : PE X l tl) : PI X tg l (iList X.K tl):=by
 intro pins s σ H R I h
 refine thn (hl pins s σ H _ I h) fun v s1 ⟨x,H1,I1,r1,q1⟩=>?_
 obtain ⟨a,e,⟨xs,hq⟩,q⟩:=q1
 subst e
 cases r1
 obtain ⟨its,rv,p,hz⟩:=I1.list hq
 refine wpAny_pyIter_list p.isList ?_
 refine ⟨s1.heap.objs.size,[s1.heap.objs.size],_,_,H1,rfl,I1.kept (t':=s1.toks) fun b o e=>Heap.get?_push_of_some _ e,turn_list a _,⟨_,Heap.get?_push_size _ rfl,rfl,rfl⟩,fun b hb=>?_,q⟩
 have e : b = s1.heap.objs.size:=by simpa using hb
 subst e
 exact I1.fpOk (Nat.le_refl _) (I1.hok.fresh (Nat.le_refl _))
theorem range_it {pins : List (Addr × Obj)} {σ : St} {H : Hp} {s : Shared} {R : It → Hp → Prop} {E : Value → Shared → Prop} {lo hi : Int} {t u v : Tok} {tk : Nat} (I : Inv X pins σ H s) (h1 : -(2 ^ 62) ≤ lo) (h2 : lo < 2 ^ 62) (h3 : -(2 ^ 62) ≤ hi) (h4 : hi < 2 ^ 62)
  (q : R (Itr lo (hi - lo).toNat) H) : wpAny (model X.prog X.w) X.A (pyIter (.ref s.heap.objs.size)) (PIE X pins σ tg R) E { s with heap:=s.heap.push { cls:=.type "range",data:=.fields #[.int lo t,.int hi u,.int 1 v] },toks:=tk }:=by
 refine wpAny_pyIter_range (IsRange.new ..) (small_one h1 h2 h3 h4) ?_
 have I1 : Inv X pins σ H { s with heap:=s.heap.push { cls:=.type "range",data:=.fields #[.int lo t,.int hi u,.int 1 v] },toks:=tk }:=I.kept fun b o e=>Heap.get?_push_of_some _ e
 refine ⟨(s.heap.push { cls:=.type "range",data:=.fields #[.int lo t,.int hi u,.int 1 v] }).objs.size,[(s.heap.push { cls:=.type "range",data:=.fields #[.int lo t,.int hi u,.int 1 v] }).objs.size],_,_,H,rfl,
  I1.kept (t':=tk) fun b o e=>Heap.get?_push_of_some _ e,turn_range _ lo (hi - lo).toNat,?_,fun b hb=>?_,q⟩
 ·have e1 : lo + ((0 : Nat) : Int) * 1 = lo:=by simp
  have e2 : (((hi - lo).toNat : Nat) : Int) - ((0 : Nat) : Int) = Builtin.Range.rangeSize lo hi 1:=by rw [rangeSize_one]; split <;> omega
  show IsRangeIter _ _ (lo + ((0 : Nat) : Int) * 1) ((((hi - lo).toNat : Nat) : Int) - ((0 : Nat) : Int)) 1
  rw [e1,e2]
  exact Heap.get?_push_size _ rfl
 ·have e : b = (s.heap.push { cls:=.type "range",data:=.fields #[.int lo t,.int hi u,.int 1 v] }).objs.size:=by simpa using hb
  subst e
  exact I1.fpOk (Nat.le_refl _) (I1.hok.fresh (Nat.le_refl _))
def iRng1 (ta : TA) : TI:=fun σ H R=>ta σ H fun vs H1=>∃ j : Int,vs = [.int j] ∧ -(2 ^ 62) ≤ j ∧ j < 2 ^ 62 ∧ R (Itr 0 j.toNat) H1
theorem pi_range1 {a : Expr} {ta : TA} {p pos : Pos} (hg : Gl X "range") (hm : X.mg "range" = none) (ha : PA X [a] ta) (hs : starEach [a] X.env = [(false,eval a X.env)]:=by rfl) : PI X tg (.Call (.Name "range" p) [a] [] pos) (iRng1 ta):=by
 intro pins s σ H R I h
 refine Call_ (ld_blt I hg hm boot_range (PyProof.Rows.callWith_type1 (thn (ha pos pins s σ H _ I h) fun us s1 ⟨vs,H1,I1,r1,q1⟩=>?_) hs rfl))
 obtain ⟨j,e,q1,q2,q⟩:=q1
 subst e
 cases r1 with
 | cons r rr =>
  cases rr
  obtain ⟨t,rfl⟩:=r
  exact call_range_1 (range_it I1 (by omega) (by omega) q1 q2 (by simpa using q))
def tFor (wi : TI) (g : TG) (tb : TS) : TS:=fun D σ H=>wi σ H fun J H1=>∃ W : Nat → Nat → St → Hp → Prop,(∃ m,W 0 m σ H1) ∧ ∀ i m σ H,W i m σ H →
 (J.stop i H ∧ D.nx σ H) ∨ (J.go i H ∧ ∃ N : St → Hp → Prop,(∀ σ' H',N σ' H' → ∃ m',m' < m ∧ W (i + 1) m' σ' H') ∧ ∀ x H',J.yld i H x H' → g x σ H' fun σ2 H2=>tb { D with nx:=N,ct:=N,bk:=D.nx } σ2 H2)
def pinsAt (fp : List Addr) (h : Heap) : List (Addr × Obj):=fp.filterMap fun b=>(h.get? b).map fun o=>(b,o)
theorem mem_pinsAt {fp : List Addr} {h : Heap} {b : Addr} {o : Obj} (hb : b ∈ fp) (e : h.get? b = some o) : (b,o) ∈ pinsAt fp h:=List.mem_filterMap.mpr ⟨b,hb,by rw [e]; rfl⟩
theorem of_pinsAt {fp : List Addr} {h : Heap} {p : Addr × Obj} (hp : p ∈ pinsAt fp h) : p.1 ∈ fp ∧ h.get? p.1 = some p.2:=by
 obtain ⟨b,hb,e⟩:=List.mem_filterMap.mp hp
 cases q : h.get? b with
 | none=>rw [q] at e; cases e
 | some o =>
  rw [q] at e
  have e' : (b,o) = p:=Option.some.inj e
  subst e'
  exact ⟨hb,q⟩
theorem Inv.pinned {pins : List (Addr × Obj)} {σ : St} {H : Hp} {s : Shared} {fp : List Addr} (I : Inv X pins σ H s) (hf : ∀ b ∈ fp,FpOk X pins H b) (ho : ∀ b ∈ fp,∃ o,s.heap.get? b = some o ∧ ∀ v,o.data ≠ .cell v) : Inv X (pins ++ pinsAt fp s.heap) σ H s :=
 I.pins_of fun p hp=>(List.mem_append.mp hp).elim (fun z=>I.pin p (List.mem_append_right _ z)) fun z=>by
  obtain ⟨hb,e⟩:=of_pinsAt z
  obtain ⟨f0,f1,f2,_⟩:=hf p.1 hb
  obtain ⟨o,e',d⟩:=ho p.1 hb
  rw [e] at e'; cases e'
  exact ⟨e,f0,f1,f2,d⟩
theorem Inv.unpinned {pins pl : List (Addr × Obj)} {σ : St} {H : Hp} {s : Shared} (I : Inv X (pins ++ pl) σ H s) : Inv X pins σ H s:=I.pins_of fun p hp=>I.pin p (List.mem_append_right _ (List.mem_append_left _ hp))
theorem ps_for {iter : Expr} {body : List Stmt} {wi : TI} {g : TG} {tb : TS} {pos : Pos} (hp : PassesOwn (model X.prog X.w) X.A X.env X.xe) (hc : X.calm = true) (hi : PI X tg iter wi) (hg : PG X tg g) (hb : PSs X body tb)
  (hs : ∀ x,foldedSetIterable iter X.env x = pure x:=by intro _; rfl) : PS X (.For tg iter body [] pos) (tFor wi g tb):=by
 intro pins s σ H D I h
 refine wpAny_For (thn (hi pins s σ H _ I h) fun v s1 h1=>thn h1 fun itv s2 h2=>?_) hs
 obtain ⟨it,fp,tn,J,H2,e,I2,T,st2,f2,W,⟨m0,w0⟩,turn⟩:=h2
 subst e
 have stat : ∀ {H' : Hp},(∀ b ∈ fp,H' b = none) → ∀ b ∈ fp,FpOk X pins H' b:=fun hn b hb=>⟨hn b hb,(f2 b hb).2⟩
 refine codeAny_forLoop_any (fun n s'=>∃ i σ' H',Inv X pins σ' H' s' ∧ tn i s'.heap ∧ (∀ b ∈ fp,H' b = none) ∧ W i n σ' H') ?_ m0 ⟨0,σ,H2,I2,st2,fun b hb=>(f2 b hb).1,w0⟩
 rintro n s3 ⟨i,σ3,H3,I3,st3,fr3,w3⟩
 rcases turn i n σ3 H3 w3 with ⟨stop,qn⟩ | ⟨go,N,hN,step⟩
 ·refine wpAny_passesOwn hp (thn (T.done X rfl rfl rfl hc i pins s3 σ3 H3 X.xe I3 (stat fr3) st3 stop) fun r s4 ⟨hr,I4⟩=>?_)
  subst hr
  exact wpAny_execs_nil ⟨σ3,H3,I4,qn⟩
 ·refine wpAny_passesOwn hp (thn (T.item X rfl rfl rfl hc i pins s3 σ3 H3 X.xe I3 (stat fr3) st3 go) fun r s4 ⟨u,hr,h4⟩=>?_)
  subst hr
  refine wpAny_passesOwn hp (thn h4 fun _ s5 ⟨x,H5,I5,r5,y5,st5,fr5⟩=>?_)
  have I5':=I5.pinned (stat fr5) (T.obj _ _ st5)
  refine wpAny_passesOwn hp (thn (hg _ s5 σ3 H5 x u _ I5' r5 (step x H5 y5)) fun _ s6 ⟨σ6,H6,I6,q6⟩=>?_)
  refine wpAny_passesOwn hp (thn (hb _ s6 σ6 H6 _ I6 q6) fun f s7 q7=>?_)
  have again : ∀ {σ7 : St} {H7 : Hp},Inv X (pins ++ pinsAt fp s5.heap) σ7 H7 s7 → N σ7 H7 → ∃ m,m < n ∧ ∃ i σ' H',Inv X pins σ' H' s7 ∧ tn i s7.heap ∧ (∀ b ∈ fp,H' b = none) ∧ W i m σ' H':=fun {σ7 H7} I7 n7=>by
   obtain ⟨m',hm,w7⟩:=hN σ7 H7 n7
   refine ⟨m',hm,i + 1,σ7,H7,I7.unpinned,T.keep _ _ _ st5 fun b hb o e=>(I7.pin (b,o) (List.mem_append_right _ (List.mem_append_right _ (mem_pinsAt hb e)))).1,fun b hb=>?_,w7⟩
   obtain ⟨o,e,d⟩:=T.obj _ _ st5 b hb
   exact (I7.pin (b,o) (List.mem_append_right _ (List.mem_append_right _ (mem_pinsAt hb e)))).2.1
  cases f with
  | next=>obtain ⟨σ7,H7,I7,n7⟩:=q7; exact again I7 n7
  | cont=>obtain ⟨σ7,H7,I7,n7⟩:=q7; exact again I7 n7
  | brk=>obtain ⟨σ7,H7,I7,q7⟩:=q7; exact ⟨σ7,H7,I7.unpinned,q7⟩
  | ret v=>obtain ⟨x7,σ7,H7,I7,r7,q7⟩:=q7; exact ⟨x7,σ7,H7,I7.unpinned,r7,q7⟩
end
theorem for_list {K : PySem.W.Frag} {a : Addr} {xs : List V} {g : TG} {tb : TS} {D : Ends} {σ : St} {H : Hp} (Pv : Nat → St → Hp → Prop) (h0 : Pv 0 σ H) (hl : ∀ i σ H,i ≤ xs.length → Pv i σ H → SqL K H a xs)
  (hs : ∀ i x σ H,xs[i]? = some x → Pv i σ H → g x σ H fun σ2 H2=>tb { D with nx:=Pv (i + 1),ct:=Pv (i + 1),bk:=D.nx } σ2 H2) (hd : ∀ σ H,Pv xs.length σ H → D.nx σ H) :
  ∃ W : Nat → Nat → St → Hp → Prop,(∃ m,W 0 m σ H) ∧ ∀ i m σ H,W i m σ H →
   ((Itl K a).stop i H ∧ D.nx σ H) ∨ ((Itl K a).go i H ∧ ∃ N : St → Hp → Prop,(∀ σ' H',N σ' H' → ∃ m',m' < m ∧ W (i + 1) m' σ' H') ∧ ∀ x H',(Itl K a).yld i H x H' → g x σ H' fun σ2 H2=>tb { D with nx:=N,ct:=N,bk:=D.nx } σ2 H2):=by
 refine ⟨fun i m σ H=>m = xs.length - i ∧ i ≤ xs.length ∧ Pv i σ H,⟨xs.length,by simp,Nat.zero_le _,h0⟩,?_⟩
 rintro i m σ H ⟨rfl,hi,p⟩
 have q:=hl i σ H hi p
 by_cases hlt : i < xs.length
 ·refine .inr ⟨⟨xs,xs[i],q,by simp [hlt]⟩,Pv (i + 1),fun σ' H' p'=>⟨xs.length - (i + 1),by omega,rfl,hlt,p'⟩,fun x H' y=>?_⟩
  obtain ⟨e,y⟩:=y
  subst e
  exact hs i x σ _ (y xs q) p
 ·have e : i = xs.length:=by omega
  subst e
  exact .inl ⟨⟨xs,q,Nat.le_refl _⟩,hd σ H p⟩
theorem for_range {lo : Int} {n : Nat} {g : TG} {tb : TS} {D : Ends} {σ : St} {H : Hp} (Pv : Nat → St → Hp → Prop) (h0 : Pv 0 σ H)
  (hs : ∀ i σ H,i < n → Pv i σ H → g (.int (lo + i)) σ H fun σ2 H2=>tb { D with nx:=Pv (i + 1),ct:=Pv (i + 1),bk:=D.nx } σ2 H2) (hd : ∀ σ H,Pv n σ H → D.nx σ H) :
  ∃ W : Nat → Nat → St → Hp → Prop,(∃ m,W 0 m σ H) ∧ ∀ i m σ H,W i m σ H →
   ((Itr lo n).stop i H ∧ D.nx σ H) ∨ ((Itr lo n).go i H ∧ ∃ N : St → Hp → Prop,(∀ σ' H',N σ' H' → ∃ m',m' < m ∧ W (i + 1) m' σ' H') ∧ ∀ x H',(Itr lo n).yld i H x H' → g x σ H' fun σ2 H2=>tb { D with nx:=N,ct:=N,bk:=D.nx } σ2 H2):=by
 refine ⟨fun i m σ H=>m = n - i ∧ i ≤ n ∧ Pv i σ H,⟨n,by simp,Nat.zero_le _,h0⟩,?_⟩
 rintro i m σ H ⟨rfl,hi,p⟩
 by_cases hlt : i < n
 ·refine .inr ⟨hlt,Pv (i + 1),fun σ' H' p'=>⟨n - (i + 1),by omega,rfl,hlt,p'⟩,fun x H' y=>?_⟩
  obtain ⟨e,y⟩:=y
  subst e y
  exact hs i σ _ hlt p
 ·have e : i = n:=by omega
  subst e
  exact .inl ⟨Nat.le_refl _,hd σ H p⟩
end L2
namespace L2
open PySem PySem.Spec PyProof.Rows
abbrev R2:=V → V → Hp → VK → Prop
def OpR (X : Cx) (f : Value → Value → Sem Value) (r : R2) : Prop :=
 ∀ (pins : List (Addr × Obj)) (s : Shared) (σ : St) (H : Hp) (x y : V) (v u : Value) (Q : VK),Inv X pins σ H s → RelV x v → RelV y u → r x y H Q →
  wpAny (model X.prog X.w) X.A (f v u) (EP X pins σ Q) X.xe s
def UnR (X : Cx) (f : Value → Sem Value) (r : V → Hp → VK → Prop) : Prop :=
 ∀ (pins : List (Addr × Obj)) (s : Shared) (σ : St) (H : Hp) (x : V) (v : Value) (Q : VK),Inv X pins σ H s → RelV x v → r x H Q →
  wpAny (model X.prog X.w) X.A (f v) (EP X pins σ Q) X.xe s
def CallR (X : Cx) (f : Value) (r : List V → Hp → VK → Prop) : Prop :=
 ∀ (pins : List (Addr × Obj)) (s : Shared) (σ : St) (H : Hp) (xs : List V) (us : List Value) (Q : VK),Inv X pins σ H s → Vals xs us → r xs H Q →
  wpAny (model X.prog X.w) X.A (call f us) (EP X pins σ Q) X.xe s
def tOp (r : R2) (ta tb : TE) : TE:=fun σ H Q=>ta σ H fun x H1=>tb σ H1 fun y H2=>r x y H2 Q
def tUn (r : V → Hp → VK → Prop) (ta : TE) : TE:=fun σ H Q=>ta σ H fun x H1=>r x H1 Q
def rI (C : Int → Int → Prop) (g : Int → Int → V) : R2:=fun x y H Q=>∃ i j,x = .int i ∧ y = .int j ∧ C i j ∧ Q (g i j) H
def rI0 (g : Int → Int → V) : R2:=fun x y H Q=>∃ i j,x = .int i ∧ y = .int j ∧ Q (g i j) H
def rU (g : Int → V) : V → Hp → VK → Prop:=fun x H Q=>∃ i,x = .int i ∧ Q (g i) H
section
variable {X : Cx} {a b c : Expr} {ta tb tc : TE} {pos : Pos}
theorem binT (ha : PE X a ta) (hb : PE X b tb) {pins : List (Addr × Obj)} {s : Shared} {σ : St} {H : Hp} {R : V → V → Hp → Prop} (I : Inv X pins σ H s)
  (h : ta σ H fun x H1=>tb σ H1 fun y H2=>R x y H2) {Q : Value → Shared → Prop} {f : Value → Value → Sem Value}
  (hf : ∀ v u s2 x y H2,Inv X pins σ H2 s2 → RelV x v → RelV y u → R x y H2 → wpAny (model X.prog X.w) X.A (f v u) Q X.xe s2) :
  wpAny (model X.prog X.w) X.A (eval a X.env) (fun v s₁=>wpAny (model X.prog X.w) X.A (eval b X.env) (fun u s₂=>wpAny (model X.prog X.w) X.A (f v u) Q X.xe s₂) X.xe s₁) X.xe s:=by
 refine thn (ha pins s σ H _ I h) fun v s1 ⟨x,H1,I1,r1,q1⟩=>?_
 refine thn (hb pins s1 σ H1 _ I1 q1) fun u s2 ⟨y,H2,I2,r2,q2⟩=>?_
 exact hf v u s2 x y H2 I2 r1 r2 q2
theorem pe_op {op : Operator} {r : R2} (ho : OpR X (binaryOp op) r) (ha : PE X a ta) (hb : PE X b tb) : PE X (.BinOp a op b pos) (tOp r ta tb):=by
 intro pins s σ H Q I h
 exact wpAny_BinOp (binT ha hb I h fun v u s2 x y H2 I2 rx ry q=>ho pins s2 σ H2 x y v u Q I2 rx ry q)
theorem pe_un {op : UnaryOp} {r : V → Hp → VK → Prop} (ho : UnR X (unaryOp op) r) (ha : PE X a ta) : PE X (.UnaryOp op a pos) (tUn r ta):=by
 intro pins s σ H Q I h
 exact UnaryOp_ (thn (ha pins s σ H _ I h) fun v s1 ⟨x,H1,I1,r1,q1⟩=>ho pins s1 σ H1 x v Q I1 r1 q1)
theorem opI {f : Value → Value → Sem Value} {C : Int → Int → Prop} {g : Int → Int → Int}
  (rule : ∀ (i j : Int) (t u : Tok) (s : Shared) (Q : Value → Shared → Prop) (E : Value → Shared → Prop),C i j → Q (.int (g i j) s.toks) { s with toks:=s.toks + 1 } → wpAny (model X.prog X.w) X.A (f (.int i t) (.int j u)) Q E s) :
  OpR X f (rI C fun i j=>.int (g i j)):=by
 intro pins s σ H x y v u Q I rx ry h
 obtain ⟨i,j,rfl,rfl,hc,q⟩:=h
 obtain ⟨t,rfl⟩:=rx
 obtain ⟨t',rfl⟩:=ry
 exact rule i j t t' s _ _ hc ⟨.int (g i j),H,I.tok _,⟨_,rfl⟩,q⟩
theorem opI0 {f : Value → Value → Sem Value} {g : Int → Int → Int}
  (rule : ∀ (i j : Int) (t u : Tok) (s : Shared) (Q : Value → Shared → Prop) (E : Value → Shared → Prop),Q (.int (g i j) s.toks) { s with toks:=s.toks + 1 } → wpAny (model X.prog X.w) X.A (f (.int i t) (.int j u)) Q E s) :
  OpR X f (rI0 fun i j=>.int (g i j)):=by
 intro pins s σ H x y v u Q I rx ry h
 obtain ⟨i,j,rfl,rfl,q⟩:=h
 obtain ⟨t,rfl⟩:=rx
 obtain ⟨t',rfl⟩:=ry
 exact rule i j t t' s _ _ ⟨.int (g i j),H,I.tok _,⟨_,rfl⟩,q⟩
theorem opB0 {f : Value → Value → Sem Value} {g : Int → Int → Bool}
  (rule : ∀ (i j : Int) (t u : Tok) (s : Shared) (Q : Value → Shared → Prop) (E : Value → Shared → Prop),Q (.bool (g i j)) s → wpAny (model X.prog X.w) X.A (f (.int i t) (.int j u)) Q E s) :
  OpR X f (rI0 fun i j=>.bl (g i j)):=by
 intro pins s σ H x y v u Q I rx ry h
 obtain ⟨i,j,rfl,rfl,q⟩:=h
 obtain ⟨t,rfl⟩:=rx
 obtain ⟨t',rfl⟩:=ry
 exact rule i j t t' s _ _ ⟨.bl (g i j),H,I,rfl,q⟩
def CMul (i j : Int) : Prop:=(-(2 ^ 64) < i ∧ i < 2 ^ 64) ∨ (-(2 ^ 64) < j ∧ j < 2 ^ 64)
theorem CMul.ok {i j : Int} (h : CMul i j) : IntMulOk i j:=by
 rcases h with ⟨h1,h2⟩ | ⟨h1,h2⟩
 ·exact .of_left (intBits_le_64 h1 h2)
 ·exact .of_right (intBits_le_64 h1 h2)
theorem op_add : OpR X (binaryOp .Add) (rI0 fun i j=>.int (i + j)):=opI0 fun _ _ _ _ _ _ _ q=>add_int q
theorem op_sub : OpR X (binaryOp .Sub) (rI0 fun i j=>.int (i - j)):=opI0 fun _ _ _ _ _ _ _ q=>sub_int q
theorem op_mul : OpR X (binaryOp .Mult) (rI CMul fun i j=>.int (i * j)):=opI fun _ _ _ _ _ _ _ hc q=>mul_int q hc.ok
theorem unI {f : Value → Sem Value} {g : Int → Int}
  (rule : ∀ (i : Int) (t : Tok) (s : Shared) (Q : Value → Shared → Prop) (E : Value → Shared → Prop),Q (.int (g i) s.toks) { s with toks:=s.toks + 1 } → wpAny (model X.prog X.w) X.A (f (.int i t)) Q E s) :
  UnR X f (rU fun i=>.int (g i)):=by
 intro pins s σ H x v Q I rx h
 obtain ⟨i,rfl,q⟩:=h
 obtain ⟨t,rfl⟩:=rx
 exact rule i t s _ _ ⟨.int (g i),H,I.tok _,⟨_,rfl⟩,q⟩
theorem un_neg : UnR X (unaryOp .USub) (rU fun i=>.int (-i)):=unI fun _ _ _ _ _ q=>neg_int q
end
def scal : V → V → Bool
 | .non,.non=>true | .non,.int _=>true | .int _,.non=>true | .non,.bl _=>true | .bl _,.non=>true | .non,.str _=>true | .str _,.non=>true
 | .int _,.int _=>true | .bl _,.bl _=>true | .str _,.str _=>true | .byt _,.byt _=>true
 | .int _,.str _=>true | .str _,.int _=>true | .bl _,.str _=>true | .str _,.bl _=>true
 | _,_=>false
def rEq : R2:=fun x y H Q=>scal x y = true ∧ Q (.bl (decide (x = y))) H
def rNe : R2:=fun x y H Q=>scal x y = true ∧ Q (.bl (!decide (x = y))) H
theorem dec_int {i j : Int} : decide (V.int i = V.int j) = (i == j):=by
 rw [Bool.eq_iff_iff]
 simp
theorem dec_bl {i j : Bool} : decide (V.bl i = V.bl j) = (i == j):=by
 rw [Bool.eq_iff_iff]
 simp
theorem dec_str {i j : Str} : decide (V.str i = V.str j) = (i == j):=by
 rw [Bool.eq_iff_iff]
 simp
theorem dec_byt {i j : Array UInt8} : decide (V.byt i = V.byt j) = (i.toList == j.toList):=by
 rw [Bool.eq_iff_iff]
 cases i
 cases j
 simp
section
variable {X : Cx} {a b c : Expr} {ta tb tc : TE} {pos : Pos}
theorem fin_bl {pins : List (Addr × Obj)} {σ : St} {H : Hp} {s : Shared} {Q : VK} {k k' : Bool} (I : Inv X pins σ H s) (q : Q (.bl k) H) (e : k = k') : EP X pins σ Q (.bool k') s:=by
 subst e
 exact ⟨.bl k,H,I,rfl,q⟩
theorem op_eq : OpR X (compareOp .Eq) rEq:=by
 intro pins s σ H x y v u Q I rx ry h
 obtain ⟨hs,q⟩:=h
 cases x with
 | non =>
  cases rx
  cases y with
  | non=>cases ry; exact PySem.EqNone.eq_none_none (fin_bl I q (by simp))
  | bl j=>cases ry; exact PySem.EqNone.eq_none_bool (fin_bl I q (by simp))
  | int j=>obtain ⟨t',rfl⟩:=ry; exact PySem.EqNone.eq_none_int (fin_bl I q (by simp))
  | str j=>obtain ⟨t',rfl⟩:=ry; exact PySem.EqNone.eq_none_str (fin_bl I q (by simp))
  | _=>exact absurd (show false = true from hs) Bool.false_ne_true
 | bl i =>
  cases rx
  cases y with
  | non=>cases ry; exact PySem.EqNone.eq_bool_none (fin_bl I q (by simp))
  | bl j=>cases ry; exact eq_bool (fin_bl I q dec_bl)
  | str j=>obtain ⟨t',rfl⟩:=ry; exact PySem.EqMixed.eq_bool_str (fin_bl I q (by simp))
  | _=>exact absurd (show false = true from hs) Bool.false_ne_true
 | int i =>
  obtain ⟨t,rfl⟩:=rx
  cases y with
  | non=>cases ry; exact PySem.EqNone.eq_int_none (fin_bl I q (by simp))
  | int j=>obtain ⟨t',rfl⟩:=ry; exact eq_int (fin_bl I q dec_int)
  | str j=>obtain ⟨t',rfl⟩:=ry; exact PySem.EqMixed.eq_int_str (fin_bl I q (by simp))
  | _=>exact absurd (show false = true from hs) Bool.false_ne_true
 | str i =>
  obtain ⟨t,rfl⟩:=rx
  cases y with
  | non=>cases ry; exact PySem.EqNone.eq_str_none (fin_bl I q (by simp))
  | bl j=>cases ry; exact PySem.EqMixed.eq_str_bool (fin_bl I q (by simp))
  | int j=>obtain ⟨t',rfl⟩:=ry; exact PySem.EqMixed.eq_str_int (fin_bl I q (by simp))
  | str j=>obtain ⟨t',rfl⟩:=ry; exact eq_str (fin_bl I q dec_str)
  | _=>exact absurd (show false = true from hs) Bool.false_ne_true
 | byt i =>
  obtain ⟨t,rfl⟩:=rx
  cases y with
  | byt j=>obtain ⟨t',rfl⟩:=ry; exact PySem.W.eq_bytes (fin_bl I q dec_byt)
  | _=>exact absurd (show false = true from hs) Bool.false_ne_true
 | _=>cases y <;> exact absurd (show false = true from hs) Bool.false_ne_true
theorem op_ne : OpR X (compareOp .NotEq) rNe:=by
 intro pins s σ H x y v u Q I rx ry h
 obtain ⟨hs,q⟩:=h
 cases x with
 | non =>
  cases rx
  cases y with
  | non=>cases ry; exact PySem.EqNone.ne_none_none (fin_bl I q (by simp))
  | bl j=>cases ry; exact PySem.EqNone.ne_none_bool (fin_bl I q (by simp))
  | int j=>obtain ⟨t',rfl⟩:=ry; exact PySem.EqNone.ne_none_int (fin_bl I q (by simp))
  | str j=>obtain ⟨t',rfl⟩:=ry; exact PySem.EqNone.ne_none_str (fin_bl I q (by simp))
  | _=>exact absurd (show false = true from hs) Bool.false_ne_true
 | bl i =>
  cases rx
  cases y with
  | non=>cases ry; exact PySem.EqNone.ne_bool_none (fin_bl I q (by simp))
  | bl j=>cases ry; exact ne_bool (fin_bl I q (congrArg not dec_bl))
  | str j=>obtain ⟨t',rfl⟩:=ry; exact PySem.EqMixed.ne_bool_str (fin_bl I q (by simp))
  | _=>exact absurd (show false = true from hs) Bool.false_ne_true
 | int i =>
  obtain ⟨t,rfl⟩:=rx
  cases y with
  | non=>cases ry; exact PySem.EqNone.ne_int_none (fin_bl I q (by simp))
  | int j=>obtain ⟨t',rfl⟩:=ry; exact ne_int (fin_bl I q (congrArg not dec_int))
  | str j=>obtain ⟨t',rfl⟩:=ry; exact PySem.EqMixed.ne_int_str (fin_bl I q (by simp))
  | _=>exact absurd (show false = true from hs) Bool.false_ne_true
 | str i =>
  obtain ⟨t,rfl⟩:=rx
  cases y with
  | non=>cases ry; exact PySem.EqNone.ne_str_none (fin_bl I q (by simp))
  | bl j=>cases ry; exact PySem.EqMixed.ne_str_bool (fin_bl I q (by simp))
  | int j=>obtain ⟨t',rfl⟩:=ry; exact PySem.EqMixed.ne_str_int (fin_bl I q (by simp))
  | str j=>obtain ⟨t',rfl⟩:=ry; exact ne_str (fin_bl I q (congrArg not dec_str))
  | _=>exact absurd (show false = true from hs) Bool.false_ne_true
 | byt i =>
  obtain ⟨t,rfl⟩:=rx
  cases y with
  | byt j=>obtain ⟨t',rfl⟩:=ry; exact PySem.W.ne_bytes (fin_bl I q (congrArg not dec_byt))
  | _=>exact absurd (show false = true from hs) Bool.false_ne_true
 | _=>cases y <;> exact absurd (show false = true from hs) Bool.false_ne_true
theorem op_lt : OpR X (compareOp .Lt) (rI0 fun i j=>.bl (decide (i < j))):=opB0 fun _ _ _ _ _ _ _ q=>lt_int q
theorem op_le : OpR X (compareOp .LtE) (rI0 fun i j=>.bl (decide (i ≤ j))):=opB0 fun _ _ _ _ _ _ _ q=>le_int q
theorem op_gt : OpR X (compareOp .Gt) (rI0 fun i j=>.bl (decide (j < i))):=opB0 fun _ _ _ _ _ _ _ q=>gt_int q
theorem nomark (b : Expr) {op : CmpOp} (h : op ≠ .In:=by decide) (h2 : op ≠ .NotIn:=by decide) : behindInMarks op b = false:=by
 have e1 : (op == CmpOp.In) = false:=by cases op <;> first | rfl | exact absurd rfl h
 have e2 : (op == CmpOp.NotIn) = false:=by cases op <;> first | rfl | exact absurd rfl h2
 cases b <;> simp [behindInMarks,e1,e2]
theorem pe_cmpR {op : CmpOp} {r : R2} (ho : OpR X (compareOp op) r) (ha : PE X a ta) (hb : PE X b tb) (hm : behindInMarks op b = false) : PE X (.Compare a [op] [b] pos) (tOp r ta tb):=by
 intro pins s σ H Q I h
 exact wpAny_Compare1 (binT ha hb I h fun v u s2 x y H2 I2 rx ry q=>ho pins s2 σ H2 x y v u Q I2 rx ry q) hm
def tTest (t : TE) : TT:=fun σ H Q=>t σ H fun x H'=>∃ k,x = .bl k ∧ Q k H'
theorem pt_cmpR {op : CmpOp} {r : R2} (ho : OpR X (compareOp op) r) (ha : PE X a ta) (hb : PE X b tb) (hm : behindInMarks op b = false) : PT X (.Compare a [op] [b] pos) (tTest (tOp r ta tb)):=by
 intro pins s σ H Q I h
 refine wpAny_isTrue_Compare1 (thn (ha pins s σ H _ I h) fun v s1 ⟨x,H1,I1,r1,q1⟩=>thn (hb pins s1 σ H1 _ I1 q1) fun u s2 ⟨y,H2,I2,r2,q2⟩ =>
  thn (ho pins s2 σ H2 x y v u _ I2 r1 r2 q2) fun c s3 ⟨z,H3,I3,r3,k,e,q3⟩=>?_) hm
 subst e
 cases r3
 exact wpAny_truthy_bool ⟨H3,I3,q3⟩
def tChain (r r' : R2) (ta tb tc : TE) : TE:=fun σ H Q=>ta σ H fun x H1=>tb σ H1 fun y H2=>r x y H2 fun z H3=>∃ k,z = .bl k ∧
 (if k = true then tc σ H3 fun w' H4=>r' y w' H4 Q else Q (.bl false) H3)
theorem pe_chain {op op' : CmpOp} {r r' : R2} (ho : OpR X (compareOp op) r) (ho' : OpR X (compareOp op') r') (ha : PE X a ta) (hb : PE X b tb) (hc : PE X c tc)
  (hm : lastMarks [op,op'] [b,c] = false:=by with_unfolding_all rfl) : PE X (.Compare a [op,op'] [b,c] pos) (tChain r r' ta tb tc):=by
 intro pins s σ H Q I h
 refine Compare_chain (thn (ha pins s σ H _ I h) fun v s1 ⟨x,H1,I1,r1,q1⟩=>chain_link (thn (hb pins s1 σ H1 _ I1 q1) fun u s2 ⟨y,H2,I2,r2,q2⟩ =>
  thn (ho pins s2 σ H2 x y v u _ I2 r1 r2 q2) fun d s3 ⟨z,H3,I3,r3,k,e,q3⟩=>?_)) hm
 subst e
 cases r3
 refine wpAny_truthy_bool ?_
 cases k with
 | false=>exact ite_ff ⟨.bl false,H3,I3,rfl,q3⟩
 | true=>exact ite_tt (chain_last (thn (hc pins s3 σ H3 _ I3 q3) fun w' s4 ⟨z',H4,I4,r4,q4⟩=>ho' pins s4 σ H4 y z' u w' Q I4 r2 r4 q4))
theorem pt_chain {op op' : CmpOp} {r r' : R2} (ho : OpR X (compareOp op) r) (ho' : OpR X (compareOp op') r') (ha : PE X a ta) (hb : PE X b tb) (hc : PE X c tc)
  (hm : lastMarks [op,op'] [b,c] = false:=by with_unfolding_all rfl) : PT X (.Compare a [op,op'] [b,c] pos) (tTest (tChain r r' ta tb tc)):=by
 intro pins s σ H Q I h
 refine isTrue_chain (thn (ha pins s σ H _ I h) fun v s1 ⟨x,H1,I1,r1,q1⟩=>test_link (thn (hb pins s1 σ H1 _ I1 q1) fun u s2 ⟨y,H2,I2,r2,q2⟩ =>
  thn (ho pins s2 σ H2 x y v u _ I2 r1 r2 q2) fun d s3 ⟨z,H3,I3,r3,k,e,q3⟩=>?_)) hm
 subst e
 cases r3
 refine wpAny_truthy_bool ?_
 cases k with
 | false =>
  obtain ⟨k',e',q'⟩:=q3
  cases e'
  exact ite_ff ⟨H3,I3,q'⟩
 | true =>
  refine ite_tt (test_last (thn (hc pins s3 σ H3 _ I3 q3) fun w' s4 ⟨z',H4,I4,r4,q4⟩=>thn (ho' pins s4 σ H4 y z' u w' _ I4 r2 r4 q4) fun d' s5 ⟨z2,H5,I5,r5,k2,e2,q5⟩=>?_))
  subst e2
  cases r5
  exact wpAny_truthy_bool ⟨H5,I5,q5⟩
theorem line63 : (sizeLine : Nat) < 2 ^ 63:=by rw [sizeLine_eq]; decide
theorem vals1 {x : V} {us : List Value} (r : Vals [x] us) : ∃ u,us = [u] ∧ RelV x u:=by
 cases r with
 | cons r1 r2=>cases r2; exact ⟨_,rfl,r1⟩
theorem vals2 {x y : V} {us : List Value} (r : Vals [x,y] us) : ∃ u w',us = [u,w'] ∧ RelV x u ∧ RelV y w':=by
 cases r with
 | cons r1 r2 =>
  cases r2 with
  | cons r3 r4=>cases r4; exact ⟨_,_,rfl,r1,r3⟩
theorem call_abs : CallR X (.builtin "abs") (fun xs H Q=>∃ i,xs = [.int i] ∧ Q (.int (if i < 0 then -i else i)) H):=by
 intro pins s σ H xs us Q I r h
 obtain ⟨i,rfl,q⟩:=h
 obtain ⟨u,rfl,t,rfl⟩:=vals1 r
 exact call_abs_int fun u tk=>⟨.int (if i < 0 then -i else i),H,I.tok _,⟨_,rfl⟩,q⟩
theorem call_max2 (hc : X.calm = true) : CallR X (.builtin "max") (fun xs H Q=>∃ i j,xs = [.int i,.int j] ∧ Q (.int (if j > i then j else i)) H):=by
 intro pins s σ H xs us Q I r h
 obtain ⟨i,j,rfl,q⟩:=h
 obtain ⟨u,w',rfl,⟨t,rfl⟩,⟨t',rfl⟩⟩:=vals2 r
 refine max_two_ints (I.ok.hd hc) fun h' tk k=>⟨_,H,I.kept k,?_,q⟩
 by_cases hj : j > i
 ·rw [if_pos hj,if_pos hj]; exact ⟨_,rfl⟩
 ·rw [if_neg hj,if_neg hj]; exact ⟨_,rfl⟩
theorem call_str_int : CallR X (.type "str") (fun xs H Q=>∃ i,xs = [.int i] ∧ i.natAbs.log2 < 1920 ∧ Q (.str (toString i)) H):=by
 intro pins s σ H xs us Q I r h
 obtain ⟨i,rfl,hz,q⟩:=h
 obtain ⟨u,rfl,t,rfl⟩:=vals1 r
 exact PySem.P.str_of_int hz ⟨.str _,H,I.tok _,⟨_,rfl⟩,q⟩
theorem call_ord : CallR X (.builtin "ord") (fun xs H Q=>∃ x,xs = [.str x] ∧ x.length = 1 ∧ Q (.int (x.cps.getD 0 0 : Nat)) H):=by
 intro pins s σ H xs us Q I r h
 obtain ⟨x,rfl,hz,q⟩:=h
 obtain ⟨u,rfl,t,rfl⟩:=vals1 r
 exact ord_of_one hz ⟨.int _,H,I.tok _,⟨_,rfl⟩,q⟩
end
end L2
namespace L2
open PySem PySem.Spec PyProof.Rows
structure ObjM (h : Heap) (x dx C : Addr) (mA : Str → Option Value) : Prop where
 obj : h.get? x = some (PySem.W.instObj C dx)
 ns : h.Ns1 dx mA
 ne : dx ≠ x
theorem lookIn_ns {h : Heap} {dx : Addr} {mA : Str → Option Value} (n : h.Ns1 dx mA) : ∃ od,h.get? dx = some od ∧ ∀ name,PySem.W.lookIn name od = some (mA name):=by
 obtain ⟨o,es,ep,ho,hd,hk,_,hm⟩:=n
 refine ⟨o,ho,fun name=>?_⟩
 have e:=hm name
 unfold nsFind findBy at e
 rw [← Array.find?_toList] at e
 unfold PySem.W.lookIn
 rw [hd]
 dsimp only
 split
 ·rename_i y q
  rw [q] at e
  exact congrArg some e
 ·rename_i q
  rw [q] at e
  have a : es.toList.any (·.refKey) = false:=by
   rw [List.any_eq_false]
   intro y hy
   obtain ⟨z,t,hkey⟩:=hk y (Array.mem_toList_iff.mp hy)
   simp [DictEntry.refKey,hkey]
  have a' : ¬ es.toList.any (·.refKey) = true:=by rw [a]; exact Bool.false_ne_true
  rw [if_neg a']
  exact congrArg some e
theorem ObjM.look {h : Heap} {x dx C : Addr} {mA : Str → Option Value} (I : ObjM h x dx C mA) : ∃ od,PySem.W.InstAt h x (PySem.W.instObj C dx) C (some od) ∧ ∀ name,PySem.W.lookIn name od = some (mA name) :=
 let ⟨od,ho,hl⟩:=lookIn_ns I.ns
 ⟨od,⟨I.obj,rfl,rfl,ho⟩,hl⟩
section
variable {prog : Program} {w : World} {A : Around} {E : Value → Shared → Prop} {s : Shared} {K : PySem.W.Frag} {x dx C f : Addr} {mA : Str → Option Value} {name : Str} {v : Value}
theorem get_map {expr : Bool} {Q : Value → Shared → Prop} (X : K.In s.heap) (I : ObjM s.heap x dx C mA) (hg : PySem.W.plainGet K C name = true) (hh : PySem.W.hasDictIn K C = true)
  (ha : PySem.W.findIn K (.ref C) name = some none) (hv : mA name = some v) (hv' : PySem.W.handedIn v = true) (h : Q v { s with toks:=s.toks + 1 }) :
  wpAny (model prog w) A (getAttr (.ref x) name expr) Q E s:=by
 obtain ⟨od,J,hl⟩:=I.look
 exact PySem.W.get_value X J (PySem.W.plainGet_of hg).1 (PySem.W.findObj_own hh ha rfl (by rw [hl,hv])) hv' h
theorem get_meth {pl : Sem Bool} {Q : Value × List Value → Shared → Prop} (X : K.In s.heap) (I : ObjM s.heap x dx C mA) (hg : PySem.W.plainGet K C name = true)
  (hf : PySem.W.findIn K (.ref C) name = some (some (.ref f))) (ht : PySem.W.isFn K (.ref f) = true) (hv : mA name = none) (h : Q (.ref f,[.ref x]) s) :
  wpAny (model prog w) A (getMethod (.ref x) name pl) Q E s:=by
 obtain ⟨od,J,hl⟩:=I.look
 exact PySem.W.method_fn X J (PySem.W.plainGet_of hg).1 (PySem.W.plainGet_of hg).2 hf (beq_iff_eq.mp ht) (by show (PySem.W.lookIn name od).map (·.isSome) = some false; rw [hl,hv]; rfl) h
theorem set_map {ns : List Str} {Q : Unit → Shared → Prop} (X : K.In s.heap) (I : ObjM s.heap x dx C mA)
  (hs : PySem.W.findIn K (.ref C) "__setattr__" = some (some (.builtin "object.__setattr__"))) (hp : PySem.W.plainOver K C = true) (ht : PySem.W.takerIn K C name = some none) (hh : PySem.W.hasDictIn K C = true)
  (hw : PySem.Within mA ns) (hsz : ns.length ≤ sizeLine)
  (h : ∀ h',ObjM h' x dx C (fun y=>if y = name then some v else mA y) → Heap.SameBut dx s.heap h' → Q () { s with heap:=h',toks:=s.toks + 2 }) :
  wpAny (model prog w) A (setAttr (.ref x) name v) Q E s:=by
 obtain ⟨od,J,hl⟩:=I.look
 refine PySem.W.set_plain X J hs (PySem.W.osa_open (s:={ s with toks:=s.toks + 1 }) (r:=none) X J hp ht fun b=>?_)
 obtain ⟨cd,hc,hd'⟩:=PySem.W.any_some hh
 have hx : s.heap.get? x = some ⟨.ref C,some dx,.plain,#[]⟩:=I.obj
 refine wpAny_bind (wpAny_pure (wpAny_bind (wpAny_bind (wpAny_loadPart hx (wpAny_bind (PySem.W.Looks.here (s:={ s with toks:=s.toks + 1 }) (PySem.W.looks_clsIn X hc) ?_))))))
 rw [hd']
 refine wpAny_pure (a:=some dx) (wpAny_bind (wpAny_pure (wpAny_bind ?_)))
 refine wpAny_nsSet1 (s:={ s with toks:=s.toks + 1 }) I.ns fun h' hn2 hs2=>?_
 obtain ⟨oD,esD,epD,hoD,hdD,hcD⟩:=hn2.count (PySem.Within.cons name v hw)
 refine wpAny_bind (wpAny_lookBehind hoD (by rw [hdD]; exact pastItsLine_dict (Nat.le_trans hcD (by rw [List.length_cons]; omega))) ?_)
 exact wpAny_pure (h _ ⟨(hs2.2 _ (Ne.symm I.ne)).trans I.obj,hn2,I.ne⟩ hs2)
theorem make_map {R : Result → Shared → Prop} {vs : List Value} {kw : List (Str × Value)} (X : K.In s.heap) (hm : PySem.W.makesIn K C = true)
  (hi : PySem.W.findIn K (.ref C) "__init__" = some (some (.ref f))) (hf : PySem.W.typeIn K (.ref f) = some (.type "function"))
  (h : codeAny (model prog w) (A.under (.builtin "type.__call__" ⟨.ref C :: vs,kw⟩)) (.call (.ref f) ⟨.ref (s.heap.objs.size + 1) :: vs,kw⟩) (PySem.W.InitBack (s.heap.objs.size + 1) R)
   { s with heap:=(s.heap.push PySem.W.emptyDict).push (PySem.W.instObj C s.heap.objs.size) }) :
  codeAny (model prog w) A (.call (.ref C) ⟨vs,kw⟩) R s:=by
 obtain ⟨hh,g,d,t,os⟩:=s
 exact PySem.W.make_core (PySem.W.makes_of X hm) (PySem.W.looks_findIn X hi) (fun self=>PySem.W.bind_fn X self hf) (.inl rfl) h
end
def putF (f : Str) (v : V) : List (Str × V) → List (Str × V)
 | []=>[(f,v)]
 | (g,x) :: r=>if g = f then (g,v) :: r else (g,x) :: putF f v r
theorem lookup_putF (f g : Str) (v : V) : ∀ fs : List (Str × V),(putF f v fs).lookup g = if g = f then some v else fs.lookup g
 | []=>by
  show List.lookup g [(f,v)] = _
  by_cases h : g = f
  ·have hb : (g == f) = true:=beq_iff_eq.mpr h
   simp only [List.lookup,hb,if_pos h]
  ·have hb : (g == f) = false:=beq_eq_false_iff_ne.mpr h
   simp only [List.lookup,hb,if_neg h]
 | (k,x) :: r=>by
  have ih:=lookup_putF f g v r
  rw [show putF f v ((k,x) :: r) = (if k = f then (k,v) :: r else (k,x) :: putF f v r) from rfl]
  by_cases hk : k = f
  ·rw [if_pos hk]
   by_cases h : g = k
   ·have hb : (g == k) = true:=beq_iff_eq.mpr h
    simp only [List.lookup,hb,if_pos (h.trans hk)]
   ·have hb : (g == k) = false:=beq_eq_false_iff_ne.mpr h
    simp only [List.lookup,hb,if_neg (fun e : g = f=>h (e.trans hk.symm))]
  ·rw [if_neg hk]
   by_cases h : g = k
   ·have hb : (g == k) = true:=beq_iff_eq.mpr h
    simp only [List.lookup,hb,if_neg (fun e : g = f=>hk (h.symm.trans e))]
   ·have hb : (g == k) = false:=beq_eq_false_iff_ne.mpr h
    simp only [List.lookup,hb]
    exact ih
theorem keys_putF (f : Str) (v : V) : ∀ fs : List (Str × V),f ∈ (putF f v fs).map (·.1) ∧ ∀ g,g ∈ fs.map (·.1) → g ∈ (putF f v fs).map (·.1)
 | []=>⟨by simp [putF],fun g h=>by simp at h⟩
 | (k,x) :: r=>by
  obtain ⟨i1,i2⟩:=keys_putF f v r
  rw [show putF f v ((k,x) :: r) = (if k = f then (k,v) :: r else (k,x) :: putF f v r) from rfl]
  by_cases hk : k = f
  ·rw [if_pos hk]
   subst hk
   exact ⟨by simp,fun g h=>by simpa using h⟩
  ·rw [if_neg hk]
   refine ⟨?_,fun g h=>?_⟩
   ·rw [List.map_cons]
    exact List.mem_cons_of_mem _ i1
   ·rw [List.map_cons] at h ⊢
    rcases List.mem_cons.mp h with e | e
    ·exact List.mem_cons.mpr (.inl e)
    ·exact List.mem_cons_of_mem _ (i2 g e)
theorem length_putF (f : Str) (v : V) : ∀ fs : List (Str × V),(putF f v fs).length ≤ fs.length + 1
 | []=>by simp [putF]
 | (k,x) :: r=>by
  have ih:=length_putF f v r
  rw [show putF f v ((k,x) :: r) = (if k = f then (k,v) :: r else (k,x) :: putF f v r) from rfl]
  by_cases hk : k = f
  ·rw [if_pos hk,List.length_cons,List.length_cons]; omega
  ·rw [if_neg hk,List.length_cons,List.length_cons]; omega
theorem RelO.some_of {v : V} {o : Option Value} (r : RelO (some v) o) : ∃ u,o = some u ∧ RelV v u:=by
 cases o with
 | none=>exact (show False from r).elim
 | some u=>exact ⟨u,rfl,r⟩
theorem RelO.none_of {o : Option Value} (r : RelO none o) : o = none:=by
 cases o with
 | none=>rfl
 | some u=>exact (show False from r).elim
theorem handed_of {v : V} {u : Value} (r : RelV v u) : PySem.W.handedIn u = true:=by
 cases v with
 | non=>cases (show u = Value.none from r); rfl
 | bl b=>cases (show u = Value.bool b from r); rfl
 | int i=>obtain ⟨t,e⟩:=(show ∃ t,u = Value.int i t from r); cases e; rfl
 | str x=>obtain ⟨t,e⟩:=(show ∃ t,u = Value.str x t from r); cases e; rfl
 | byt b=>obtain ⟨t,e⟩:=(show ∃ t,u = Value.bytes b t from r); cases e; rfl
 | flt b=>obtain ⟨t,e⟩:=(show ∃ t,u = Value.float b t from r); cases e; rfl
 | ref a=>cases (show u = Value.ref a from r); rfl
 | ty n=>cases (show u = Value.type n from r); rfl
section
variable {P : Program} {w : World} {H H' : Hp} {h h' : Heap} {a C dx : Addr} {fs fs' : List (Str × V)}
theorem ins_get (hok : HOk P w H h) (e : H a = some (.ins C dx fs)) : ∃ mA,ObjM h a dx C mA ∧ (∀ f,RelO (fs.lookup f) (mA f)) ∧ PySem.Within mA (fs.map (·.1)) ∧ fs.length ≤ 1000 ∧ H dx = some (.own a):=by
 obtain ⟨d,z,ne,ob,mA,n,r,q⟩:=(show ObjOk P w H h a (.ins C dx fs) from hok a _ e)
 exact ⟨mA,⟨ob,n,ne⟩,r,q,z,d⟩
end
structure Cls (K : PySem.W.Frag) (C : Addr) : Prop where
 pg : PySem.W.plainGet K C Str.empty = true
 hd : PySem.W.hasDictIn K C = true
 po : PySem.W.plainOver K C = true
 sa : PySem.W.findIn K (.ref C) "__setattr__" = some (some (.builtin "object.__setattr__"))
theorem Cls.get {K : PySem.W.Frag} {C : Addr} (c : Cls K C) (f : Str) : PySem.W.plainGet K C f = true:=c.pg
def NoAttr (K : PySem.W.Frag) (C : Addr) (f : Str) : Prop:=PySem.W.findIn K (.ref C) f = some none
theorem NoAttr.taker {K : PySem.W.Frag} {C : Addr} {f : Str} (n : NoAttr K C f) : PySem.W.takerIn K C f = some none:=by
 unfold PySem.W.takerIn
 rw [show PySem.W.findIn K (.ref C) f = some none from n]
 rfl
structure Meth (K : PySem.W.Frag) (C : Addr) (m : Str) (f : Addr) : Prop where
 at_ : PySem.W.findIn K (.ref C) m = some (some (.ref f))
 fn : PySem.W.isFn K (.ref f) = true
 kp : PySem.W.keepIn K (.ref f) = true
section
variable {X : Cx} {pins : List (Addr × Obj)} {σ : St} {H : Hp} {s : Shared} {a C dx : Addr} {fs : List (Str × V)} {f : Str} {v : V} {A : Around} {E : Value → Shared → Prop}
theorem getattr_ok {b : Bool} {Q : Value → Shared → Prop} (I : Inv X pins σ H s) (e : H a = some (.ins C dx fs)) (c : Cls X.K C) (n : NoAttr X.K C f) (l : fs.lookup f = some v)
  (h : ∀ u s',Inv X pins σ H s' → RelV v u → Q u s') : wpAny (model X.prog X.w) A (getAttr (.ref a) f b) Q E s:=by
 obtain ⟨mA,O,r,_,_,_⟩:=ins_get I.hok e
 obtain ⟨u,hu,ru⟩:=RelO.some_of (v:=v) (o:=mA f) (by rw [← l]; exact r f)
 exact get_map I.kIn O (c.get f) c.hd n hu (handed_of ru) (h u _ (I.tok _) ru)
theorem getmeth_ok {m : Str} {g : Addr} {pl : Sem Bool} {Q : Value × List Value → Shared → Prop} (I : Inv X pins σ H s) (e : H a = some (.ins C dx fs)) (c : Cls X.K C) (k : Meth X.K C m g) (l : fs.lookup m = none)
  (h : Q (.ref g,[.ref a]) s) : wpAny (model X.prog X.w) A (getMethod (.ref a) m pl) Q E s:=by
 obtain ⟨mA,O,r,_,_,_⟩:=ins_get I.hok e
 have hn : mA m = none:=RelO.none_of (by rw [← l]; exact r m)
 exact get_meth I.kIn O (c.get m) k.at_ k.fn hn h
theorem setattr_ok {y : V} {u : Value} {Q : Unit → Shared → Prop} (I : Inv X pins σ H s) (e : H a = some (.ins C dx fs)) (c : Cls X.K C) (n : NoAttr X.K C f) (hl : fs.length < 1000) (ry : RelV y u)
  (h : ∀ s',Inv X pins σ (upd H a (.ins C dx (putF f y fs))) s' → Q () s') : wpAny (model X.prog X.w) A (setAttr (.ref a) f u) Q E s:=by
 obtain ⟨mA,O,r,wi,_,ho⟩:=ins_get I.hok e
 have hz : (fs.map (·.1)).length ≤ sizeLine:=by rw [List.length_map,sizeLine_eq]; omega
 refine set_map I.kIn O c.sa c.po n.taker c.hd wi hz fun h' O' sb=>h _ ?_
 have hd : ∃ o,h'.get? dx = some o:=let ⟨o,_,_,e',_⟩:=O'.ns; ⟨o,e'⟩
 refine I.write (x:=a) (e:=dx) (by rw [e]; exact True.intro) (.inr ho) (fun b q hb z=>(sb.2 b hb).trans z) hd ?_
 refine ⟨by rw [upd_ne O.ne]; exact ho,?_,O.ne,O'.obj,_,O'.ns,fun g=>?_,fun g hg=>?_⟩
 ·have:=length_putF f y fs; omega
 ·show RelO ((putF f y fs).lookup g) (if g = f then some u else mA g)
  rw [lookup_putF]
  by_cases q : g = f
  ·rw [if_pos q,if_pos q]; exact ry
  ·rw [if_neg q,if_neg q]; exact r g
 ·by_cases q : g = f
  ·rw [q]; exact (keys_putF f y fs).1
  ·refine (keys_putF f y fs).2 g (wi g fun z=>hg ?_)
   show (if g = f then some u else mA g) = none
   rw [if_neg q]; exact z
theorem Inv.made (I : Inv X pins σ H s) : Inv X pins σ (upd (upd H s.heap.objs.size (.own (s.heap.objs.size + 1))) (s.heap.objs.size + 1) (.ins C s.heap.objs.size []))
  { s with heap:=(s.heap.push PySem.W.emptyDict).push (PySem.W.instObj C s.heap.objs.size) }:=by
 have e1 : (s.heap.push PySem.W.emptyDict).get? s.heap.objs.size = some PySem.W.emptyDict:=Heap.get?_push_size s.heap rfl
 have e2 : ((s.heap.push PySem.W.emptyDict).push (PySem.W.instObj C s.heap.objs.size)).get? (s.heap.objs.size + 1) = some (PySem.W.instObj C s.heap.objs.size):=by
  have:=Heap.get?_push_size (s.heap.push PySem.W.emptyDict) (o:=PySem.W.instObj C s.heap.objs.size) rfl
  rwa [Heap.size_push] at this
 have e3 : (s.heap.push PySem.W.emptyDict).Ns s.heap.objs.size (fun _=>none):=⟨PySem.W.emptyDict,#[],_,e1,rfl,(fun e he=>absurd he (by simp)),fun _=>rfl⟩
 have I1:=I.laid (a:=s.heap.objs.size) (o:=.own (s.heap.objs.size + 1)) (h':=s.heap.push PySem.W.emptyDict) (t':=s.toks) (fun b u q=>Heap.get?_push_of_some _ q) (Nat.le_refl _) ⟨_,e1⟩
 refine I1.laid (a:=s.heap.objs.size + 1) (o:=.ins C s.heap.objs.size []) (t':=s.toks) (fun b u q=>Heap.get?_push_of_some _ q) (Nat.le_of_eq (Heap.size_push _ _)) ?_
 have ne : s.heap.objs.size ≠ s.heap.objs.size + 1:=Nat.ne_of_lt (Nat.lt_succ_self _)
 refine ⟨by rw [upd_ne ne,upd_same],Nat.zero_le _,ne,e2,fun _=>none,(Heap.Ns1.of_empty e3).at fun o q=>Heap.get?_push_of_some _ q,fun _=>True.intro,fun y hy=>absurd rfl hy⟩
theorem attr_of {prog : Program} {w : World} {env : Env} {e : Expr} {f : Str} {pos : Pos} {s : Shared} {Q : Value → Shared → Prop} (hb : attributeBase e f env (eval e env) = eval e env)
  (h : wpAny (model prog w) A (eval e env) (fun o s₁=>wpAny (model prog w) A (getAttr o f true) Q E s₁) E s) : wpAny (model prog w) A (eval (.Attribute e f pos) env) Q E s :=
 Attribute_any_ h (by rw [arm_eval_Attribute,hb])
end
def tFld (K : PySem.W.Frag) (ta : TE) (f : Str) : TE:=fun σ H Q=>ta σ H fun x H1=>∃ a C dx fs v,x = .ref a ∧ H1 a = some (.ins C dx fs) ∧ Cls K C ∧ NoAttr K C f ∧ fs.lookup f = some v ∧ Q v H1
def sFld (K : PySem.W.Frag) (ta tv : TE) (f : Str) : TS:=fun D σ H=>tv σ H fun y H1=>ta σ H1 fun x H2=>∃ a C dx fs,x = .ref a ∧ H2 a = some (.ins C dx fs) ∧ Cls K C ∧ NoAttr K C f ∧ fs.length < 1000 ∧
 D.nx σ (upd H2 a (.ins C dx (putF f y fs)))
def InOp (X : Cx) (op : Operator) (rd : V → V → Hp → VK → Prop) : Prop :=
 ∀ (pins : List (Addr × Obj)) (s : Shared) (σ : St) (H : Hp) (x y : V) (u v : Value) (Q : VK),Inv X pins σ H s → RelV x u → RelV y v → rd x y H Q → wpAny (model X.prog X.w) X.A (inplaceOp op u v) (EP X pins σ Q) X.xe s
def sFldAug (K : PySem.W.Frag) (ta tv : TE) (rd : V → V → Hp → VK → Prop) (f : Str) : TS:=fun D σ H=>ta σ H fun x H1=>∃ a C dx fs v,x = .ref a ∧ H1 a = some (.ins C dx fs) ∧ Cls K C ∧ NoAttr K C f ∧ fs.lookup f = some v ∧
 tv σ H1 fun y H2=>rd v y H2 fun z H3=>∃ dx' fs',H3 a = some (.ins C dx' fs') ∧ fs'.length < 1000 ∧ D.nx σ (upd H3 a (.ins C dx' (putF f z fs')))
section
variable {X : Cx} {o e value : Expr} {f : Str} {pos pos' tpos : Pos} {ta tv : TE}
theorem pe_fld (he : PE X e ta) (hb : attributeBase e f X.env (eval e X.env) = eval e X.env) : PE X (.Attribute e f pos) (tFld X.K ta f):=by
 intro pins s σ H Q I h
 refine attr_of hb (thn (he pins s σ H _ I h) fun u s1 ⟨x,H1,I1,rx,a,C,dx,fs,v,ex,ea,c,n,l,q⟩=>?_)
 subst ex
 obtain rfl : u = Value.ref a:=rx
 exact getattr_ok I1 ea c n l fun u' s2 I2 ru=>⟨v,H1,I2,ru,q⟩
theorem ps_fld (ha : PE X o ta) (hv : PE X value tv) (hs : swapsWith value (some (.Attribute o f pos')) pos.line X.env = pure false) : PS X (.Assign [.Attribute o f pos'] value pos) (sFld X.K ta tv f):=by
 intro pins s σ H D I h
 refine plainObj_wpAny_Assign_Attribute (thn (hv pins s σ H _ I h) fun u s1 ⟨y,H1,I1,ry,q⟩=>thn (ha pins s1 σ H1 _ I1 q) fun ov s2 ⟨x,H2,I2,rx,a,C,dx,fs,ex,ea,c,n,l,q2⟩=>?_) hs
 subst ex
 obtain rfl : ov = Value.ref a:=rx
 exact setattr_ok I2 ea c n l ry fun s3 I3=>⟨σ,_,I3,q2⟩
theorem ps_fldaug {op : Operator} {rd : V → V → Hp → VK → Prop} (ha : PE X o ta) (hv : PE X value tv) (hop : InOp X op rd) : PS X (.AugAssign (.Attribute o f tpos) op value pos) (sFldAug X.K ta tv rd f):=by
 intro pins s σ H D I h
 refine wpAny_AugAssign_AttributeAny (thn (ha pins s σ H _ I h) fun ov s1 ⟨x,H1,I1,rx,a,C,dx,fs,v,ex,ea,c,n,l,q⟩=>?_)
 subst ex
 obtain rfl : ov = Value.ref a:=rx
 refine getattr_ok I1 ea c n l fun u s2 I2 ru=>thn (hv pins s2 σ H1 _ I2 q) fun w3 s3 ⟨y,H2,I3,ry,q3⟩=>thn (hop pins s3 σ H2 v y u w3 _ I3 ru ry q3) fun w4 s4 ⟨z,H3,I4,rz,dx',fs',ea',l',q4⟩=>?_
 exact setattr_ok I4 ea' c n l' rz fun s5 I5=>⟨σ,_,I5,q4⟩
def rAdd : V → V → Hp → VK → Prop:=fun x y H Q=>∃ i j,x = .int i ∧ y = .int j ∧ Q (.int (i + j)) H
theorem in_add : InOp X .Add rAdd:=by
 rintro pins s σ H x y u v Q I rx ry ⟨i,j,rfl,rfl,q⟩
 obtain ⟨t,rfl⟩:=(show ∃ t,u = Value.int i t from rx)
 obtain ⟨t',rfl⟩:=(show ∃ t',v = Value.int j t' from ry)
 exact PyProof.Rows.iadd_int ⟨.int (i + j),H,I.tok _,⟨_,rfl⟩,q⟩
theorem methcall_of {pl : Sem Bool} {m : Str} {apos : Pos} {args : List Expr} {pins : List (Addr × Obj)} {s : Shared} {σ : St} {H : Hp} {Q : Value → Shared → Prop} {te : TE} (he : PE X e te) (I : Inv X pins σ H s)
  (h : te σ H fun x H1=>∃ a C dx fs g,x = .ref a ∧ H1 a = some (.ins C dx fs) ∧ Cls X.K C ∧ Meth X.K C m g ∧ fs.lookup m = none ∧
   ∀ s1,Inv X pins σ H1 s1 → wpAny (model X.prog X.w) X.A (callWith pos (.ref g) [.ref a] (backTo pos (starEach args X.env)) (backToKw pos (keywordEach [] X.env))) Q X.xe s1)
  (ht : eval (.Call (.Attribute e m apos) args [] pos) X.env = (do
   let ov ← eval e X.env
   standAt apos.atName
   let (f,first) ← holding [ov] (getMethod ov m pl)
   callWith pos f first (backTo pos (starEach args X.env)) (backToKw pos (keywordEach [] X.env)))) :
  wpAny (model X.prog X.w) X.A (eval (.Call (.Attribute e m apos) args [] pos) X.env) Q X.xe s:=by
 refine PySem.W.methodCall_KW (pl:=pl) (thn (he pins s σ H _ I h) fun u s1 ⟨x,H1,I1,rx,a,C,dx,fs,g,ex,ea,c,k,l,q⟩=>?_) ht
 subst ex
 obtain rfl : u = Value.ref a:=rx
 exact getmeth_ok I1 ea c k l (q s1 I1)
end
end L2
namespace L2
open PySem PySem.Spec PyProof.Rows
structure Room (k : Nat) (A : Around) : Prop where
 hd : A.handled = none
 dp : A.depth + 3 * k + 5 < recursionLimit
 un : A.units + 16 * k + 200 < cLine
theorem Room.mono {j k : Nat} {A : Around} (r : Room k A) (h : j ≤ k) : Room j A:=⟨r.hd,by have:=r.dp; omega,by have:=r.un; omega⟩
theorem Room.deeper {k : Nat} {A : Around} (r : Room (k + 1) A) (env : Env) : Room k (A.deeper env) :=
 ⟨r.hd,by have:=r.dp; show A.depth + 1 + 3 * k + 5 < _; omega,by have:=r.un; show A.units + 3 + 16 * k + 200 < _; omega⟩
theorem make_depth {A : Around} {C : Addr} {us : List Value} {kw : List (Str × Value)} : (A.under (.builtin "type.__call__" ⟨.ref C :: us,kw⟩)).depth = A.depth + 1:=by
 first | rfl | simp [Around.under,Code.weight,Code.isCreation,Code.isGuard,Code.isCaller,Code.frames,Code.isFrame,guardIds]
theorem make_units {A : Around} {C : Addr} {us : List Value} {kw : List (Str × Value)} : (A.under (.builtin "type.__call__" ⟨.ref C :: us,kw⟩)).units = A.units + 1:=by
 first | rfl | simp [Around.under,Code.cUnits,Code.frames,Code.isFrame]
theorem Room.make {k : Nat} {A : Around} (r : Room (k + 1) A) (C : Addr) (us : List Value) (kw : List (Str × Value)) : Room k (A.under (.builtin "type.__call__" ⟨.ref C :: us,kw⟩)) :=
 ⟨r.hd,by have:=r.dp; rw [make_depth]; omega,by have:=r.un; rw [make_units]; omega⟩
theorem Room.depth {k : Nat} {A : Around} (r : Room k A) : A.depth < recursionLimit:=by have:=r.dp; omega
theorem Room.units {k : Nat} {A : Around} (r : Room k A) : A.units + 64 < cLine:=by have:=r.un; omega
def tNil : TA:=fun _ H Q=>Q [] H
def tCons (ta : TE) (tr : TA) : TA:=fun σ H Q=>ta σ H fun x H1=>tr σ H1 fun xs H2=>Q (x :: xs) H2
section
variable {X : Cx} {e : Expr} {es : List Expr} {te : TE} {t : TA} {pos : Pos}
theorem pa_nil : PA X [] tNil:=fun _ _ _ _ H Q I h=>Calls.spliced_nil ⟨[],H,I,.nil,h⟩
theorem pa_cons (ha : PE X e te) (hr : PA X es t) (hs : starEach (e :: es) X.env = (false,eval e X.env) :: starEach es X.env:=by rfl) : PA X (e :: es) (tCons te t):=by
 intro pos pins s σ H Q I h
 rw [hs]
 show wpAny _ _ (spliced ((false,eval e X.env) :: backTo pos (starEach es X.env))) _ _ s
 refine Calls.spliced_cons (thn (ha pins s σ H _ I h) fun u s1 ⟨x,H1,I1,r1,q1⟩=>?_)
 exact thn (hr pos pins s1 σ H1 _ I1 q1) fun us s2 ⟨xs,H2,I2,r2,q2⟩=>⟨x :: xs,H2,I2,.cons r1 r2,q2⟩
def tTup (t : TA) : TE:=fun σ H Q=>t σ H fun xs H1=>xs.length ≤ sizeLine ∧ ∀ p,H1 p = none → Q (.ref p) (upd H1 p (.tup xs))
def tLst (t : TA) : TE:=fun σ H Q=>t σ H fun xs H1=>xs.length ≤ sizeLine ∧ ∀ p,H1 p = none → Q (.ref p) (upd H1 p (.lst xs))
theorem pe_tup {x1} (h : PA X es t) : PE X (.Tuple es x1 pos) (tTup t):=by
 intro pins s σ H Q I hq
 refine wpAny_Tuple_spliced (thn (h pos pins s σ H _ I hq) fun us s1 ⟨xs,H1,I1,r,z,q⟩=>⟨by rw [← r.length]; exact z,?_⟩)
 have hf : H1 s1.heap.objs.size = none:=I1.hok.fresh (Nat.le_refl _)
 refine ⟨.ref s1.heap.objs.size,upd H1 s1.heap.objs.size (.tup xs),I1.laid (t':=s1.toks) (fun b u e=>Heap.get?_push_of_some _ e) (Nat.le_refl _) ?_,rfl,q _ hf⟩
 exact ⟨z,us,r,⟨_,Heap.get?_push_size _ rfl,rfl,_,rfl⟩⟩
theorem pe_lst (h : PA X es t) : PE X (.List es pos) (tLst t):=by
 intro pins s σ H Q I hq
 refine wpAny_List_spliced (thn (h pos pins s σ H _ I hq) fun us s1 ⟨xs,H1,I1,r,z,q⟩=>⟨by rw [← r.length]; exact z,?_⟩)
 have hf : H1 s1.heap.objs.size = none:=I1.hok.fresh (Nat.le_refl _)
 refine ⟨.ref s1.heap.objs.size,upd H1 s1.heap.objs.size (.lst xs),I1.laid (t':=s1.toks) (fun b u e=>Heap.get?_push_of_some _ e) (Nat.le_refl _) ?_,rfl,q _ hf⟩
 exact ⟨z,us,0,r,Heap.get?_push_size _ rfl⟩
end
abbrev Sp:=List V → Hp → VK → XK → Prop
abbrev CXT:=List Env → Hp → Shared → XK → Value → Shared → Prop
structure Env0 (P : Program) (w : World) (K : PySem.W.Frag) (mg : Str → Option Value) (base : Heap) (A : Around) (outer : List Env) (s : Shared) (H : Hp) : Prop where
 frames : A.frames = some outer
 mod : Mod K mg base
 bs : ∀ b o,base.get? b = some o → s.heap.get? b = some o ∧ H b = none
 bsz : base.objs.size ≤ s.heap.objs.size
 funs : s.heap.FunFrames base outer
 frf : ∀ b ∈ frs outer,H b = none
 hok : HOk P w H s.heap
 bare : AllBare s.gens
def CE (outer : List Env) (P : Program) (w : World) (H : Hp) (s : Shared) (Q : VK) (u : Value) (s' : Shared) : Prop :=
 ∃ v H',s'.os = s.os ∧ AllBare s'.gens ∧ Un (frs outer) [] H H' s.heap s'.heap ∧ HOk P w H' s'.heap ∧ RelV v u ∧ Q v H'
def CR (CX : CXT) (outer : List Env) (P : Program) (w : World) (H : Hp) (s : Shared) (Q : VK) (E : XK) (r : Result) (s' : Shared) : Prop :=
 match r with
 | .ok (.ret u)=>CE outer P w H s Q u s'
 | .ok _=>False
 | .error e=>CX outer H s E e s'
structure FnOk (P : Program) (w : World) (K : PySem.W.Frag) (mg : Str → Option Value) (base : Heap) (CX : CXT) (k : Nat) (f : Addr) (fd : FuncData) (ps : List Str) (sp : Sp) : Prop where
 len : ∀ vs H Q E,sp vs H Q E → vs.length = ps.length
 run : ∀ (A : Around) (outer : List Env) (s : Shared) (H : Hp) (args : Args) (us : List Value) (vs : List V) (Q : VK) (E : XK),Room k A → Env0 P w K mg base A outer s H → BindsTo s fd args (ps.zip us) → Vals vs us → sp vs H Q E →
  codeAny (model P w) A (.call (.ref f) args) (CR CX outer P w H s Q E) s
theorem Env0.make {P : Program} {w : World} {K : PySem.W.Frag} {mg : Str → Option Value} {base : Heap} {A : Around} {outer : List Env} {s : Shared} {H : Hp} (e : Env0 P w K mg base A outer s H) (C : Addr) (us : List Value) (kw : List (Str × Value)) :
  Env0 P w K mg base (A.under (.builtin "type.__call__" ⟨.ref C :: us,kw⟩)) outer s H:=⟨by first | exact e.frames | (simpa [Around.under,Code.envs,Code.isFrame,pushEnvs] using e.frames),e.mod,e.bs,e.bsz,e.funs,e.frf,e.hok,e.bare⟩
section
variable {X : Cx} {pins : List (Addr × Obj)} {σ : St} {H : Hp} {s s' : Shared}
theorem Inv.env0 (I : Inv X pins σ H s) : Env0 X.prog X.w X.K X.mg X.base X.A X.stack s H :=
 ⟨I.ok.frames,I.ok.mod,I.bs,Nat.le_trans I.ok.bsz I.sz,I.stack,I.stkFree,I.hok,I.bare⟩
theorem Inv.after {Q : VK} {u : Value} (I : Inv X pins σ H s) (h : CE X.stack X.prog X.w H s Q u s') : EP X pins σ Q u s':=by
 obtain ⟨v,H',os,bare,un,hok,r,q⟩:=h
 obtain ⟨hh,g,d,t,os'⟩:=s'
 obtain rfl : os' = s.os:=os
 exact ⟨v,H',I.call (h':=hh) (g':=g) (d':=d) (t':=t) (ch:=[]) un hok bare (fun b z=>absurd z (by simp)),r,q⟩
end
def tCall (sp : Sp) (dvs : List V) (E : XK) (t : TA) : TE:=fun σ H Q=>t σ H fun vs H1=>sp (vs ++ dvs) H1 Q E
def tMeth (C : Addr) (m : Str) (sp : Sp) (dvs : List V) (E : XK) (ta : TE) (t : TA) : TE:=fun σ H Q=>ta σ H fun x H1=>∃ a dx fs,x = .ref a ∧ H1 a = some (.ins C dx fs) ∧ fs.lookup m = none ∧
 t σ H1 fun vs H2=>sp (x :: (vs ++ dvs)) H2 Q E
def tMake (C : Addr) (sp : Sp) (dvs : List V) (E : XK) (t : TA) : TE:=fun σ H Q=>t σ H fun vs H1=>∀ x dx,H1 x = none → H1 dx = none → dx ≠ x →
 sp (.ref x :: (vs ++ dvs)) (upd (upd H1 dx (.own x)) x (.ins C dx [])) (fun v H2=>v = .non ∧ Q (.ref x) H2) E
def Binds (K : PySem.W.Frag) (fd : FuncData) (ps : List Str) (ds : List Value) : Prop :=
 ∀ (s : Shared) (us : List Value),K.In s.heap → (us ++ ds).length = ps.length → BindsTo s fd ⟨us,[]⟩ (ps.zip (us ++ ds))
theorem Binds.all {K : PySem.W.Frag} {fd : FuncData} {ps : List Str} (h : ∀ us : List Value,us.length = ps.length → bindArgs fd ⟨us,[]⟩ = pure (ps.zip us)) : Binds K fd ps []:=fun s us _ hl=>by
 rw [List.append_nil] at hl ⊢
 exact .of_eq (h us hl)
def Passes (CX : CXT) (X : Cx) (E : XK) : Prop:=∀ (pins : List (Addr × Obj)) (σ : St) (H : Hp) (s : Shared) (e : Value) (s' : Shared),Inv X pins σ H s → CX X.stack H s E e s' → X.xe e s'
section
variable {X : Cx} {CX : CXT} {k : Nat} {f C : Addr} {fd : FuncData} {ps : List Str} {sp : Sp} {dvs : List V} {ds : List Value} {E : XK} {x m : Str} {p pos apos : Pos} {e o : Expr} {es : List Expr} {ta : TE} {t : TA}
theorem run_fn {pins : List (Addr × Obj)} {σ : St} {H : Hp} {s : Shared} {Q : VK} {us : List Value} {vs : List V} (F : FnOk X.prog X.w X.K X.mg X.base CX k f fd ps sp) (hr : Room k X.A) (hb : Binds X.K fd ps ds) (hd : Vals dvs ds) (hx : Passes CX X E)
  (I : Inv X pins σ H s) (r : Vals vs us) (h : sp (vs ++ dvs) H Q E) : wpAny (model X.prog X.w) X.A (call (.ref f) us) (EP X pins σ Q) X.xe s:=by
 have r2 : Vals (vs ++ dvs) (us ++ ds):=r.append hd
 have hl : (us ++ ds).length = ps.length:=by rw [← r2.length]; exact F.len _ _ _ _ h
 refine wpAny_call (codeAny_mono (F.run X.A X.stack s H ⟨us,[]⟩ (us ++ ds) (vs ++ dvs) Q E hr I.env0 (hb s us I.kIn hl) r2 h) fun r s' hq=>?_)
 cases r with
 | error e=>exact hx pins σ H s e s' I hq
 | ok fl =>
  cases fl with
  | ret u=>exact I.after hq
  | next=>exact False.elim hq
  | brk=>exact False.elim hq
  | cont=>exact False.elim hq
theorem pe_call (F : FnOk X.prog X.w X.K X.mg X.base CX k f fd ps sp) (hr : Room k X.A) (hg : Gl X x) (hm : X.mg x = some (.ref f)) (hk : PySem.W.keepIn X.K (.ref f) = true) (hb : Binds X.K fd ps ds) (hd : Vals dvs ds) (hx : Passes CX X E)
  (ha : PA X (e :: es) t) (hdb : (x == ("__debug__" : Str)) = false:=by decide) (he : starEach (e :: es) X.env = (false,eval e X.env) :: starEach es X.env:=by rfl) (hpl : (backTo pos (starEach es X.env)).any (·.1) = false:=by rfl) :
  PE X (.Call (.Name x p) (e :: es) [] pos) (tCall sp dvs E t):=by
 intro pins s σ H Q I h
 refine wpAny_Call_Name_kw (ld_glob I hg hm ?_ hdb)
 refine PySem.W.callWith_K (h₀:=X.base) I.ok.mod.kin hk (thn (ha pos pins s σ H _ I h) fun us s1 ⟨vs,H1,I1,r,q⟩=>⟨I1.kIn,?_⟩) he hpl
 exact run_fn F hr hb hd hx I1 r q
theorem pe_meth {pl : Sem Bool} (he : PE X o ta) (c : Cls X.K C) (hm : Meth X.K C m f) (F : FnOk X.prog X.w X.K X.mg X.base CX k f fd ps sp) (hr : Room k X.A) (hb : Binds X.K fd ps ds) (hd : Vals dvs ds) (hx : Passes CX X E) (ha : PA X (e :: es) t)
  (hst : starEach (e :: es) X.env = (false,eval e X.env) :: starEach es X.env:=by rfl) (hpl : (backTo pos (starEach es X.env)).any (·.1) = false:=by rfl)
  (ht : eval (.Call (.Attribute o m apos) (e :: es) [] pos) X.env = (do
   let ov ← eval o X.env
   standAt apos.atName
   let (f,first) ← holding [ov] (getMethod ov m pl)
   callWith pos f first (backTo pos (starEach (e :: es) X.env)) (backToKw pos (keywordEach [] X.env))):=by rfl) :
  PE X (.Call (.Attribute o m apos) (e :: es) [] pos) (tMeth C m sp dvs E ta t):=by
 intro pins s σ H Q I h
 refine PySem.W.methodCall_KW (pl:=pl) (thn (he pins s σ H _ I h) fun u s1 ⟨x,H1,I1,rx,a,dx,fs,ex,ea,l,q⟩=>?_) ht
 subst ex
 obtain rfl : u = Value.ref a:=rx
 refine getmeth_ok I1 ea c hm l ?_
 refine PySem.W.callWith_K (first:=[.ref a]) (h₀:=X.base) I.ok.mod.kin hm.kp (thn (ha pos pins s1 σ H1 _ I1 q) fun us s2 ⟨vs,H2,I2,r,q2⟩=>⟨I2.kIn,?_⟩) hst hpl
 exact run_fn (us:=.ref a :: us) (vs:=.ref a :: vs) F hr hb hd hx I2 (.cons rfl r) q2
theorem pe_meth0 {pl : Sem Bool} (he : PE X o ta) (c : Cls X.K C) (hm : Meth X.K C m f) (F : FnOk X.prog X.w X.K X.mg X.base CX k f fd ps sp) (hr : Room k X.A) (hb : Binds X.K fd ps ds) (hd : Vals dvs ds) (hx : Passes CX X E)
  (ht : eval (.Call (.Attribute o m apos) [] [] pos) X.env = (do
   let ov ← eval o X.env
   standAt apos.atName
   let (f,first) ← holding [ov] (getMethod ov m pl)
   callWith pos f first (backTo pos (starEach [] X.env)) (backToKw pos (keywordEach [] X.env))):=by rfl) :
  PE X (.Call (.Attribute o m apos) [] [] pos) (tMeth C m sp dvs E ta tNil):=by
 intro pins s σ H Q I h
 refine PySem.W.methodCall_KW (pl:=pl) (thn (he pins s σ H _ I h) fun u s1 ⟨x,H1,I1,rx,a,dx,fs,ex,ea,l,q⟩=>?_) ht
 subst ex
 obtain rfl : u = Value.ref a:=rx
 refine getmeth_ok I1 ea c hm l ?_
 exact PySem.W.callWith_K0 (first:=[.ref a]) I1.kIn hm.kp (run_fn (us:=[.ref a]) (vs:=[.ref a]) F hr hb hd hx I1 (.cons rfl .nil) q)
structure Mk (K : PySem.W.Frag) (C f : Addr) : Prop where
 makes : PySem.W.makesIn K C = true
 init : PySem.W.findIn K (.ref C) "__init__" = some (some (.ref f))
 fn : PySem.W.isFn K (.ref f) = true
 kp : PySem.W.keepIn K (.ref C) = true
theorem run_make {pins : List (Addr × Obj)} {σ : St} {H : Hp} {s : Shared} {Q : VK} {us : List Value} {vs : List V} (M : Mk X.K C f) (F : FnOk X.prog X.w X.K X.mg X.base CX k f fd ps sp) (hr : Room (k + 1) X.A) (hb : Binds X.K fd ps ds) (hd : Vals dvs ds)
  (hx : Passes CX X E) (I : Inv X pins σ H s) (r : Vals vs us)
  (h : ∀ x dx,H x = none → H dx = none → dx ≠ x → sp (.ref x :: (vs ++ dvs)) (upd (upd H dx (.own x)) x (.ins C dx [])) (fun v H2=>v = .non ∧ Q (.ref x) H2) E) :
  wpAny (model X.prog X.w) X.A (call (.ref C) us) (EP X pins σ Q) X.xe s:=by
 have hq:=h (s.heap.objs.size + 1) s.heap.objs.size (I.hok.fresh (Nat.le_succ _)) (I.hok.fresh (Nat.le_refl _)) (Nat.ne_of_lt (Nat.lt_succ_self _))
 have I2:=Inv.made (C:=C) I
 have r2 : Vals (V.ref (s.heap.objs.size + 1) :: (vs ++ dvs)) (Value.ref (s.heap.objs.size + 1) :: (us ++ ds)):=.cons rfl (r.append hd)
 have hl : (Value.ref (s.heap.objs.size + 1) :: us ++ ds).length = ps.length:=by
  have e:=r2.length
  rw [F.len _ _ _ _ hq] at e
  exact e.symm
 refine wpAny_call (make_map (f:=f) I.kIn M.makes M.init (beq_iff_eq.mp M.fn) (codeAny_mono (F.run _ X.stack _ _ ⟨Value.ref (s.heap.objs.size + 1) :: us,[]⟩ (Value.ref (s.heap.objs.size + 1) :: (us ++ ds)) _ _ E (hr.make C us [])
  (I2.env0.make C us []) (hb _ (Value.ref (s.heap.objs.size + 1) :: us) I2.kIn hl) r2 hq) fun r s' hq'=>?_))
 cases r with
 | error e=>exact hx pins σ _ _ e s' I2 hq'
 | ok fl =>
  cases fl with
  | ret u =>
   obtain ⟨v,H',I3,rv,ev,q3⟩:=I2.after hq'
   subst ev
   exact ⟨rv,⟨V.ref (s.heap.objs.size + 1),H',I3,rfl,q3⟩⟩
  | next=>exact False.elim hq'
  | brk=>exact False.elim hq'
  | cont=>exact False.elim hq'
theorem pe_make (M : Mk X.K C f) (F : FnOk X.prog X.w X.K X.mg X.base CX k f fd ps sp) (hr : Room (k + 1) X.A) (hg : Gl X x) (hm : X.mg x = some (.ref C)) (hb : Binds X.K fd ps ds) (hd : Vals dvs ds) (hx : Passes CX X E)
  (ha : PA X (e :: es) t) (hdb : (x == ("__debug__" : Str)) = false:=by decide) (he : starEach (e :: es) X.env = (false,eval e X.env) :: starEach es X.env:=by rfl) (hpl : (backTo pos (starEach es X.env)).any (·.1) = false:=by rfl) :
  PE X (.Call (.Name x p) (e :: es) [] pos) (tMake C sp dvs E t):=by
 intro pins s σ H Q I h
 refine wpAny_Call_Name_kw (ld_glob I hg hm ?_ hdb)
 refine PySem.W.callWith_K (h₀:=X.base) I.ok.mod.kin M.kp (thn (ha pos pins s σ H _ I h) fun us s1 ⟨vs,H1,I1,r,q⟩=>⟨I1.kIn,?_⟩) he hpl
 exact run_make M F hr hb hd hx I1 r q
theorem pe_make0 (M : Mk X.K C f) (F : FnOk X.prog X.w X.K X.mg X.base CX k f fd ps sp) (hr : Room (k + 1) X.A) (hg : Gl X x) (hm : X.mg x = some (.ref C)) (hb : Binds X.K fd ps ds) (hd : Vals dvs ds) (hx : Passes CX X E)
  (hdb : (x == ("__debug__" : Str)) = false:=by decide) : PE X (.Call (.Name x p) [] [] pos) (tMake C sp dvs E tNil):=by
 intro pins s σ H Q I h
 refine wpAny_Call_Name_kw (ld_glob I hg hm ?_ hdb)
 exact PySem.W.callWith_K0 I.kIn M.kp (run_make (us:=[]) M F hr hb hd hx I .nil h)
end
def PK (X : Cx) (kws : List Keyword) (t : TA) : Prop :=
 ∀ (pos : Pos) (pins : List (Addr × Obj)) (s : Shared) (σ : St) (H : Hp) (Q : List V → Hp → Prop),Inv X pins σ H s → t σ H Q → wpAny (model X.prog X.w) X.A (evalAll ((backToKw pos (keywordEach kws X.env)).map (·.2))) (AP X pins σ Q) X.xe s
section
variable {X : Cx} {CX : CXT} {k : Nat} {f C : Addr} {fd : FuncData} {ps ks : List Str} {sp : Sp} {E : XK} {x m : Str} {p pos apos kpos : Pos} {e o : Expr} {es : List Expr} {kws : List Keyword} {te ta : TE} {t tk : TA} {nm : Option Str}
theorem pk_nil : PK X [] tNil:=fun _ _ _ _ H Q I h=>wpAny_evalAll_nil ⟨[],H,I,.nil,h⟩
theorem pk_cons (ha : PE X e te) (hr : PK X kws t) : PK X (⟨nm,e,kpos⟩ :: kws) (tCons te t):=by
 intro pos pins s σ H Q I h
 show wpAny _ _ (evalAll ((do let v ← eval e X.env; standAt pos; pure v) :: (backToKw pos (keywordEach kws X.env)).map (·.2))) _ _ s
 refine wpAny_evalAll_cons (wpAny_bind (thn (ha pins s σ H _ I h) fun u s1 ⟨x,H1,I1,r1,q1⟩=>wpAny_bind (wpAny_standAt (wpAny_pure ?_))))
 exact thn (hr pos pins s1 σ H1 _ I1 q1) fun us s2 ⟨xs,H2,I2,r2,q2⟩=>⟨x :: xs,H2,I2,.cons r1 r2,q2⟩
variable {g : List Value → List Value → List Value} {gV : List V → List V → List V}
end
structure FnScope (N P : List Str) (sc : Scope) : Prop where
 kind : sc.kind = .function
 co : sc.isCoroutine = false
 gen : sc.isGenerator = false
 nd : N.Nodup
 pre : N.take P.length = P
 par : ∀ x ∈ P,sc.names.lookup x = some .local ∨ sc.names.lookup x = some .cell
 nofree : ∀ y ∈ sc.names,y.2 ≠ .free
theorem bindL_out {kindOf : Str → Option NameKind} {x : Str} : ∀ {binds : List (Str × Value)} {m : Str → Option Value},(∀ v,(x,v) ∉ binds) → bindL kindOf binds m x = m x
 | [],_,_=>rfl
 | (n,v) :: r,m,h=>by
  unfold bindL
  rw [bindL_out fun w hw=>h w (List.mem_cons_of_mem _ hw)]
  split
  ·have : x ≠ n:=by rintro rfl; exact h v List.mem_cons_self
   simp [this]
  ·rfl
theorem bindC_out {kindOf : Str → Option NameKind} {x : Str} : ∀ {binds : List (Str × Value)} {m : Str → Option Value},(∀ v,(x,v) ∉ binds) → bindC kindOf binds m x = m x
 | [],_,_=>rfl
 | (n,v) :: r,m,h=>by
  unfold bindC
  rw [bindC_out fun w hw=>h w (List.mem_cons_of_mem _ hw)]
  split
  ·rfl
  ·have : x ≠ n:=by rintro rfl; exact h v List.mem_cons_self
   simp [this]
theorem bindL_get {kindOf : Str → Option NameKind} {x : Str} {v : Value} : ∀ {P : List Str} {vs : List Value} {i : Nat} {m : Str → Option Value},P.Nodup → P[i]? = some x → vs[i]? = some v → kindOf x = some .local →
  bindL kindOf (P.zip vs) m x = some v
 | [],_,_,_,_,h,_,_=>by simp at h
 | _ :: _,[],_,_,_,_,h,_=>by simp at h
 | p :: P,w :: vs,0,m,nd,h1,h2,hk=>by
  simp at h1 h2; subst h1; subst h2
  show bindL kindOf ((p,w) :: P.zip vs) m p = _
  unfold bindL
  rw [bindL_out fun v hv=>(List.nodup_cons.mp nd).1 (List.of_mem_zip hv).1,if_pos hk]
  simp
 | p :: P,w :: vs,i + 1,m,nd,h1,h2,hk=>by
  show bindL kindOf ((p,w) :: P.zip vs) m x = _
  unfold bindL
  exact bindL_get (i:=i) (List.nodup_cons.mp nd).2 (by simpa using h1) (by simpa using h2) hk
theorem bindC_get {kindOf : Str → Option NameKind} {x : Str} {v : Value} : ∀ {P : List Str} {vs : List Value} {i : Nat} {m : Str → Option Value},P.Nodup → P[i]? = some x → vs[i]? = some v → kindOf x ≠ some .local →
  bindC kindOf (P.zip vs) m x = some v
 | [],_,_,_,_,h,_,_=>by simp at h
 | _ :: _,[],_,_,_,_,h,_=>by simp at h
 | p :: P,w :: vs,0,m,nd,h1,h2,hk=>by
  simp at h1 h2; subst h1; subst h2
  show bindC kindOf ((p,w) :: P.zip vs) m p = _
  unfold bindC
  rw [bindC_out fun v hv=>(List.nodup_cons.mp nd).1 (List.of_mem_zip hv).1,if_neg hk]
  simp
 | p :: P,w :: vs,i + 1,m,nd,h1,h2,hk=>by
  show bindC kindOf ((p,w) :: P.zip vs) m x = _
  unfold bindC
  exact bindC_get (i:=i) (List.nodup_cons.mp nd).2 (by simpa using h1) (by simpa using h2) hk
def start (N : List Str) (vs : List V) : St:=vs.map some ++ List.replicate (N.length - vs.length) none
def cxOf (CX : CXT) (P : Program) (w : World) (K : PySem.W.Frag) (mg : Str → Option Value) (base : Heap) (N : List Str) (qual : Str) (scope : Scope) (f : Addr) (cd : Value) (A : Around) (outer : List Env) (s : Shared) (H : Hp) (E : XK) : Cx where
 prog:=P
 w:=w
 K:=K
 mg:=mg
 base:=base
 A:=A.deeper (envOfC qual scope s.heap.objs.size f cd)
 N:=N
 s_0:=s
 H_0:=H
 env:=envOfC qual scope s.heap.objs.size f cd
 outer:=outer
 stack:=envOfC qual scope s.heap.objs.size f cd :: outer
 ex:=[]
 calm:=true
 fn:=fun _=>true
 pn:=[]
 xe:=fun e s'=>wpAny (model P w) (A.deeper (envOfC qual scope s.heap.objs.size f cd)) (leaving (envOfC qual scope s.heap.objs.size f cd) e) (fun _ s''=>CX outer H s E e s'') (fun e' s''=>CX outer H s E e' s'') s'
theorem cell_has {sc : Scope} {n : Nat} {x : Str} (h : sc.names.lookup x = some .cell) : ∃ c,(cellsFrom n sc.names []).lookup x = some c:=by
 have q:=PySem.W.cellsFrom_some sc.names n [] (.inl h)
 exact Option.isSome_iff_exists.mp q
theorem inv_start {CX : CXT} {P : Program} {w : World} {K : PySem.W.Frag} {mg : Str → Option Value} {base : Heap} {N ps : List Str} {qual : Str} {scope : Scope} {f : Addr} {cd : Value} {A : Around} {outer : List Env} {s s1 : Shared} {H : Hp} {E : XK} {us : List Value} {vs : List V}
  (S : FnScope N ps scope) (hd : A.handled = none) (e0 : Env0 P w K mg base A outer s H) (hl : vs.length = ps.length) (r : Vals vs us)
  (x : InCallC s s.heap.objs.size (bindL (envOfC qual scope s.heap.objs.size f cd).kindOf (ps.zip us) fun _=>none) (cellsFrom (s.heap.objs.size + 1) scope.names []) (bindC (envOfC qual scope s.heap.objs.size f cd).kindOf (ps.zip us) fun _=>none) s1) :
  Inv (cxOf CX P w K mg base N qual scope f cd A outer s H E) [] (start N vs) H s1:=by
 have hpl : ps.length ≤ N.length:=by have:=congrArg List.length S.pre; rw [List.length_take] at this; omega
 obtain ⟨h1,tk,rfl,hk⟩:=x.done
 have noA : ∀ b : Addr,b ∉ (cxOf CX P w K mg base N qual scope f cd A outer s H E).ex:=fun b z=>absurd (show b ∈ ([] : List Addr) from z) (by simp)
 refine ⟨⟨e0.mod,S.kind,rfl,rfl,Nat.le_refl _,fun y z c h1 h2=>?_,fun y hy=>?_,fun y c _ h=>?_,fun _=>hd,Around.frames_deeper e0.frames,.inr ⟨rfl,rfl⟩,fun b z=>absurd z (noA b),e0.bs,e0.bsz,fun b _ _=>noA b,fun b z=>absurd z (noA b),e0.funs,e0.frf⟩,
  rfl,e0.bare,Un.kept hk,⟨_,x.toInCall.ns,fun i y v h1 h2 h3=>?_⟩,fun y c h=>⟨_,x.cell y c h⟩,e0.hok.fresh (Nat.le_refl _),fun y c h=>?_,fun p hp=>absurd (show p ∈ ([] : List (Addr × Obj)) from hp) (by simp),e0.hok.kept hk,?_⟩
 ·exact name_of_addr x.apart (PySem.mem_of_lookup h1) (PySem.mem_of_lookup h2)
 ·have hy : scope.names.lookup y = some .cell ∨ scope.names.lookup y = some .free:=hy
  rcases hy with hy | hy
  ·exact cell_has hy
  ·exact absurd rfl (S.nofree _ (PySem.mem_of_lookup hy))
 ·exact Nat.le_of_lt (x.above y c (PySem.mem_of_lookup h))
 ·have hi : i < vs.length:=by
   unfold start at h2
   by_cases hi : i < vs.length
   ·exact hi
   ·rw [List.getElem?_append_right (by simpa using hi)] at h2
    rw [List.getElem?_replicate] at h2
    split at h2 <;> cases h2
  have ha : vs[i]? = some v:=by
   unfold start at h2
   rw [List.getElem?_append_left (by simpa using hi),List.getElem?_map] at h2
   cases e : vs[i]? with
   | none=>rw [e] at h2; cases h2
   | some a=>rw [e] at h2; cases h2; rfl
  obtain ⟨u,hu,rv⟩:=r.get ha
  have hp : ps[i]? = some y:=by
   rw [← S.pre,List.getElem?_take_of_lt (by omega)]; exact h1
  have ndP : ps.Nodup:=by rw [← S.pre]; exact S.nd.sublist (List.take_sublist _ _)
  refine ⟨u,rv,?_⟩
  rcases S.par y (List.mem_of_getElem? hp) with k | k
  ·exact .inl ⟨k,bindL_get ndP hp hu k⟩
  ·obtain ⟨c,e⟩:=cell_has (n:=s.heap.objs.size + 1) k
   refine .inr ⟨.inl k,c,e,?_⟩
   have q:=x.cell y c e
   rw [bindC_get ndP hp hu (by show scope.names.lookup y ≠ _; rw [k]; decide)] at q
   exact q
 ·exact e0.hok.fresh (Nat.le_of_lt (x.above y c (PySem.mem_of_lookup h)))
 ·unfold start
  show _ = N.length
  rw [List.length_append,List.length_map,List.length_replicate]
  omega
theorem fn_of {CX : CXT} {P : Program} {w : World} {K : PySem.W.Frag} {mg : Str → Option Value} {base : Heap} {k : Nat} {f : Addr} {name qual : Str} {params : Arguments} {body : List Stmt} {scope : Scope} {dV kV doc pm cdv ct oc : Value} {an od : Option Addr}
  {osl : Array (Option Value)} {N ps : List Str} {sp : Sp} (lk : K.lookup f = some ⟨oc,od,.func (PySem.W.fnOf name qual params body scope dV kV doc pm an cdv ct),osl⟩) (hcd : PySem.W.codeIn K cdv qual = true) (S : FnScope N ps scope)
  (len : ∀ vs H Q E,sp vs H Q E → vs.length = ps.length)
  (hbody : ∀ (A : Around) (outer : List Env) (s : Shared) (H : Hp) (vs : List V) (Q : VK) (E : XK),Room k (A.deeper (envOfC qual scope s.heap.objs.size f cdv)) → sp vs H Q E →
   ∃ t,PSs (cxOf CX P w K mg base N qual scope f cdv A outer s H E) body t ∧ t { nx:=fun _ H'=>Q .non H',rt:=Q } (start N vs) H) :
  FnOk P w K mg base CX (k + 1) f (PySem.W.fnOf name qual params body scope dV kV doc pm an cdv ct) ps sp:=by
 refine ⟨len,fun A outer s H args us vs Q E hr e0 hb r hsp=>?_⟩
 have hl:=len _ _ _ _ hsp
 have KX : K.In s.heap:=e0.mod.kin.keeps fun b o e=>(e0.bs b o e).1
 have lim : s.heap.NoLimit:=e0.mod.nolimit.keeps fun b o e=>(e0.bs b o e).1
 have hkind : ∀ y ∈ ps.zip us,scope.names.lookup y.1 = some .local ∨ (scope.names.lookup y.1 = some .cell ∧ ((cellsFrom (s.heap.objs.size + 1) scope.names []).lookup y.1).isSome = true):=fun ⟨n,v⟩ hy=>by
  rcases S.par n (List.of_mem_zip hy).1 with q | q
  ·exact .inl q
  ·exact .inr ⟨q,PySem.W.cellsFrom_some _ _ _ (.inl q)⟩
 refine codeAny_call_function hr.depth (KX _ _ lk) rfl S.co S.gen rfl (PySem.W.codeRec_of KX hcd) (hb _ _ _ _ ?_)
 refine wpAny_newFunctionEnv_cells S.kind hkind fun env he s1 x=>?_
 subst he
 refine ⟨lim.keeps x.toInCall.keep,codeAny_func ?_⟩
 obtain ⟨t,ht,hq⟩:=hbody A outer s H vs Q E (hr.deeper _) hsp
 have I : Inv (cxOf CX P w K mg base N qual scope f cdv A outer s H E) [] (start N vs) H s1:=inv_start S hr.hd e0 hl r x
 refine wpAny_mono (ht [] s1 (start N vs) H _ I hq) (fun fl s' hs=>?_) fun e s' hs=>hs
 have fin : ∀ {σ' : St} {H' : Hp} {v : V} {u : Value},Inv (cxOf CX P w K mg base N qual scope f cdv A outer s H E) [] σ' H' s' → RelV v u → Q v H' → CE outer P w H s Q u s' :=
  fun {σ' H' v u} J rv q=>⟨v,H',J.os,J.bare,J.base,J.hok,rv,q⟩
 cases fl with
 | ret u =>
  obtain ⟨v,σ',H',J,rv,q⟩:=hs
  exact fin J rv q
 | next =>
  obtain ⟨σ',H',J,q⟩:=hs
  exact fin (v:=V.non) (u:=Value.none) J rfl q
 | brk =>
  obtain ⟨_,_,_,q⟩:=hs
  exact False.elim q
 | cont =>
  obtain ⟨_,_,_,q⟩:=hs
  exact False.elim q
end L2
namespace L2
open PySem PySem.Spec PyProof.Rows
section
variable {X : Cx} {x : Str} {p pos : Pos} {e : Expr} {es : List Expr} {t : TA} {id T : String} {r : List V → Hp → VK → Prop}
def tCB (r : List V → Hp → VK → Prop) (t : TA) : TE:=fun σ H Q=>t σ H fun vs H1=>r vs H1 Q
theorem pe_callB (hc : CallR X (.builtin id) r) (hg : Gl X x) (hm : X.mg x = none) (hv : bootBuiltins x = some (.builtin id)) (ha : PA X (e :: es) t) (hn : x ≠ "__name__":=by decide) (hdb : (x == ("__debug__" : Str)) = false:=by decide)
  (he : starEach (e :: es) X.env = (false,eval e X.env) :: starEach es X.env:=by rfl) (hpl : (backTo pos (starEach es X.env)).any (·.1) = false:=by rfl) : PE X (.Call (.Name x p) (e :: es) [] pos) (tCB r t):=by
 intro pins s σ H Q I h
 refine wpAny_Call_Name_kw (ld_blt I hg hm hv ?_ hn hdb)
 exact PyProof.Rows.callWith_builtin1 (thn (ha pos pins s σ H _ I h) fun us s1 ⟨vs,H1,I1,r1,q1⟩=>hc pins s1 σ H1 vs us Q I1 r1 q1) he hpl
theorem pe_callTy (hc : CallR X (.type T) r) (hg : Gl X x) (hm : X.mg x = none) (hv : bootBuiltins x = some (.type T)) (ha : PA X (e :: es) t) (hn : x ≠ "__name__":=by decide) (hdb : (x == ("__debug__" : Str)) = false:=by decide)
  (he : starEach (e :: es) X.env = (false,eval e X.env) :: starEach es X.env:=by rfl) (hpl : (backTo pos (starEach es X.env)).any (·.1) = false:=by rfl) : PE X (.Call (.Name x p) (e :: es) [] pos) (tCB r t):=by
 intro pins s σ H Q I h
 refine wpAny_Call_Name_kw (ld_blt I hg hm hv ?_ hn hdb)
 exact PyProof.Rows.callWith_type1 (thn (ha pos pins s σ H _ I h) fun us s1 ⟨vs,H1,I1,r1,q1⟩=>hc pins s1 σ H1 vs us Q I1 r1 q1) he hpl
end
end L2
namespace HT
open PySem PyProof.Rows
section
variable {prog : Program} {w : World} {A : Around} {E : Value → Shared → Prop} {s : Shared}
def sIx (n d : Nat) : Option Int → Nat
 | none=>d
 | some v=>if v < 0 then (v + (n : Int)).toNat else min v.toNat n
theorem sIx_none (n d : Nat) : sIx n d none = d:=rfl
theorem sIx_nat (n d k : Nat) : sIx n d (some (k : Int)) = min k n:=by
 show (if (k : Int) < 0 then ((k : Int) + (n : Int)).toNat else min (k : Int).toNat n) = min k n
 rw [if_neg (by omega),Int.toNat_natCast]
end
end HT
namespace L2
open PySem PySem.Spec PyProof.Rows
abbrev TO:=St → Hp → (Option Int → Hp → Prop) → Prop
def PO (X : Cx) (e : Option Expr) (t : TO) : Prop :=
 ∀ (pins : List (Addr × Obj)) (s : Shared) (σ : St) (H : Hp) (Q : Option Int → Hp → Prop),Inv X pins σ H s → t σ H Q →
  wpAny (model X.prog X.w) X.A (evalPart e X.env) (fun u s'=>∃ o H',Inv X pins σ H' s' ∧ IsPart u o ∧ Q o H') X.xe s
def tNoPart : TO:=fun _ H Q=>Q none H
def tPart (t : TE) : TO:=fun σ H Q=>t σ H fun x H1=>∃ i,x = .int i ∧ Q (some i) H1
section
variable {X : Cx} {e : Expr} {te : TE} {lo hi : Option Expr} {tl th : TO} {pos p2 : Pos}
theorem po_none : PO X none tNoPart:=by
 intro pins s σ H Q I h
 rw [evalPart_none]
 exact wpAny_pure ⟨none,H,I,.none,h⟩
theorem po_some (h : PE X e te) : PO X (some e) (tPart te):=by
 intro pins s σ H Q I hw
 rw [evalPart_some]
 refine thn (h pins s σ H _ I hw) fun u s1 ⟨x,H1,I1,r1,q1⟩=>?_
 obtain ⟨i,rfl,q⟩:=q1
 obtain ⟨t,rfl⟩:=r1
 exact ⟨some i,H1,I1,.int i t,q⟩
def SlR (X : Cx) (r : V → Option Int → Option Int → Hp → VK → Prop) : Prop :=
 ∀ (pins : List (Addr × Obj)) (s : Shared) (σ : St) (H : Hp) (x : V) (v vl vu : Value) (lo hi : Option Int) (sl : Addr) (Q : VK),Inv X pins σ H s → RelV x v → s.heap.IsSliceOf sl vl vu .none → IsPart vl lo → IsPart vu hi → r x lo hi H Q →
  ∃ T id,typeLookup (.type T) "__getitem__" = pure (some (.builtin id)) ∧ s.TypeIs v T ∧ wpAny (model X.prog X.w) X.A (getItem v (.ref sl)) (EP X pins σ Q) X.xe s
def tSl (r : V → Option Int → Option Int → Hp → VK → Prop) (te : TE) (tl th : TO) : TE:=fun σ H Q=>te σ H fun x H1=>tl σ H1 fun l H2=>th σ H2 fun u H3=>r x l u H3 Q
theorem pe_slice {r : V → Option Int → Option Int → Hp → VK → Prop} (hr : SlR X r) (he : PE X e te) (hl : PO X lo tl) (hu : PO X hi th) : PE X (.Subscript e (.Slice lo hi none p2) pos) (tSl r te tl th):=by
 intro pins s σ H Q I h
 refine Subscript_ (thn (he pins s σ H _ I h) fun v s1 ⟨x,H1,I1,r1,q1⟩=>?_)
 refine wpAny_Slice (thn (hl pins s1 σ H1 _ I1 q1) fun vl s2 ⟨l,H2,I2,pl,q2⟩=>thn (hu pins s2 σ H2 _ I2 q2) fun vu s3 ⟨u,H3,I3,pu,q3⟩=>?_)
 rw [evalPart_none]
 refine wpAny_pure ?_
 have I4 : Inv X pins σ H3 { s3 with heap:=s3.heap.push { cls:=.type "slice",data:=.fields #[vl,vu,.none] } }:=I3.kept (t':=s3.toks) fun b ob q=>Heap.get?_push_of_some _ q
 obtain ⟨T,id,hT,ht,hg⟩:=hr pins { s3 with heap:=s3.heap.push { cls:=.type "slice",data:=.fields #[vl,vu,.none] } } σ H3 x v vl vu l u s3.heap.objs.size Q I4 r1 (Heap.IsSliceOf.new ..) pl pu q3
 show wpAny (model X.prog X.w) X.A (subscriptTail e (.Slice lo hi none p2) v (.ref s3.heap.objs.size)) (EP X pins σ Q) X.xe { s3 with heap:=s3.heap.push { cls:=.type "slice",data:=.fields #[vl,vu,.none] } }
 exact tail_any (ops:=[.ref s3.heap.objs.size,v]) ht hT hg (by with_unfolding_all rfl)
def cutV (xs : List V) (lo hi : Option Int) : List V:=(xs.drop (HT.sIx xs.length 0 lo)).take (HT.sIx xs.length xs.length hi - HT.sIx xs.length 0 lo)
theorem cutV_length (xs : List V) (lo hi : Option Int) : (cutV xs lo hi).length ≤ xs.length:=by
 unfold cutV
 rw [List.length_take,List.length_drop]
 omega
end
end L2
namespace L2
open PySem PySem.Spec PyProof.Rows
def ixN (n : Nat) (i : Int) : Option Nat:=if 0 ≤ i then (if i < n then some i.toNat else none) else if -(n : Int) ≤ i then some (i + n).toNat else none
def atI {α : Type} (xs : List α) (i : Int) : Option α:=(ixN xs.length i).bind fun j=>xs[j]?
theorem ixN_seq {n : Nat} {i : Int} {j : Nat} (h : ixN n i = some j) : seqIndex? i n = some j ∧ j < n ∧ -(n : Int) ≤ i ∧ i < n:=by
 unfold ixN at h
 by_cases h0 : 0 ≤ i
 ·rw [if_pos h0] at h
  by_cases h1 : i < n
  ·rw [if_pos h1] at h
   have e : i.toNat = j:=Option.some.inj h
   exact ⟨by rw [seqIndex_of h0 h1,e],by omega,by omega,h1⟩
  ·rw [if_neg h1] at h; cases h
 ·rw [if_neg h0] at h
  by_cases h1 : -(n : Int) ≤ i
  ·rw [if_pos h1] at h
   have e : (i + n).toNat = j:=Option.some.inj h
   exact ⟨by rw [seqIndex_neg (by omega) h1,e],by omega,h1,by omega⟩
  ·rw [if_neg h1] at h; cases h
theorem atI_get {α : Type} {xs : List α} {i : Int} {v : α} (h : atI xs i = some v) : ∃ j,seqIndex? i xs.length = some j ∧ xs[j]? = some v ∧ j < xs.length ∧ -(xs.length : Int) ≤ i ∧ i < xs.length:=by
 unfold atI at h
 cases e : ixN xs.length i with
 | none=>rw [e] at h; cases h
 | some j =>
  rw [e] at h
  obtain ⟨h1,h2,h3,h4⟩:=ixN_seq e
  exact ⟨j,h1,h,h2,h3,h4⟩
theorem atI_nat {α : Type} {xs : List α} {j : Nat} {v : α} (h : xs[j]? = some v) : atI xs (j : Int) = some v:=by
 have hj : j < xs.length:=(List.getElem?_eq_some_iff.mp h).1
 have e : ixN xs.length (j : Int) = some j:=by
  unfold ixN
  rw [if_pos (by omega),if_pos (by omega)]; simp
 unfold atI; rw [e]; exact h
def PlainIx (b : Expr) : Prop:=∀ o i,subscripted b false o i = operate [o,i] (getItem o i)
def IxR (X : Cx) (r : R2) : Prop :=
 ∀ (value slice : Expr) (pins : List (Addr × Obj)) (s : Shared) (σ : St) (H : Hp) (x y : V) (v u : Value) (Q : VK),Inv X pins σ H s → RelV x v → RelV y u → r x y H Q →
  subscripted slice false v u = operate [v,u] (getItem v u) → wpAny (model X.prog X.w) X.A (subscriptTail value slice v u) (EP X pins σ Q) X.xe s
def MtR (X : Cx) (id : String) (r : V → List V → Hp → VK → Prop) : Prop :=
 ∀ (pins : List (Addr × Obj)) (s : Shared) (σ : St) (H : Hp) (x : V) (xs : List V) (v : Value) (us : List Value) (Q : VK),Inv X pins σ H s → RelV x v → Vals xs us → r x xs H Q →
  wpAny (model X.prog X.w) X.A (call (.builtin id) (v :: us)) (EP X pins σ Q) X.xe s
section
variable {X : Cx} {a b : Expr} {ta tb : TE} {pos : Pos}
theorem IxR.or {r r' : R2} (h : IxR X r) (h' : IxR X r') : IxR X (fun x y H Q=>r x y H Q ∨ r' x y H Q):=by
 intro value slice pins s σ H x y v u Q I rx ry q hs
 rcases q with q | q
 ·exact h value slice pins s σ H x y v u Q I rx ry q hs
 ·exact h' value slice pins s σ H x y v u Q I rx ry q hs
theorem pe_ix {r : R2} (hr : IxR X r) (ha : PE X a ta) (hb : PE X b tb) (hs : PlainIx b) : PE X (.Subscript a b pos) (tOp r ta tb):=by
 intro pins s σ H Q I h
 exact Subscript_ (binT ha hb I h fun v u s2 x y H2 I2 rx ry q=>hr a b pins s2 σ H2 x y v u Q I2 rx ry q (hs _ _))
def rIxL (K : PySem.W.Frag) : R2:=fun x y H Q=>∃ p xs i v,x = .ref p ∧ y = .int i ∧ SqL K H p xs ∧ atI xs i = some v ∧ Q v H
def rIxT (K : PySem.W.Frag) : R2:=fun x y H Q=>∃ p xs i v,x = .ref p ∧ y = .int i ∧ SqT K H p xs ∧ atI xs i = some v ∧ Q v H
def rIxS : R2:=fun x y H Q=>∃ z i c,x = .str z ∧ y = .int i ∧ z.length ≤ sizeLine ∧ atI z.cps.toList i = some c ∧ Q (.str ⟨#[c]⟩) H
theorem ix_list : IxR X (rIxL X.K):=by
 intro value slice pins s σ H x y v u Q I rx ry h hs
 obtain ⟨p,xs,i,z,rfl,rfl,hq,he,q⟩:=h
 cases rx
 obtain ⟨t,rfl⟩:=ry
 obtain ⟨its,r,pl,hz⟩:=I.list hq
 obtain ⟨j,h1,h2,h3,h4,h5⟩:=atI_get he
 obtain ⟨w,ew,rw'⟩:=r.get h2
 have hl:=r.length
 have hn:=line63
 have fin : EP X pins σ Q w s:=⟨z,H,I,rw',q⟩
 by_cases h0 : 0 ≤ i
 ·have hj : i.toNat = j:=by
   rw [seqIndex_of h0 h5] at h1
   exact Option.some.inj h1
  exact item_listR pl.isList h0 (by omega) (by rw [hj]; simpa using ew) fin hs
 ·have hj : (i + (its.toArray.size : Int)).toNat = j:=by
   rw [seqIndex_neg (by omega) h4] at h1
   rw [List.size_toArray,← hl]
   exact Option.some.inj h1
  exact subscriptTail_builtinR (x:=w) pl.isList.typeIs slot_list_getitem.lookup
   (wpAny_getItem_list_neg (Q:=fun r s'=>r = w ∧ EP X pins σ Q r s') pl.isList (by omega) (by rw [List.size_toArray] <;> omega) (by omega) (by rw [hj]; simpa using ew) ⟨rfl,fin⟩) hs
theorem ix_tup : IxR X (rIxT X.K):=by
 intro value slice pins s σ H x y v u Q I rx ry h hs
 obtain ⟨p,xs,i,z,rfl,rfl,hq,he,q⟩:=h
 cases rx
 obtain ⟨t,rfl⟩:=ry
 obtain ⟨its,r,pl,hz⟩:=I.tuple hq
 obtain ⟨j,h1,h2,h3,h4,h5⟩:=atI_get he
 obtain ⟨w,ew,rw'⟩:=r.get h2
 have hl:=r.length
 have hn:=line63
 have fin : EP X pins σ Q w s:=⟨z,H,I,rw',q⟩
 exact subscriptTail_builtinR (x:=w) pl.typeIs slot_tuple_getitem.lookup
  (getItem_tuple (j:=j) (Q:=fun r s'=>r = w ∧ EP X pins σ Q r s') pl (by omega) (by omega) (by rw [List.size_toArray,← hl]; exact h1) (by simpa using ew) ⟨rfl,fin⟩) hs
theorem ix_str : IxR X rIxS:=by
 intro value slice pins s σ H x y v u Q I rx ry h hs
 obtain ⟨z,i,c,rfl,rfl,hz,he,q⟩:=h
 obtain ⟨t,rfl⟩:=rx
 obtain ⟨t',rfl⟩:=ry
 obtain ⟨j,h1,h2,h3,h4,h5⟩:=atI_get he
 have hl : z.cps.toList.length = z.length:=by simp [Str.length]
 rw [hl] at h1 h4 h5
 have hn:=line63
 exact tail_any (typeIs_str s z t) slot_str_getitem.lookup (getItem_str (c:=c) (by
  have e1 : decide (i < -(2 ^ 63 : Int)) = false:=decide_eq_false (by omega)
  have e2 : decide (i ≥ 2 ^ 63) = false:=decide_eq_false (by omega)
  rw [e1,e2,Bool.or_false]) (by rw [h1]; simpa using h2) ⟨.str ⟨#[c]⟩,H,I.tok _,⟨_,rfl⟩,q⟩) hs
def rIx (K : PySem.W.Frag) : R2:=fun x y H Q=>rIxL K x y H Q ∨ rIxT K x y H Q ∨ rIxS x y H Q
theorem ix_seq : IxR X (rIx X.K):=ix_list.or (ix_tup.or ix_str)
theorem slice_bounds (lo hi : Option Int) (n : Nat) : (sliceBounds lo hi none n).1 = ((HT.sIx n 0 lo : Nat) : Int) ∧ (sliceBounds lo hi none n).2.1 = ((HT.sIx n n hi : Nat) : Int) ∧ (sliceBounds lo hi none n).2.2 = 1:=by
 refine ⟨?_,?_,rfl⟩
 ·cases lo with
  | none=>simp [sliceBounds,HT.sIx]
  | some i =>
   simp only [sliceBounds,HT.sIx,Option.getD_none,show (1 : Int) > 0 by decide,if_true]
   by_cases h : i < 0
   ·simp only [h,if_true] <;> omega
   ·simp only [h,if_false] <;> omega
 ·cases hi with
  | none=>simp [sliceBounds,HT.sIx]
  | some i =>
   simp only [sliceBounds,HT.sIx,Option.getD_none,show (1 : Int) > 0 by decide,if_true]
   by_cases h : i < 0
   ·simp only [h,if_true] <;> omega
   ·simp only [h,if_false] <;> omega
theorem slicePick_cut (its : List Value) (lo hi : Option Int) : slicePick its.toArray lo hi none = ((its.drop (HT.sIx its.length 0 lo)).take (HT.sIx its.length its.length hi - HT.sIx its.length 0 lo)).toArray:=by
 obtain ⟨h1,h2,h3⟩:=slice_bounds lo hi its.toArray.size
 unfold slicePick
 rw [h1,h2,h3]
 simp only [sliceRange_one,pick_run,List.size_toArray] <;> rfl
def rSlL (K : PySem.W.Frag) : V → Option Int → Option Int → Hp → VK → Prop:=fun x lo hi H Q=>∃ a xs,x = .ref a ∧ SqL K H a xs ∧ ∀ p,H p = none → Q (.ref p) (upd H p (.lst (cutV xs lo hi)))
theorem sl_list : SlR X (rSlL X.K):=by
 intro pins s σ H x v vl vu lo hi sl Q I rx hs pl pu h
 obtain ⟨a,xs,rfl,hx,q⟩:=h
 cases rx
 obtain ⟨its,r,ht,hz⟩:=I.list hx
 have hlen:=r.length
 refine ⟨"list",_,slot_list_getitem.lookup,ht.isList.typeIs,?_⟩
 refine wpAny_getItem_list_slice ht.isList hs pl pu .none (by simp) ?_ (by rw [List.size_toArray] <;> omega)
 rw [slicePick_cut,← hlen]
 refine ⟨.ref s.heap.objs.size,_,I.laid (t':=s.toks) (o:=.lst (cutV xs lo hi)) (fun b ob q=>Heap.get?_push_of_some _ q) (Nat.le_refl _) ?_,rfl,q _ (I.hok.fresh (Nat.le_refl _))⟩
 exact ⟨Nat.le_trans (cutV_length xs lo hi) hz,_,0,(r.drop (HT.sIx xs.length 0 lo)).take (HT.sIx xs.length xs.length hi - HT.sIx xs.length 0 lo),Heap.get?_push_size _ rfl⟩
def flatV : V → Bool
 | .non=>true
 | .bl _=>true
 | .int _=>true
 | .str _=>true
 | _=>false
def eqV : V → V → Bool
 | .non,.non=>true
 | .bl a,.bl b=>a == b
 | .bl a,.int b=>(if a then 1 else 0) == b
 | .int a,.bl b=>a == (if b then 1 else 0)
 | .int a,.int b=>a == b
 | .str a,.str b=>a == b
 | _,_=>false
theorem eqAt_V {A : Around} {s : Shared} {y x : V} {u v : Value} (ry : RelV y u) (rx : RelV x v) (fy : flatV y = true) (fx : flatV x = true) : SeqAt.EqAt A s u v (eqV y x):=by
 cases y with
 | non =>
  cases ry
  cases x with
  | non=>cases rx; exact SeqAt.EqAt.same _
  | bl b=>cases rx; exact SeqAt.EqAt.none_bool b
  | int b=>obtain ⟨t,rfl⟩:=rx; exact SeqAt.EqAt.none_int b t
  | str b=>obtain ⟨t,rfl⟩:=rx; exact SeqAt.EqAt.none_str b t
  | _=>exact absurd (show false = true from fx) Bool.false_ne_true
 | bl a =>
  cases ry
  cases x with
  | non=>cases rx; exact SeqAt.EqAt.bool_none a
  | bl b=>cases rx; exact SeqAt.EqAt.bool_bool a b
  | int b=>obtain ⟨t,rfl⟩:=rx; exact SeqAt.EqAt.bool_int a b t
  | str b=>obtain ⟨t,rfl⟩:=rx; exact SeqAt.EqAt.bool_str a b t
  | _=>exact absurd (show false = true from fx) Bool.false_ne_true
 | int a =>
  obtain ⟨t',rfl⟩:=ry
  cases x with
  | non=>cases rx; exact SeqAt.EqAt.int_none a t'
  | bl b=>cases rx; exact SeqAt.EqAt.int_bool a t' b
  | int b=>obtain ⟨t,rfl⟩:=rx; exact SeqAt.EqAt.int_int a t' b t
  | str b=>obtain ⟨t,rfl⟩:=rx; exact SeqAt.EqAt.int_str a t' b t
  | _=>exact absurd (show false = true from fx) Bool.false_ne_true
 | str a =>
  obtain ⟨t',rfl⟩:=ry
  cases x with
  | non=>cases rx; exact SeqAt.EqAt.str_none a t'
  | bl b=>cases rx; exact SeqAt.EqAt.str_bool a t' b
  | int b=>obtain ⟨t,rfl⟩:=rx; exact SeqAt.EqAt.str_int a t' b t
  | str b=>obtain ⟨t,rfl⟩:=rx; exact SeqAt.EqAt.str_str a t' b t
  | _=>exact absurd (show false = true from fx) Bool.false_ne_true
 | _=>exact absurd (show false = true from fy) Bool.false_ne_true
def eqU (x : V) (u : Value) : Bool:=match u with
 | .none=>eqV .non x
 | .bool b=>eqV (.bl b) x
 | .int i _=>eqV (.int i) x
 | .str z _=>eqV (.str z) x
 | _=>false
theorem eqU_of {x y : V} {u : Value} (r : RelV y u) (f : flatV y = true) : eqU x u = eqV y x:=by
 cases y with
 | non=>cases r; rfl
 | bl b=>cases r; rfl
 | int i=>obtain ⟨t,rfl⟩:=r; rfl
 | str z=>obtain ⟨t,rfl⟩:=r; rfl
 | _=>exact absurd (show false = true from f) Bool.false_ne_true
theorem any_eqU {x : V} : ∀ {xs : List V} {us : List Value},Vals xs us → xs.all flatV = true → us.any (eqU x) = xs.any fun y=>eqV y x
 | _,_,.nil,_=>rfl
 | y :: xs,u :: us,.cons r t,f=>by
  rw [List.all_cons,Bool.and_eq_true] at f
  rw [List.any_cons,List.any_cons,eqU_of r f.1,any_eqU t f.2]
theorem mem_eqAt {A : Around} {s : Shared} {x : V} {v : Value} (rx : RelV x v) (fx : flatV x = true) : ∀ {xs : List V} {us : List Value},Vals xs us → xs.all flatV = true → ∀ u ∈ us,SeqAt.EqAt A s u v (eqU x u)
 | _,_,.nil,_=>fun u hu=>by cases hu
 | y :: xs,u :: us,.cons r t,f=>fun u' hu=>by
  rw [List.all_cons,Bool.and_eq_true] at f
  rcases List.mem_cons.mp hu with rfl | hu
  ·rw [eqU_of r f.1]; exact eqAt_V r rx f.1 fx
  ·exact mem_eqAt rx fx t f.2 u' hu
def inV (x : V) (xs : List V) : Bool:=xs.any fun y=>eqV y x
def rIn (K : PySem.W.Frag) (neg : Bool) : R2:=fun x y H Q=>∃ p xs,y = .ref p ∧ (SqL K H p xs ∨ SqT K H p xs) ∧ flatV x = true ∧ xs.all flatV = true ∧ Q (.bl (if neg then !inV x xs else inV x xs)) H
theorem op_in_seq : OpR X (compareOp .In) (rIn X.K false):=by
 intro pins s σ H x y v u Q I rx ry h
 obtain ⟨p,xs,rfl,hq,fx,fs,q⟩:=h
 cases ry
 rcases hq with hq | hq
 ·obtain ⟨its,r,pl,hz⟩:=I.list hq
  refine SeqAt.in_listAt (eqU x) pl.isList (fun w hw=>mem_eqAt rx fx r fs w (by simpa using hw)) ⟨.bl _,H,I,rfl,?_⟩
  rw [show its.toArray.any (eqU x) = its.any (eqU x) by simp,any_eqU r fs]
  exact q
 ·obtain ⟨its,r,pl,hz⟩:=I.tuple hq
  refine SeqAt.in_tupleAt (eqU x) pl (fun w hw=>mem_eqAt rx fx r fs w (by simpa using hw)) ⟨.bl _,H,I,rfl,?_⟩
  rw [show its.toArray.any (eqU x) = its.any (eqU x) by simp,any_eqU r fs]
  exact q
theorem call_len_seq : CallR X (.builtin "len") (fun xs H Q=>∃ p ys,xs = [.ref p] ∧ (SqL X.K H p ys ∨ SqT X.K H p ys) ∧ Q (.int ys.length) H):=by
 intro pins s σ H xs us Q I r h
 obtain ⟨p,ys,rfl,hq,q⟩:=h
 obtain ⟨u,rfl,rx⟩:=vals1 r
 cases rx
 have hn:=line63
 rcases hq with hq | hq
 ·obtain ⟨its,r',pl,hz⟩:=I.list hq
  have hlen:=r'.length
  exact Calls.call_len_list pl.isList (by simp only [List.size_toArray] <;> omega) ⟨.int ys.length,H,I.tok _,⟨s.toks + 1,by rw [List.size_toArray,hlen]⟩,q⟩
 ·obtain ⟨its,r',pl,hz⟩:=I.tuple hq
  have hlen:=r'.length
  exact len_tuple pl (by simp only [List.size_toArray] <;> omega) ⟨.int ys.length,H,I.tok _,⟨s.toks + 1,by rw [List.size_toArray,hlen]⟩,q⟩
def tyV (K : PySem.W.Frag) (T : String) (x : V) (H : Hp) : Prop:=match x with
 | .str _=>T = "str"
 | .int _=>T = "int"
 | .ref p=>(T = "list" ∧ ∃ xs,SqL K H p xs) ∨ (T = "tuple" ∧ ∃ o,K.lookup p = some o ∧ o.cls = .type "tuple" ∧ o.dict = none) ∨
   (T = "dict" ∧ ((∃ kvs,H p = some (.dK kvs)) ∨ ∃ kvs,H p = some (.dT kvs))) ∨ (T = "set" ∧ ∃ S n,H p = some (.set S n))
 | _=>False
theorem tyV_is {pins : List (Addr × Obj)} {σ : St} {H : Hp} {s : Shared} {T : String} {x : V} {v : Value} (I : Inv X pins σ H s) (r : RelV x v) (ty : tyV X.K T x H) :
  s.TypeIs v T ∧ ∀ a,v = .ref a → ∃ ob,s.heap.get? a = some ob ∧ ob.dict = none:=by
 cases x with
 | str z =>
  obtain ⟨t,rfl⟩:=r
  cases (show T = "str" from ty)
  exact ⟨typeIs_str s z t,fun _ e=>nomatch e⟩
 | int i =>
  obtain ⟨t,rfl⟩:=r
  cases (show T = "int" from ty)
  exact ⟨typeIs_int s i t,fun _ e=>nomatch e⟩
 | ref p =>
  cases r
  rcases ty with ⟨rfl,xs,hq⟩ | ⟨rfl,o,hk,hc,hd⟩ | ⟨rfl,hk⟩ | ⟨rfl,S,n,hk⟩
  ·obtain ⟨its,_,pl,_⟩:=I.list hq
   refine ⟨pl.isList.typeIs,fun a e=>?_⟩
   cases e
   obtain ⟨o,n,e,c,hd,_⟩:=pl
   exact ⟨o,e,hd⟩
  ·refine ⟨⟨o,I.kIn p o hk,hc⟩,fun a e=>?_⟩
   cases e
   exact ⟨o,I.kIn _ o hk,hd⟩
  ·have z : ∃ o,s.heap.get? p = some o ∧ o.ExactDict:=by
    rcases hk with ⟨kvs,hk⟩ | ⟨kvs,hk⟩
    ·obtain ⟨_,_,_,_,o,_,_,e,ex,_⟩:=I.hok p _ hk
     exact ⟨o,e,ex⟩
    ·obtain ⟨_,_,_,_,o,_,_,e,ex,_⟩:=I.hok p _ hk
     exact ⟨o,e,ex⟩
   obtain ⟨o,e,ex⟩:=z
   refine ⟨⟨o,e,ex.1⟩,fun a e2=>?_⟩
   cases e2
   exact ⟨o,e,ex.2.1⟩
  ·obtain ⟨o,_,_,_,e,ex,_⟩:=I.hok p _ hk
   refine ⟨⟨o,e,ex.1⟩,fun a e2=>?_⟩
   cases e2
   exact ⟨o,e,ex.2.1⟩
 | _=>exact False.elim ty
def tBM (K : PySem.W.Frag) (T : String) (r : V → List V → Hp → VK → Prop) (to : TE) (t : TA) : TE:=fun σ H Q=>to σ H fun x H1=>tyV K T x H1 ∧ t σ H1 fun xs H2=>r x xs H2 Q
variable {o e : Expr} {es : List Expr} {to : TE} {t : TA} {name : Str} {apos cpos : Pos} {T id : String} {r : V → List V → Hp → VK → Prop}
theorem pe_bm (pa : PlainAttrs T) (slot : Slot T name id) (hty : typeOf (.builtin id) = pure (.type "method_descriptor")) (hm : MtR X id r) (ho : PE X o to) (ha : PA X (e :: es) t)
  (hbase : attributeBase o name X.env (eval o X.env) = eval o X.env:=by rfl)
  (hfew : ((backTo cpos (starEach (e :: es) X.env)).all (fun x=>!x.1) && (backToKw cpos (keywordEach [] X.env)).all (fun x=>x.1.isSome)
   && decide ((e :: es).length + ([] : List Keyword).length + (if ([] : List Keyword).isEmpty then 0 else 1) < 30)) = true:=by rfl)
  (hline : (apos.endLine == cpos.line) = true:=by rfl) (hs : starEach (e :: es) X.env = (false,eval e X.env) :: starEach es X.env:=by rfl) (hplain : (backTo cpos (starEach es X.env)).any (·.1) = false:=by rfl) :
  PE X (.Call (.Attribute o name apos) (e :: es) [] cpos) (tBM X.K T r to t):=by
 intro pins s σ H Q I h
 refine wpAny_Call_method_late hbase hfew hline rfl (thn (ho pins s σ H _ I h) fun v s1 ⟨x,H1,I1,r1,ty,q1⟩=>?_)
 obtain ⟨h1,h2⟩:=tyV_is I1 r1 ty
 refine ⟨T,id,pa,slot,hty,h1,h2,?_⟩
 have hA:=ha cpos pins s1 σ H1 _ I1 q1
 rw [hs] at hA ⊢
 refine Calls.callWith_builtin (by show (false || (backTo cpos (starEach es X.env)).any (·.1)) = false; rw [hplain] <;> rfl) (Calls.evalArgs_plain ?_)
 exact thn hA fun us s2 ⟨vs,H2,I2,r2,q2⟩=>hm pins s2 σ H2 x vs v us Q I2 r1 r2 q2
end
end L2
namespace L2
open PySem PySem.Spec PyProof.Rows
def MtM (X : Cx) (id : String) (r : V → List V → Hp → VK → Prop) : Prop :=
 ∀ (pins : List (Addr × Obj)) (s : Shared) (σ : St) (H : Hp) (x : V) (xs : List V) (v : Value) (us : List Value) (Q : VK),Inv X pins σ H s → RelV x v → Vals xs us → r x xs H Q →
  wpAny (model X.prog X.w) X.A (call (.builtin id) (v :: us)) (EP X pins σ Q) X.xe s
theorem Vals.one : ∀ {x : V} {us : List Value},Vals [x] us → ∃ u,us = [u] ∧ RelV x u
 | _,_,.cons r .nil=>⟨_,rfl,r⟩
section
variable {X : Cx} {pins : List (Addr × Obj)} {σ : St} {H : Hp} {s : Shared} {l b : Addr} {xs ys zs : List V}
theorem Inv.lset {its its' : List Value} {n : Nat} {f : Array Value → Array Value} {t' : Nat} (I : Inv X pins σ H s) (hH : H l = some (.lst xs))
  (e : s.heap.get? l = some { cls:=.type "list",data:=.seq its.toArray n }) (hf : f its.toArray = its'.toArray) (hv : Vals ys its') (hz : ys.length ≤ sizeLine) :
  Inv X pins σ (upd H l (.lst ys)) { s with heap:=s.heap.update l (Obj.mapSeq f),toks:=t' }:=by
 have q:=PySem.IsL.update e f
 rw [hf] at q
 refine I.write (x:=l) (e:=l) (by rw [hH]; exact trivial) (.inl rfl) (fun b' u hb hu=>(Heap.get?_update_other s.heap (Obj.mapSeq f) (Ne.symm hb)).trans hu) ⟨_,q⟩ ?_
 exact ⟨hz,its',_,hv,q⟩
theorem Inv.lnew {its : List Value} {t' : Nat} (I : Inv X pins σ H s) (hv : Vals ys its) (hz : ys.length ≤ sizeLine) :
  Inv X pins σ (upd H s.heap.objs.size (.lst ys)) { s with heap:=s.heap.push { cls:=.type "list",data:=.seq its.toArray },toks:=t' } :=
 I.laid (fun _ _ q=>Heap.get?_push_of_some _ q) (Nat.le_refl _) ⟨hz,its,0,hv,Heap.get?_push_size _ rfl⟩
theorem Inv.fresh (I : Inv X pins σ H s) : H s.heap.objs.size = none:=I.hok.fresh (Nat.le_refl _)
theorem Inv.lstM (I : Inv X pins σ H s) (hH : H l = some (.lst xs)) : xs.length ≤ sizeLine ∧ ∃ (its : List Value) (n : Nat),Vals xs its ∧ xs.length = its.length ∧ s.heap.get? l = some { cls:=.type "list",data:=.seq its.toArray n }:=by
 obtain ⟨z,its,n,r,e⟩:=I.hok l _ hH
 exact ⟨z,its,n,r,r.length,e⟩
theorem notLongL {n : Nat} (h : n ≤ sizeLine) : Builtin.List.listTooLong n = false:=by
 unfold Builtin.List.listTooLong
 exact decide_eq_false (by omega)
end
section
variable {X : Cx}
def rAppend : V → List V → Hp → VK → Prop:=fun x vs H Q=>∃ l xs y,x = .ref l ∧ vs = [y] ∧ H l = some (.lst xs) ∧ xs.length < sizeLine ∧ Q .non (upd H l (.lst (xs ++ [y])))
theorem mt_append : MtM X "list.append" rAppend:=by
 intro pins s σ H x vs v us Q I rx rv h
 obtain ⟨l,xs,y,rfl,rfl,hH,hz,q⟩:=h
 cases rx
 obtain ⟨u,rfl,ru⟩:=rv.one
 obtain ⟨z,its,n,r,hl,e⟩:=I.lstM hH
 refine call_meets F.slot_list_append ⟨_,e,rfl⟩ F.entry_list_append (F.args_list_append_2 _ _) (PySem.list_append l its.toArray n u (by rw [List.size_toArray]; omega)) ⟨e,?_⟩
 refine ⟨.non,_,I.lset (its':=its ++ [u]) hH e (by simp) (r.append (.cons ru .nil)) ?_,rfl,q⟩
 rw [List.length_append,List.length_singleton]
 omega
def rExtend : V → List V → Hp → VK → Prop:=fun x vs H Q=>∃ l b xs zs,x = .ref l ∧ vs = [.ref b] ∧ H l = some (.lst xs) ∧ H b = some (.lst zs) ∧ xs.length + zs.length ≤ sizeLine ∧ Q .non (upd H l (.lst (xs ++ zs)))
theorem mt_extend : MtM X "list.extend" rExtend:=by
 intro pins s σ H x vs v us Q I rx rv h
 obtain ⟨l,b,xs,zs,rfl,rfl,hH,hB,hz,q⟩:=h
 cases rx
 obtain ⟨u,rfl,ru⟩:=rv.one
 cases ru
 obtain ⟨z,its,n,r,hl,e⟩:=I.lstM hH
 obtain ⟨z2,its2,n2,r2,hl2,e2⟩:=I.lstM hB
 have hsz : its.toArray.size + its2.toArray.size ≤ sizeLine:=by rw [List.size_toArray,List.size_toArray]; omega
 have hlong : ¬ (!its.toArray.isEmpty && Builtin.List.listTooLong (its.toArray.size + its2.toArray.size)) = true:=by
  rw [notLongL hsz,Bool.and_false]
  exact Bool.false_ne_true
 refine call_meets F.slot_list_extend ⟨_,e,rfl⟩ F.entry_list_extend (F.args_list_extend_2 _ _)
  (AutoSeq1.list_extend_list_list_0 l its.toArray n b its2.toArray n2 hlong (by rw [List.size_toArray]; omega) (by omega)) ⟨e,e2,?_⟩
 refine ⟨.non,_,I.lset (its':=its ++ its2) hH e (by simp) (r.append r2) ?_,rfl,q⟩
 rw [List.length_append]
 omega
def rCat : R2:=fun x y H Q=>∃ l b xs zs,x = .ref l ∧ y = .ref b ∧ H l = some (.lst xs) ∧ H b = some (.lst zs) ∧ xs.length + zs.length ≤ sizeLine ∧ ∀ p,H p = none → Q (.ref p) (upd H p (.lst (xs ++ zs)))
theorem op_cat : OpR X (binaryOp .Add) rCat:=by
 intro pins s σ H x y v u Q I rx ry h
 obtain ⟨l,b,xs,zs,rfl,rfl,hH,hB,hz,q⟩:=h
 cases rx
 cases ry
 obtain ⟨z,its,n,r,hl,e⟩:=I.lstM hH
 obtain ⟨z2,its2,n2,r2,hl2,e2⟩:=I.lstM hB
 refine PySem.P.add_list e e2 ?_ (by rw [List.size_toArray,List.size_toArray]; omega)
 have ea : its.toArray ++ its2.toArray = (its ++ its2).toArray:=by simp
 rw [ea]
 exact ⟨.ref _,_,I.lnew (t':=s.toks) (r.append r2) (by rw [List.length_append]; omega),rfl,q _ I.fresh⟩
end
end L2
namespace L2
open PySem PySem.Spec PyProof.Rows
theorem Vals.ints : ∀ {ns : List Int} {us : List Value},Vals (ns.map V.int) us → IntsAre us ns
 | [],us,h=>by
  rw [List.map_nil] at h
  cases h
  exact IntsAre.nil
 | n :: ns,us,h=>by
  rw [List.map_cons] at h
  cases h with
  | cons r t =>
   obtain ⟨k,rfl⟩:=r
   exact IntsAre.cons n k (Vals.ints t)
theorem vals_of_ints : ∀ {us : List Value} {ns : List Int},IntsAre us ns → Vals (ns.map V.int) us
 | _,_,.nil=>by rw [List.map_nil]; exact Paired.nil
 | _,_,.cons n t h=>by rw [List.map_cons]; exact Paired.cons (show RelV (V.int n) (Value.int n t) from ⟨t,rfl⟩) (vals_of_ints h)
theorem Vals.bls : ∀ {bs : List Bool} {us : List Value},Vals (bs.map V.bl) us → us = bs.map Value.bool
 | [],us,h=>by
  rw [List.map_nil] at h
  cases h
  rfl
 | b :: bs,us,h=>by
  rw [List.map_cons] at h
  cases h with
  | cons r t =>
   cases r
   rw [Vals.bls t,List.map_cons]
theorem Vals.ref1 {a : Addr} {us : List Value} (r : Vals [V.ref a] us) : us = [Value.ref a]:=by
 cases r with
 | cons r t =>
  cases t
  cases r
  rfl
section
variable {prog : Program} {w : World} {A : Around} {E : Value → Shared → Prop} {s : Shared} {l : Addr} {its : List Value} {ns : List Int} {Q : Value → Shared → Prop}
theorem sum_raw (hh : A.handled = none) (hl : s.heap.IsList l its.toArray) (hi : IntsAre its ns)
  (h : ∀ h' tk t',(∀ b o,s.heap.get? b = some o → h'.get? b = some o) → Q (.int ns.sum t') { s with heap:=h',toks:=tk }) : wpAny (model prog w) A (call (.builtin "sum") [.ref l]) Q E s:=by
 obtain ⟨xs,e⟩:=hi.allInts.items
 have hn : numsOf (intItems xs).toList = ns:=by rw [← e]; exact hi.numsOf
 rw [nums_intItems] at hn
 rw [e] at hl
 refine PySem.sum_intListG hh hl fun h' tk t' hk=>?_
 have:=h h' tk t' hk
 rw [preSum_eq,List.take_of_length_le (by simp),hn]; exact this
end
section
variable {X : Cx}
def rSum (K : PySem.W.Frag) : List V → Hp → VK → Prop:=fun vs H Q=>∃ (a : Addr) (ns : List Int),vs = [V.ref a] ∧ SqL K H a (ns.map V.int) ∧ Q (.int ns.sum) H
theorem cr_sum (hc : X.calm = true) : CallR X (.builtin "sum") (rSum X.K):=by
 intro pins s σ H vs us Q I r h
 obtain ⟨a,ns,rfl,hs,q⟩:=h
 obtain ⟨its,rv,hl,_⟩:=I.list hs
 rw [Vals.ref1 r]
 exact sum_raw (I.ok.hd hc) hl.isList rv.ints fun h' tk t' hk=>⟨.int _,H,I.kept hk,⟨_,rfl⟩,q⟩
theorem small64 {n : Nat} (h : n < 64) : n ≤ sizeLine:=by rw [sizeLine_eq]; omega
end
theorem iter_any {prog : Program} {w : World} {A : Around} {E : Value → Shared → Prop} {s : Shared} {l : Addr} {items : Array Value} {Q : Value → Shared → Prop} (hl : s.heap.IsList l items)
  (h : ∀ s₂ : Shared,s₂ = { s with heap:=s.heap.push { cls:=.type "list_iterator",data:=.fields #[.ref l,.int 0 0] } } →
   (s₂.heap.IsListIter s.heap.objs.size l 0 ∧ s₂.heap.IsList l items) → l ≠ s.heap.objs.size → Q (.ref s.heap.objs.size) s₂) : wpAny (model prog w) A (pyIter (.ref l)) Q E s:=by
 have hlt : l < s.heap.objs.size:=by obtain ⟨_,e,_⟩:=hl; exact Heap.lt_size e
 exact wpAny_pyIter_list hl (h _ rfl ⟨⟨_,Heap.get?_push_size _ rfl,rfl,rfl⟩,hl.push _⟩ (Nat.ne_of_lt hlt))
theorem truth_bools {prog : Program} {w : World} {A : Around} {bs : List Bool} {its : List Value} (e : its = bs.map Value.bool) :
  TruthOf prog w A (fun i v=>its.toArray[i]? = some v) (fun i=>bs.getD i false):=fun i v s Q E hv hq=>by
 have hv' : its[i]? = some v:=by simpa using hv
 rw [e,List.getElem?_map] at hv'
 obtain ⟨b,hb,rfl⟩:=Option.map_eq_some_iff.mp hv'
 have hg : bs.getD i false = b:=by rw [List.getD_eq_getElem?_getD,hb] <;> rfl
 have hq' : Q (bs.getD i false) s:=hq
 rw [hg] at hq'
 exact wpAny_truthy_bool hq'
theorem any_range : ∀ bs : List Bool,(List.range bs.length).any (fun i=>bs.getD i false) = bs.any id
 | []=>rfl
 | b :: bs=>by
  rw [List.length_cons,List.range_succ_eq_map,List.any_cons,List.any_map,List.any_cons,← any_range bs]
  all_goals rfl
theorem all_range : ∀ bs : List Bool,(List.range bs.length).all (fun i=>bs.getD i false) = bs.all id
 | []=>rfl
 | b :: bs=>by
  rw [List.length_cons,List.range_succ_eq_map,List.all_cons,List.all_map,List.all_cons,← all_range bs]
  all_goals rfl
section
variable {X : Cx}
def rAll (K : PySem.W.Frag) : List V → Hp → VK → Prop:=fun vs H Q=>∃ (a : Addr) (bs : List Bool),vs = [V.ref a] ∧ SqL K H a (bs.map V.bl) ∧ Q (.bl (bs.all id)) H
theorem cr_all (hc : X.calm = true) : CallR X (.builtin "all") (rAll X.K):=by
 intro pins s σ H vs us Q I r h
 obtain ⟨a,bs,rfl,hs,q⟩:=h
 obtain ⟨its,rv,hl,_⟩:=I.list hs
 rw [Vals.ref1 r]
 have hb:=rv.bls
 refine call_all_walk (iter_any hl.isList fun s₂ e2 st hne=>?_)
 subst e2
 refine ⟨_,_,_,_,_,_,_,rfl,Walks.list (A:=X.A.in1) (I.ok.hd hc) _ a hne its.toArray,st,truth_bools hb,fun h' tk hk=>?_⟩
 refine ⟨.bl _,H,I.kept fun b o eo=>hk b o (fun hmem=>?_) (Heap.get?_push_of_some _ eo),?_,q⟩
 ·rcases List.mem_cons.mp hmem with e1 | hmem
  ·exact absurd (e1 ▸ Heap.lt_size eo) (Nat.lt_irrefl _)
  ·cases hmem
 ·show Value.bool _ = Value.bool _
  rw [← all_range,hb,List.size_toArray,List.length_map]
end
mutual
inductive Dp (K : PySem.W.Frag) (H : Hp) : V → PyData → Prop
 | non : Dp K H .non .none
 | bl (b : Bool) : Dp K H (.bl b) (.bool b)
 | int (i : Int) : Dp K H (.int i) (.int i)
 | str (x : Str) : Dp K H (.str x) (.str x)
 | lst {a : Addr} {xs : List V} {ds : List PyData} : SqL K H a xs → DpAll K H xs ds → Dp K H (.ref a) (.list ds)
 | tup {a : Addr} {xs : List V} {ds : List PyData} : SqT K H a xs → DpAll K H xs ds → Dp K H (.ref a) (.tuple ds)
inductive DpAll (K : PySem.W.Frag) (H : Hp) : List V → List PyData → Prop
 | nil : DpAll K H [] []
 | cons {v : V} {vs : List V} {d : PyData} {ds : List PyData} : Dp K H v d → DpAll K H vs ds → DpAll K H (v :: vs) (d :: ds)
end
section
variable {X : Cx} {pins : List (Addr × Obj)} {σ : St} {H : Hp} {s : Shared}
mutual
theorem Dp.reads (I : Inv X pins σ H s) : ∀ (d : PyData) (v : V) (u : Value),Dp X.K H v d → RelV v u → ∃ as,Reads s.heap u d as
 | .none,_,_,h,r=>by
  cases h
  cases r
  exact ⟨_,Reads.none⟩
 | .bool b,_,_,h,r=>by
  cases h
  cases r
  exact ⟨_,Reads.bool b⟩
 | .int i,_,_,h,r=>by
  cases h
  obtain ⟨t,rfl⟩:=r
  exact ⟨_,Reads.int i t⟩
 | .str x,_,_,h,r=>by
  cases h
  obtain ⟨t,rfl⟩:=r
  exact ⟨_,Reads.str x t⟩
 | .list ds,_,_,h,r=>by
  cases h with
  | lst hs ha =>
   cases r
   obtain ⟨its,rv,⟨o,n,ho,hc,_,hd⟩,_⟩:=I.list hs
   obtain ⟨as,hr⟩:=Dp.readsAll I ds _ its ha rv
   exact ⟨_,Reads.list ho hc hd hr⟩
 | .tuple ds,_,_,h,r=>by
  cases h with
  | tup hs ha =>
   cases r
   obtain ⟨its,rv,⟨o,ho,hc,n,hd⟩,_⟩:=I.tuple hs
   obtain ⟨as,hr⟩:=Dp.readsAll I ds _ its ha rv
   exact ⟨_,Reads.tuple ho hc hd hr⟩
 | .dict _,_,_,h,_=>by cases h
theorem Dp.readsAll (I : Inv X pins σ H s) : ∀ (ds : List PyData) (vs : List V) (us : List Value),DpAll X.K H vs ds → Vals vs us → ∃ as,ReadsAll s.heap us ds as
 | [],_,_,h,r=>by
  cases h
  cases r
  exact ⟨_,ReadsAll.nil⟩
 | d :: ds,_,_,h,r=>by
  cases h with
  | cons h1 h2 =>
   cases r with
   | cons r1 r2 =>
    obtain ⟨as,q1⟩:=Dp.reads I d _ _ h1 r1
    obtain ⟨bs,q2⟩:=Dp.readsAll I ds _ _ h2 r2
    exact ⟨_,ReadsAll.cons q1 q2⟩
end
end
section
variable {X : Cx}
def rEqD (K : PySem.W.Frag) : R2:=fun x y H Q=>∃ d e,Dp K H x d ∧ Dp K H y e ∧ SeqAt.shaped d = true ∧ SeqAt.shaped e = true ∧ Q (.bl (PyData.eqv d e)) H
def rNeD (K : PySem.W.Frag) : R2:=fun x y H Q=>∃ d e,Dp K H x d ∧ Dp K H y e ∧ SeqAt.shaped d = true ∧ SeqAt.shaped e = true ∧ Q (.bl (!PyData.eqv d e)) H
theorem op_eqD (hu : X.A.units + 64 < cLine) : OpR X (compareOp .Eq) (rEqD X.K):=by
 intro pins s σ H x y v u Q I rx ry h
 obtain ⟨d,e,hd,he,sd,se,q⟩:=h
 obtain ⟨as,r1⟩:=Dp.reads I d x v hd rx
 obtain ⟨bs,r2⟩:=Dp.reads I e y u he ry
 exact SeqAt.compareEq_shaped r1 r2 sd se hu ⟨.bl _,H,I,rfl,q⟩
theorem op_neD (hu : X.A.units + 64 < cLine) : OpR X (compareOp .NotEq) (rNeD X.K):=by
 intro pins s σ H x y v u Q I rx ry h
 obtain ⟨d,e,hd,he,sd,se,q⟩:=h
 obtain ⟨as,r1⟩:=Dp.reads I d x v hd rx
 obtain ⟨bs,r2⟩:=Dp.reads I e y u he ry
 exact SeqAt.compareNe_shaped r1 r2 sd se hu ⟨.bl _,H,I,rfl,q⟩
end
end L2
namespace L2
open PySem PySem.Spec PyProof.Rows
abbrev CellAt (h : Heap) (c : Addr) (v : Option Value) : Prop:=h.IsCell c v
def relS (scope sc : Scope) : Scope :=
 { scope with names:=scope.names.map fun (n,k)=>if (k == .free && sc.kind == .function && sc.names.lookup n == some .cell) then (n,.cell) else (n,k) }
def cloFrom (cells : List (Str × Addr)) : List (Str × NameKind) → List (Str × Addr) → List (Str × Addr)
 | [],acc=>acc
 | (n,k) :: r,acc=>if k == .free then cloFrom cells r ((n,(cells.lookup n).getD 0) :: acc) else cloFrom cells r acc
theorem closure_loop (env : Env) (f : Str × NameKind → List (Str × Addr) → Sem (ForInStep (List (Str × Addr))))
  (hf : ∀ n k c,f (n,k) c = if k == .free then (do let a ← cellOf env n; pure (.yield ((n,a) :: c))) else pure (.yield c)) :
  ∀ (names : List (Str × NameKind)) (acc : List (Str × Addr)),(∀ y ∈ names,y.2 = .free → ∃ c,env.cells.lookup y.1 = some c) → forIn names acc f = pure (cloFrom env.cells names acc)
 | [],acc,_=>by rw [List.forIn_nil]; rfl
 | (n,k) :: r,acc,h=>by
  rw [List.forIn_cons,hf]
  have ih:=fun acc=>closure_loop env f hf r acc fun y hy=>h y (List.mem_cons_of_mem _ hy)
  unfold cloFrom
  by_cases hk : (k == NameKind.free) = true
  ·rw [if_pos hk,if_pos hk]
   obtain ⟨c,hc⟩:=h (n,k) List.mem_cons_self (by simpa using hk)
   have e : cellOf env n = pure c:=by unfold cellOf; rw [hc]
   rw [e]
   have e2 : (env.cells.lookup n).getD 0 = c:=by rw [hc]; rfl
   rw [e2]
   exact ih _
  ·rw [if_neg hk,if_neg hk]
   exact ih _
theorem closure_ok {scope : Scope} {env : Env} (h : ∀ y ∈ scope.names,y.2 = .free → ∃ c,env.cells.lookup y.1 = some c) : closureFor scope env = pure (cloFrom env.cells scope.names []):=by
 simp only [closureFor]
 rw [closure_loop env _ (fun n k c=>rfl) scope.names [] h]
 rfl
theorem mem_lookup {α : Type} : ∀ {l : List (Str × α)} {n : Str} {c : α},(n,c) ∈ l → ∃ c',l.lookup n = some c'
 | (k,v) :: r,n,c,h=>by
  rw [List.lookup_cons]
  cases hb : n == k with
  | true=>exact ⟨_,rfl⟩
  | false =>
   rcases List.mem_cons.mp h with e | h
   ·cases e; simp at hb
   ·exact mem_lookup h
theorem cloFrom_mem {cells : List (Str × Addr)} : ∀ {names : List (Str × NameKind)} {acc : List (Str × Addr)} {n : Str} {c : Addr},(n,c) ∈ cloFrom cells names acc → (n,c) ∈ acc ∨ ((n,.free) ∈ names ∧ c = (cells.lookup n).getD 0)
 | [],_,_,_,h=>.inl h
 | (m,k) :: r,acc,n,c,h=>by
  unfold cloFrom at h
  split at h
  ·rename_i hk
   have hk : k = .free:=by simpa using hk
   rcases cloFrom_mem h with h | ⟨h1,h2⟩
   ·rcases List.mem_cons.mp h with e | h
    ·cases e; exact .inr ⟨hk ▸ List.mem_cons_self,rfl⟩
    ·exact .inl h
   ·exact .inr ⟨List.mem_cons_of_mem _ h1,h2⟩
  ·rcases cloFrom_mem h with h | ⟨h1,h2⟩
   ·exact .inl h
   ·exact .inr ⟨List.mem_cons_of_mem _ h1,h2⟩
theorem cloFrom_acc {cells : List (Str × Addr)} : ∀ {names : List (Str × NameKind)} {acc : List (Str × Addr)} {p : Str × Addr},p ∈ acc → p ∈ cloFrom cells names acc
 | [],_,_,h=>h
 | (m,k) :: r,acc,p,h=>by
  unfold cloFrom
  split
  ·exact cloFrom_acc (List.mem_cons_of_mem _ h)
  ·exact cloFrom_acc h
theorem cloFrom_has {cells : List (Str × Addr)} : ∀ {names : List (Str × NameKind)} {acc : List (Str × Addr)} {n : Str},(n,.free) ∈ names → (n,(cells.lookup n).getD 0) ∈ cloFrom cells names acc
 | (m,k) :: r,acc,n,h=>by
  unfold cloFrom
  rcases List.mem_cons.mp h with e | h
  ·cases e
   exact cloFrom_acc List.mem_cons_self
  ·split
   ·exact cloFrom_has h
   ·exact cloFrom_has h
theorem cells_mem : ∀ {names : List (Str × NameKind)} {h : Heap} {acc : List (Str × Addr)} {x : Str} {c : Addr},(x,c) ∈ cellsFrom h.objs.size names acc →
  (x,c) ∈ acc ∨ ((x,.cell) ∈ names ∧ h.objs.size ≤ c ∧ CellAt (pushCells h names) c none)
 | [],_,_,_,_,h=>.inl h
 | (n,k) :: r,h,acc,x,c,hm=>by
  unfold cellsFrom at hm
  unfold pushCells
  split at hm
  ·rename_i hk
   rw [if_pos hk]
   have hk : k = .cell:=by simpa using hk
   rw [← Heap.size_push h { cls:=.type "cell",data:=.cell none }] at hm
   rcases cells_mem hm with hm | ⟨h1,h2,h3⟩
   ·rcases List.mem_cons.mp hm with e | hm
    ·cases e
     exact .inr ⟨hk ▸ List.mem_cons_self,Nat.le_refl _,_,pushCells_keeps r _ _ _ (Heap.get?_push_size _ rfl),rfl⟩
    ·exact .inl hm
   ·rw [Heap.size_push] at h2
    exact .inr ⟨List.mem_cons_of_mem _ h1,Nat.le_of_succ_le h2,h3⟩
  ·rename_i hk
   rw [if_neg hk]
   rcases cells_mem hm with hm | ⟨h1,h2,h3⟩
   ·exact .inl hm
   ·exact .inr ⟨List.mem_cons_of_mem _ h1,h2,h3⟩
theorem cells_acc : ∀ {names : List (Str × NameKind)} {n : Nat} {acc : List (Str × Addr)} {p : Str × Addr},p ∈ acc → p ∈ cellsFrom n names acc
 | [],_,_,_,h=>h
 | (m,k) :: r,n,acc,p,h=>by
  unfold cellsFrom
  split
  ·exact cells_acc (List.mem_cons_of_mem _ h)
  ·exact cells_acc h
theorem cells_has : ∀ {names : List (Str × NameKind)} {n : Nat} {acc : List (Str × Addr)} {x : Str},(x,.cell) ∈ names → ∃ c,(x,c) ∈ cellsFrom n names acc
 | (m,k) :: r,n,acc,x,h=>by
  unfold cellsFrom
  rcases List.mem_cons.mp h with e | h
  ·cases e
   exact ⟨n,cells_acc List.mem_cons_self⟩
  ·split
   ·exact cells_has h
   ·exact cells_has h
theorem cells_inj : ∀ {names : List (Str × NameKind)} {h : Heap} {acc : List (Str × Addr)} {x y : Str} {c : Addr},(∀ p ∈ acc,p.2 < h.objs.size) → (∀ x y c,(x,c) ∈ acc → (y,c) ∈ acc → x = y) →
  (x,c) ∈ cellsFrom h.objs.size names acc → (y,c) ∈ cellsFrom h.objs.size names acc → x = y
 | [],_,_,_,_,_,_,hi,h1,h2=>hi _ _ _ h1 h2
 | (n,k) :: r,h,acc,x,y,c,hl,hi,h1,h2=>by
  unfold cellsFrom at h1 h2
  split at h1
  ·rename_i hk
   rw [if_pos hk] at h2
   rw [← Heap.size_push h { cls:=.type "cell",data:=.cell none }] at h1 h2
   refine cells_inj (h:=h.push _) (fun p hp=>?_) (fun x y c a b=>?_) h1 h2
   ·rw [Heap.size_push]
    rcases List.mem_cons.mp hp with rfl | hp
    ·exact Nat.lt_succ_self _
    ·exact Nat.lt_succ_of_lt (hl p hp)
   ·rcases List.mem_cons.mp a with e | a <;> rcases List.mem_cons.mp b with e' | b
    ·cases e; cases e'; rfl
    ·cases e; exact absurd (hl _ b) (Nat.lt_irrefl _)
    ·cases e'; exact absurd (hl _ a) (Nat.lt_irrefl _)
    ·exact hi _ _ _ a b
  ·rename_i hk
   rw [if_neg hk] at h2
   exact cells_inj hl hi h1 h2
theorem newEnv_comp {M : Model} {A : Around} {E : Value → Shared → Prop} {s : Shared} {scope : Scope} {globals : Addr} {closure : List (Str × Addr)} {qual : Str} {func : Option Addr} {code : Value} {around : Env} {builtins : Addr} {Q : Env → Shared → Prop}
  (h : Q (newEnv scope s.heap.objs.size globals (cellsFrom (s.heap.objs.size + 1) scope.names closure) qual func code (some around) builtins)
   { s with heap:=pushCells (s.heap.push { cls:=.type "dict",data:=.dict #[] }) scope.names }) :
  wpAny M A (newFunctionEnv scope globals closure [] qual func code (some around) builtins) Q E s:=by
 simp only [newFunctionEnv,Option.isSome_some,if_true]
 refine wpAny_bind (wpAny_alloc ?_)
 refine wpAny_bind (wpAny_layCells _ (fun n k c=>rfl) scope.names closure _ _ ?_)
 rw [show ({ s with heap:=s.heap.push { cls:=.type "dict",data:=.dict #[] } } : Shared).heap.objs.size = s.heap.objs.size + 1 from Heap.size_push ..]
 rw [List.forIn_nil]
 exact wpAny_bind (wpAny_pure (wpAny_pure h))
theorem lookup_relS {sc : Scope} : ∀ {names : List (Str × NameKind)} {x : Str} {k : NameKind},
  (names.map fun (n,k)=>if (k == NameKind.free && sc.kind == .function && sc.names.lookup n == some .cell) then (n,NameKind.cell) else (n,k)).lookup x = some k →
  ∃ k',names.lookup x = some k' ∧ (k = k' ∨ (k' = .free ∧ k = .cell))
 | [],_,_,h=>by simp at h
 | (n,k₀) :: r,x,k,h=>by
  have ih:=@lookup_relS sc r x k
  have h' : List.lookup x ((if (k₀ == NameKind.free && sc.kind == .function && sc.names.lookup n == some .cell) = true then (n,NameKind.cell) else (n,k₀)) :: (r.map _)) = some k:=h
  cases hx : x == n with
  | true =>
   simp only [List.lookup_cons,hx]
   by_cases hc : (k₀ == NameKind.free && sc.kind == .function && sc.names.lookup n == some .cell) = true
   ·rw [if_pos hc] at h'
    simp only [List.lookup_cons,hx] at h'
    cases h'
    simp only [Bool.and_eq_true,beq_iff_eq] at hc
    exact ⟨k₀,rfl,.inr ⟨hc.1.1,rfl⟩⟩
   ·rw [if_neg hc] at h'
    simp only [List.lookup_cons,hx] at h'
    cases h'
    exact ⟨_,rfl,.inl rfl⟩
  | false =>
   simp only [List.lookup_cons,hx]
   by_cases hc : (k₀ == NameKind.free && sc.kind == .function && sc.names.lookup n == some .cell) = true
   ·rw [if_pos hc] at h'
    simp only [List.lookup_cons,hx] at h'
    exact ih h'
   ·rw [if_neg hc] at h'
    simp only [List.lookup_cons,hx] at h'
    exact ih h'
structure BlkOk (N : List Str) (sc scope : Scope) (own : List (Str × Nat)) : Prop where
 kind : scope.kind = .function
 uniq : ∀ y ∈ scope.names,scope.names.lookup y.1 = some y.2
 ix : ∀ p ∈ own,N[p.2]? = some p.1
 free : ∀ y ∈ scope.names,y.2 = .free → sc.names.lookup y.1 = some .cell ∨ sc.names.lookup y.1 = some .free
 own : ∀ y ∈ scope.names,y.2 = .local ∨ y.2 = .cell → y.1 ∈ own.map (·.1) ∨ y.1 ∉ N
def wipe (σ : St) : List Nat → St
 | []=>σ
 | v :: vs=>(wipe σ vs).set v none
theorem wipe_length (σ : St) : ∀ vs : List Nat,(wipe σ vs).length = σ.length
 | []=>rfl
 | v :: vs=>by unfold wipe; rw [List.length_set,wipe_length σ vs]
theorem wipe_some {σ : St} {i : Nat} {x : V} : ∀ {vs : List Nat},(wipe σ vs)[i]? = some (some x) → σ[i]? = some (some x) ∧ i ∉ vs
 | [],h=>⟨h,by simp⟩
 | v :: vs,h=>by
  unfold wipe at h
  by_cases hi : v = i
  ·subst hi
   by_cases hv : v < (wipe σ vs).length
   ·rw [List.getElem?_set_self hv] at h; cases h
   ·rw [List.getElem?_eq_none (by simpa using hv)] at h; cases h
  ·rw [List.getElem?_set_ne hi] at h
   obtain ⟨h1,h2⟩:=wipe_some h
   exact ⟨h1,by simp only [List.mem_cons,not_or]; exact ⟨fun e=>hi e.symm,h2⟩⟩
abbrev Cx.blk (X : Cx) (s : Shared) (H : Hp) (scope : Scope) (cenv : Env) (fp : List Addr) : Cx:={ X with s_0:=s,H_0:=H,env:=cenv,outer:=X.stack,ex:=fp,fn:=fun x=>scope.names.lookup x == some .cell,pn:=[],xe:=fun _ _=>False }
section
variable {X : Cx} {pins : List (Addr × Obj)} {σ : St} {H : Hp} {s : Shared}
theorem block_start {scope : Scope} {own : List (Str × Nat)} {fp : List Addr} (I : Inv X pins σ H s) (ok : BlkOk X.N X.env.scope scope own) (hN : X.N.Nodup) (hfp : ∀ b ∈ fp,FpOk X pins H b ∧ b < s.heap.objs.size) :
  Inv (X.blk s H scope (compEnvC scope (cellsFrom (s.heap.objs.size + 1) scope.names (cloFrom X.env.cells scope.names [])) s.heap.objs.size X.env) fp) [] (wipe σ (own.map (·.2))) H { s with heap:=pushCells (s.heap.push { cls:=.type "dict",data:=.dict #[] }) scope.names }:=by
 have hfree : ∀ y ∈ scope.names,y.2 = .free → ∃ c,X.env.cells.lookup y.1 = some c:=fun y hy e=>by
  rcases ok.free y hy e with k | k
  ·exact I.ok.has _ (.inl k)
  ·exact I.ok.has _ (.inr k)
 generalize hcenv : compEnvC scope (cellsFrom (s.heap.objs.size + 1) scope.names (cloFrom X.env.cells scope.names [])) s.heap.objs.size X.env = cenv
 have kp : ∀ b o,s.heap.get? b = some o → (pushCells (s.heap.push { cls:=.type "dict",data:=.dict #[] }) scope.names).get? b = some o:=fun b o e=>pushCells_keeps _ _ _ _ (Heap.get?_push_of_some _ e)
 have hL : cenv.locals = s.heap.objs.size:=by rw [← hcenv]; rfl
 have hcl : cenv.cells = cellsFrom (s.heap.objs.size + 1) scope.names (cloFrom X.env.cells scope.names []):=by rw [← hcenv]; rfl
 have hsc : cenv.scope = relS scope X.env.scope:=by rw [← hcenv]; rfl
 rw [← Heap.size_push s.heap { cls:=.type "dict",data:=.dict #[] }] at hcl
 have cm : ∀ {y c},(y,c) ∈ cloFrom X.env.cells scope.names [] → X.env.cells.lookup y = some c ∧ c < s.heap.objs.size:=fun {y c} hm=>by
  rcases cloFrom_mem hm with hm | ⟨h1,rfl⟩
  ·cases hm
  ·obtain ⟨c,hc⟩:=hfree _ h1 rfl
   rw [hc]
   obtain ⟨w,z⟩:=I.cell _ _ hc
   exact ⟨rfl,z.lt⟩
 have mem : ∀ {y c},cenv.cells.lookup y = some c → (X.env.cells.lookup y = some c ∧ c < s.heap.objs.size) ∨ (s.heap.objs.size + 1 ≤ c ∧ CellAt (pushCells (s.heap.push { cls:=.type "dict",data:=.dict #[] }) scope.names) c none):=fun {y c} e=>by
  rw [hcl] at e
  rcases cells_mem (PySem.mem_of_lookup e) with hm | ⟨_,h2,h3⟩
  ·exact .inl (cm hm)
  ·rw [Heap.size_push] at h2; exact .inr ⟨h2,h3⟩
 have look : ∀ {y},scope.names.lookup y = some .free → ∃ c,cenv.cells.lookup y = some c ∧ X.env.cells.lookup y = some c:=fun {y} hl=>by
  have hy : (y,NameKind.free) ∈ scope.names:=PySem.mem_of_lookup hl
  obtain ⟨c',e'⟩:=mem_lookup (cells_acc (names:=scope.names) (n:=(s.heap.push { cls:=.type "dict",data:=.dict #[] }).objs.size) (cloFrom_has (cells:=X.env.cells) (acc:=[]) hy))
  rw [← hcl] at e'
  refine ⟨c',e',?_⟩
  rw [hcl] at e'
  rcases cells_mem (PySem.mem_of_lookup e') with hm | ⟨h1,_,_⟩
  ·exact (cm hm).1
  ·have:=ok.uniq _ h1
   rw [hl] at this; cases this
 have okB : (X.blk s H scope cenv fp).Ok:=by
  refine ⟨I.ok.mod,by show cenv.scope.kind = _; rw [hsc]; exact ok.kind,by show cenv.globals = _; rw [← hcenv]; exact I.ok.glob,by show cenv.builtins = _; rw [← hcenv]; exact I.ok.blt,by show s.heap.objs.size ≤ cenv.locals; rw [hL]; exact Nat.le_refl _,
   fun y z c e1 e2=>?_,fun y hy=>?_,fun y c z e=>?_,I.ok.hd,I.ok.frames,.inl rfl,fun b hb=>⟨?_,fun y c e z=>?_⟩,I.bs,Nat.le_trans I.ok.bsz I.sz,fun b o e hb=>?_,fun b hb z=>?_,I.stack,I.stkFree⟩
  ·have e1 : cenv.cells.lookup y = some c:=e1
   have e2 : cenv.cells.lookup z = some c:=e2
   rw [hcl] at e1 e2
   refine cells_inj (fun p hp=>?_) (fun y z c a b=>I.ok.inj y z c (cm a).1 (cm b).1) (PySem.mem_of_lookup e1) (PySem.mem_of_lookup e2)
   rw [Heap.size_push]
   exact Nat.lt_succ_of_lt (cm (y:=p.1) (c:=p.2) hp).2
  ·show ∃ c,cenv.cells.lookup y = some c
   have key : ∀ k,cenv.kindOf y = some k → (k = .cell ∨ k = .free) → ∃ c,cenv.cells.lookup y = some c:=fun k hk hk'=>by
    unfold Env.kindOf at hk
    rw [hsc] at hk
    obtain ⟨k',e,r⟩:=lookup_relS hk
    have : k' = .cell ∨ k' = .free:=by
     rcases r with rfl | ⟨rfl,_⟩
     ·exact hk'
     ·exact .inr rfl
    rcases this with rfl | rfl
    ·obtain ⟨c,hm⟩:=cells_has (n:=(s.heap.push { cls:=.type "dict",data:=.dict #[] }).objs.size) (acc:=cloFrom X.env.cells scope.names []) (PySem.mem_of_lookup e)
     obtain ⟨c',e'⟩:=mem_lookup hm
     exact ⟨c',by rw [hcl]; exact e'⟩
    ·obtain ⟨c,h1,_⟩:=look e
     exact ⟨c,h1⟩
   rcases hy with hy | hy
   ·exact key _ hy (.inl rfl)
   ·exact key _ hy (.inr rfl)
  ·have z : (scope.names.lookup y == some NameKind.cell) = true:=z
   have z : scope.names.lookup y = some .cell:=by simpa using z
   have e : cenv.cells.lookup y = some c:=e
   rw [hcl] at e
   rcases cells_mem (PySem.mem_of_lookup e) with hm | ⟨_,h2,_⟩
   ·rcases cloFrom_mem hm with hm | ⟨h1,_⟩
    ·cases hm
    ·have q:=ok.uniq _ h1
     rw [z] at q; cases q
   ·rw [Heap.size_push] at h2
    exact Nat.le_of_succ_le h2
  ·show b ≠ cenv.locals
   rw [hL]; exact Nat.ne_of_lt (hfp b hb).2
  ·have e : cenv.cells.lookup y = some c:=e
   rcases mem e with ⟨h1,_⟩ | ⟨h1,_⟩
   ·exact (hfp b hb).1.2.2.2.2.1 y c h1 z
   ·have h2 : s.heap.objs.size + 1 ≤ b:=by rw [← z]; exact h1
    exact absurd (Nat.lt_of_lt_of_le (hfp b hb).2 (Nat.le_of_succ_le h2)) (Nat.lt_irrefl _)
  ·rcases (hfp b hb).1.2.2.2.1 with z | z
   ·exact I.ok.noex b o e z
   ·exact absurd (Nat.lt_of_lt_of_le (Heap.lt_size e) (Nat.le_trans I.ok.bsz z)) (Nat.lt_irrefl _)
  ·rcases List.mem_cons.mp (I.stkSub b z) with z | z
   ·exact (hfp b hb).1.2.1 z
   ·exact (hfp b hb).1.2.2.1 z
 refine ⟨okB,rfl,I.bare,Un.kept kp,⟨fun _=>none,?_,fun i y av e1 e2 e3=>?_⟩,fun y c e=>?_,?_,fun y c e=>?_,fun p hp=>?_,I.hok.kept kp,by rw [wipe_length]; exact I.len⟩
 ·show Heap.Ns _ cenv.locals _
  rw [hL]
  exact Heap.Ns.keeps (Heap.Ns.new ..) fun b o e=>pushCells_keeps _ _ _ _ e
 ·obtain ⟨e2,hne⟩:=wipe_some e2
  have hfr : scope.names.lookup y = some .free ∧ (cenv.kindOf y = some .cell ∨ cenv.kindOf y = some .free):=by
   have key : ∀ k,cenv.scope.names.lookup y = some k → k = .local ∨ k = .cell ∨ k = .free → scope.names.lookup y = some .free ∧ (cenv.kindOf y = some .cell ∨ cenv.kindOf y = some .free):=fun k hk hk'=>by
    have hk0:=hk
    rw [hsc] at hk
    obtain ⟨k',e,r⟩:=lookup_relS hk
    have no : ¬ (k' = .local ∨ k' = .cell):=fun hh=>by
     rcases ok.own _ (PySem.mem_of_lookup e) hh with e' | e'
     ·obtain ⟨p,hp,hpy⟩:=List.mem_map.mp e'
      have e3:=ok.ix p hp
      have : p.1 = y:=hpy
      rw [this] at e3
      exact hne (List.mem_map.mpr ⟨p,hp,nodup_ix hN e3 e1⟩)
     ·exact e' (List.mem_of_getElem? e1)
    rcases r with rfl | ⟨rfl,rfl⟩
    ·rcases hk' with rfl | rfl | rfl
     ·exact absurd (.inl rfl) no
     ·exact absurd (.inr rfl) no
     ·exact ⟨e,.inr hk0⟩
    ·exact ⟨e,.inl hk0⟩
   have e3 : Vis cenv.scope y:=e3
   rcases e3 with e3 | e3 | e3
   ·exact key _ e3 (.inl rfl)
   ·exact key _ e3 (.inr (.inl rfl))
   ·exact key _ e3 (.inr (.inr rfl))
  obtain ⟨m,hn,hl⟩:=I.loc
  have hvis : Vis X.env.scope y:=(ok.free _ (PySem.mem_of_lookup hfr.1) rfl).elim (fun k=>.inr (.inl k)) (fun k=>.inr (.inr k))
  obtain ⟨w,r,q⟩:=hl i y av e1 e2 hvis
  refine ⟨w,r,.inr ⟨hfr.2,?_⟩⟩
  obtain ⟨c,h1,h2⟩:=look hfr.1
  rcases q with ⟨k,_⟩ | ⟨_,c',e',z⟩
  ·have k : X.env.scope.names.lookup y = some .local:=k
   rcases ok.free _ (PySem.mem_of_lookup hfr.1) rfl with k' | k' <;> rw [show X.env.scope.names.lookup y = _ from k'] at k <;> cases k
  ·rw [h2] at e'; cases e'
   exact ⟨c,h1,z.keeps kp⟩
 ·have e : cenv.cells.lookup y = some c:=e
  rcases mem e with ⟨h1,_⟩ | ⟨_,z⟩
  ·obtain ⟨w,z⟩:=I.cell y c h1
   exact ⟨w,z.keeps kp⟩
  ·exact ⟨_,z⟩
 ·show H cenv.locals = none
  rw [hL]; exact I.hok.fresh (Nat.le_refl _)
 ·have e : cenv.cells.lookup y = some c:=e
  rcases mem e with ⟨h1,_⟩ | ⟨h1,_⟩
  ·exact I.freeC y c h1
  ·exact I.hok.fresh (Nat.le_of_succ_le h1)
 ·exact absurd (show p ∈ ([] : List (Addr × Obj)) ++ [] from hp) (by simp)
theorem app_ok {E : Value → Shared → Prop} {D : Addr} {xs : List V} {y : V} {v : Value} {Q : Value → Shared → Prop} (I : Inv X pins σ H s) (hD : H D = some (.lst xs)) (hz : xs.length < sizeLine) (r : RelV y v)
  (h : ∀ s',Inv X pins σ (upd H D (.lst (xs ++ [y]))) s' → Q .none s') : wpAny (model X.prog X.w) X.A (call (.builtin "list.append") [.ref D,v]) Q E s:=by
 obtain ⟨hz',its,n,ri,e⟩:=I.hok D _ hD
 have hl:=ri.length
 refine append_at (hsz:=by rw [List.size_toArray]; omega) e fun h' sb ho'=>?_
 refine h { s with heap:=h' } (I.write (t':=s.toks) (by rw [hD]; trivial) (.inl rfl) (fun b u hb q=>(sb.2 b hb).trans q) ⟨_,ho'⟩ ⟨by rw [List.length_append]; exact hz,its ++ [v],n + 1,ri.append (.cons r .nil),?_⟩)
 rw [ho']
 simp
def PTs (X : Cx) (ifs : List Expr) (t : TT) : Prop :=
 ∀ (pins : List (Addr × Obj)) (s : Shared) (σ : St) (H : Hp) (Q : Bool → Hp → Prop),Inv X pins σ H s → t σ H Q →
  wpAny (model X.prog X.w) X.A (forIn ifs true fun c r=>if r = true then do let ok ← isTrue c X.env (eval c X.env); pure (ForInStep.yield ok) else pure (ForInStep.yield r)) (TP X pins σ Q) X.xe s
def tYes : TT:=fun _ H Q=>Q true H
theorem pts_nil : PTs X [] tYes:=fun _ _ _ H _ I h=>wpAny_tests_nil ⟨H,I,h⟩
theorem pts_one {c : Expr} {t : TT} (h : PT X c t) : PTs X [c] t:=fun pins s σ H Q I hw=>wpAny_tests_one (h pins s σ H Q I hw)
end
theorem thnF {α : Type} {t : Sem α} {Q Q' : α → Shared → Prop} {M : Model} {A : Around} {E : Value → Shared → Prop} {s : Shared} (h : wpAny M A t Q (fun _ _=>False) s) (hQ : ∀ a s,Q a s → Q' a s) : wpAny M A t Q' E s:=wpAny_mono h hQ fun _ _ z=>False.elim z
theorem compLoop_any {prog : Program} {w : World} {A : Around} {R : Result → Shared → Prop} {s : Shared} {elt target iter : Expr} {ifs : List Expr} {scope : Scope} {pos : Pos} {it acc : Value} {env : Env} (I : Nat → Shared → Prop)
  (turn : ∀ n s,I n s → wpAny (model prog w) A (pyNext it) (fun r s₁=>match r with
   | none=>R (.ok .next) s₁
   | some v=>wpAny (model prog w) A (letOwnedTupleGo target it v) (fun _ s₁'=>wpAny (model prog w) A (assign target env v) (fun _ s₂ =>
     wpAny (model prog w) A (forIn ifs true fun c r=>if r = true then do let ok ← isTrue c env (eval c env); pure (ForInStep.yield ok) else pure (ForInStep.yield r)) (fun ok s₃ =>
      if ok = true then wpAny (model prog w) A (eval elt env) (fun x s₄ =>
       wpAny (model prog w) A (call (.builtin "list.append") [acc,x]) (fun _ s₅=>∃ m,m < n ∧ I m s₅) (notedBy (model prog w) A env fun e s'=>R (.error e) s') s₄) (notedBy (model prog w) A env fun e s'=>R (.error e) s') s₃
      else ∃ m,m < n ∧ I m s₃) (notedBy (model prog w) A env fun e s'=>R (.error e) s') s₂) (notedBy (model prog w) A env fun e s'=>R (.error e) s') s₁') (notedBy (model prog w) A env fun e s'=>R (.error e) s') s₁) (notedBy (model prog w) A env fun e s'=>R (.error e) s') s)
  (n : Nat) (h : I n s) :
  codeAny (model prog w) A (.compLoop (.ListComp elt [⟨target,iter,ifs,0⟩] scope pos) 0 it acc env) R s:=by
 refine codeAny_loop rfl I (fun n s hI=>?_) n h
 show wpAny _ A ((compTurn (.ListComp elt [⟨target,iter,ifs,0⟩] scope pos) 0 it acc env).onRaise (fun x=>do noteFrame x env; theTreesLotGoes x)) _ _ s
 refine wpAny_noted ?_
 rw [compTurn_list]
 refine wpAny_bind (wpAny_standAt (wpAny_bind (wpAny_mono (turn n s hI) (fun r s₁ h₁=>?_) fun _ _ h'=>h')))
 cases r with
 | none=>exact wpAny_pure h₁
 | some v =>
  refine wpAny_bind (wpAny_mono h₁ (fun _ s₁' h₁'=>?_) fun _ _ h'=>h')
  refine wpAny_bind (wpAny_mono h₁' (fun _ s₂ h₂=>wpAny_bind (wpAny_mono h₂ (fun ok s₃ h₃=>?_) fun _ _ h'=>h')) fun _ _ h'=>h')
  cases ok with
  | false=>exact wpAny_pure ⟨rfl,h₃⟩
  | true =>
   exact wpAny_bind (wpAny_bind (wpAny_mono h₃ (fun x s₄ h₄=>wpAny_bind (wpAny_mono h₄ (fun _ s₅ h₅=>wpAny_pure (wpAny_pure ⟨rfl,h₅⟩)) fun _ _ h'=>h')) fun _ _ h'=>h'))
section
variable {X : Cx}
def tLc (wi : TI) (g : TG) (tt : TT) (te : TE) (vs : List Nat) : TE:=fun σ H Q=>wi σ H fun J H1=>∀ D,H1 D = none → ∃ W : Nat → Nat → Hp → Prop,(∃ m,W 0 m (upd H1 D (.lst []))) ∧ ∀ i m H,W i m H →
 (J.stop i H ∧ Q (.ref D) H) ∨ (J.go i H ∧ ∃ Nx : Hp → Prop,(∀ H',Nx H' → ∃ m',m' < m ∧ W (i + 1) m' H') ∧ ∀ x H',J.yld i H x H' → g x (wipe σ vs) H' fun σ2 H2=>wipe σ2 vs = wipe σ vs ∧ tt σ2 H2 fun b H3 =>
  if b = true then te σ2 H3 fun y H4=>∃ acc,H4 D = some (.lst acc) ∧ acc.length < sizeLine ∧ Nx (upd H4 D (.lst (acc ++ [y]))) else Nx H3)
theorem lc_core {pins : List (Addr × Obj)} {s : Shared} {σ : St} {H : Hp} {Q : VK} {elt tg iter : Expr} {ifs : List Expr} {scope : Scope} {own : List (Str × Nat)} {pos pos' : Pos} {wi : TI} {g : TG} {tt : TT} {te : TE} {use : Option (Value → Sem Unit)} {Qf : Value → Shared → Prop}
  (hc : X.calm = true) (hN : X.N.Nodup) (I : Inv X pins σ H s) (hi : PI X tg iter wi) (ok : BlkOk X.N X.env.scope scope own)
  (hg : ∀ (s : Shared) (H : Hp) (C : Addr) (cl : List (Str × Addr)) (fp : List Addr),PG (X.blk s H scope (compEnvC scope cl C X.env) fp) tg g) (ht : ∀ (s : Shared) (H : Hp) (C : Addr) (cl : List (Str × Addr)) (fp : List Addr),PTs (X.blk s H scope (compEnvC scope cl C X.env) fp) ifs tt)
  (he : ∀ (s : Shared) (H : Hp) (C : Addr) (cl : List (Str × Addr)) (fp : List Addr),PE (X.blk s H scope (compEnvC scope cl C X.env) fp) elt te) (hs : ∀ x,foldedSetIterable iter X.env x = pure x)
  (h : tLc wi g tt te (own.map (·.2)) σ H Q)
  (hRR : ∀ D C s' m H',Inv X pins σ H' s' → Q (.ref D) H' → s'.heap.Ns C m → FpOk X pins H' C → compPost (model X.prog X.w) X.A X.xe use Qf (.ref D) C (.ok .next) s') :
  wpAny (model X.prog X.w) X.A (comprehension (.ListComp elt [⟨tg,iter,ifs,0⟩] scope pos) scope X.env pos' (newList []) false (eval iter X.env) use) Qf X.xe s:=by
 have hfree : ∀ y ∈ scope.names,y.2 = .free → ∃ c,X.env.cells.lookup y.1 = some c:=fun y hy e=>by
  rcases ok.free y hy e with k | k
  ·exact I.ok.has _ (.inl k)
  ·exact I.ok.has _ (.inr k)
 refine wpAny_comprehension_free (use:=use) rfl hs (closure_ok hfree) ok.kind (fun y hy e=>by rw [ok.uniq y hy,e])
  (thn (hi pins s σ H _ I h) fun xv s1 hx=>thn hx fun itv s2 h2=>?_)
 obtain ⟨it,fp,tn,J,H2,e,I2,T,st2,f2,q⟩:=h2
 subst e
 refine wpAny_newObj_type (newEnv_comp ?_) (by show 0 ≤ sizeLine; decide)
 generalize hD : s2.heap.objs.size = D
 have hDn : H2 D = none:=I2.hok.fresh (Nat.le_of_eq hD)
 obtain ⟨W,⟨m0,w0⟩,turn⟩:=q D hDn
 generalize hs3 : ({ s2 with heap:=s2.heap.push { cls:=.type "list",data:=.seq ([] : List Value).toArray } } : Shared) = s3
 have I3 : Inv X pins σ (upd H2 D (.lst [])) s3:=by
  rw [← hs3]
  refine I2.laid (t':=s2.toks) (fun b o e=>Heap.get?_push_of_some _ e) (Nat.le_of_eq hD) ⟨Nat.zero_le _,[],0,.nil,?_⟩
  rw [← hD]
  exact Heap.get?_push_size _ rfl
 have h3 : s3.heap = s2.heap.push { cls:=.type "list",data:=.seq ([] : List Value).toArray }:=by rw [← hs3]
 have sz : ∀ b ∈ fp,b < s2.heap.objs.size:=fun b hb=>by
  obtain ⟨o,e,_⟩:=T.obj _ _ st2 b hb
  exact Heap.lt_size e
 have f3 : ∀ b ∈ fp,FpOk X pins (upd H2 D (.lst [])) b ∧ b < s3.heap.objs.size:=fun b hb=>by
  have hlt:=sz b hb
  refine ⟨⟨?_,(f2 b hb).2⟩,by rw [h3,Heap.size_push]; exact Nat.lt_succ_of_lt hlt⟩
  rw [upd_ne (by rw [← hD]; exact Nat.ne_of_lt hlt)]
  exact (f2 b hb).1
 have st3 : tn 0 s3.heap:=T.keep _ _ _ st2 fun b _ o e=>by rw [h3]; exact Heap.get?_push_of_some _ e
 have I4:=block_start I3 ok hN f3
 have pg:=hg s3 (upd H2 D (.lst [])) s3.heap.objs.size (cellsFrom (s3.heap.objs.size + 1) scope.names (cloFrom X.env.cells scope.names [])) fp
 have pt:=ht s3 (upd H2 D (.lst [])) s3.heap.objs.size (cellsFrom (s3.heap.objs.size + 1) scope.names (cloFrom X.env.cells scope.names [])) fp
 have pe:=he s3 (upd H2 D (.lst [])) s3.heap.objs.size (cellsFrom (s3.heap.objs.size + 1) scope.names (cloFrom X.env.cells scope.names [])) fp
 show codeAny _ _ (.compStart (.ListComp elt [⟨tg,iter,ifs,0⟩] scope pos) 0 (.ref it) (.ref D) (compEnvC scope (cellsFrom (s3.heap.objs.size + 1) scope.names (cloFrom X.env.cells scope.names [])) s3.heap.objs.size X.env)) (compPost (model X.prog X.w) X.A X.xe use Qf (.ref D) s3.heap.objs.size) { s3 with heap:=pushCells (s3.heap.push { cls:=.type "dict",data:=.dict #[] }) scope.names }
 have nfp : ∀ b ∈ fp,(upd H2 D (.lst [])) b = none:=fun b hb=>(f3 b hb).1.1
 generalize hce : compEnvC scope (cellsFrom (s3.heap.objs.size + 1) scope.names (cloFrom X.env.cells scope.names [])) s3.heap.objs.size X.env = ce at I4 pg pt pe ⊢
 have cL : ce.locals = s3.heap.objs.size:=by subst hce; rfl
 generalize hH3 : upd H2 D (.lst []) = H3 at I3 I4 pg pt pe w0 nfp f3
 generalize hs4 : ({ s3 with heap:=pushCells (s3.heap.push { cls:=.type "dict",data:=.dict #[] }) scope.names } : Shared) = s4 at I4 ⊢
 have st4 : tn 0 s4.heap:=T.keep _ _ _ st3 fun b _ o e=>by rw [← hs4]; exact pushCells_keeps _ _ _ _ (Heap.get?_push_of_some _ e)
 have stat : ∀ {σ' : St} {H' : Hp} {s' : Shared},Inv (X.blk s3 H3 scope ce fp) [] σ' H' s' → (∀ b ∈ fp,H' b = none) → ∀ b ∈ fp,FpOk (X.blk s3 H3 scope ce fp) [] H' b:=fun {σ' H' s'} I' hn b hb =>
  ⟨hn b hb,(I'.ok.exf b hb).1,I'.ok.exfs b hb,.inl hb,fun x c e=>(I'.ok.exf b hb).2 x c e,fun p hp=>absurd (show p ∈ ([] : List (Addr × Obj)) ++ [] from hp) (by simp)⟩
 have loop : codeAny (model X.prog X.w) X.A (.compLoop (.ListComp elt [⟨tg,iter,ifs,0⟩] scope pos) 0 (.ref it) (.ref D) ce) (compPost (model X.prog X.w) X.A X.xe use Qf (.ref D) s3.heap.objs.size) s4:=by
  refine compLoop_any (fun n s'=>∃ i H',Inv (X.blk s3 H3 scope ce fp) [] (wipe σ (own.map (·.2))) H' s' ∧ tn i s'.heap ∧ (∀ b ∈ fp,H' b = none) ∧ W i n H') ?_ m0 ⟨0,H3,I4,st4,nfp,w0⟩
  rintro n s5 ⟨i,H5,I5,st5,n5,w5⟩
  rcases turn i n H5 w5 with ⟨stop,qq⟩ | ⟨go,Nx,hNx,step⟩
  ·have td:=T.done (X.blk s3 H3 scope ce fp) rfl rfl rfl hc i [] s5 _ H5 (fun _ _=>False) I5 (stat I5 n5) st5 stop
   refine thnF td fun r s6 ⟨hr,I6⟩=>?_
   subst hr
   have I7 : Inv X pins σ H5 s6:=I3.call' (ch:=fp) I6.os I6.base I6.hok I6.bare fun b hb=>⟨(f3 b hb).1.2.2.2.1,(f3 b hb).1.2.1,(f3 b hb).1.2.2.2.2.1,(f3 b hb).1.2.2.2.2.2⟩
   have nC : H5 s3.heap.objs.size = none:=by
    have z : H5 ce.locals = none:=I6.free
    rw [cL] at z
    exact z
   obtain ⟨m,hn,_⟩:=I6.loc
   have hn : s6.heap.Ns ce.locals m:=hn
   rw [cL] at hn
   exact hRR D s3.heap.objs.size s6 m H5 I7 qq hn (I3.fpOk (Nat.le_refl _) nC)
  ·have ti:=T.item (X.blk s3 H3 scope ce fp) rfl rfl rfl hc i [] s5 _ H5 (fun _ _=>False) I5 (stat I5 n5) st5 go
   refine thnF ti fun r s6 ⟨u,hr,h6⟩=>?_
   subst hr
   refine thnF h6 fun _ s7 ⟨x,H7,I7,r7,y7,st7,n7⟩=>?_
   have I7':=I7.pinned (stat I7 n7) (T.obj _ _ st7)
   refine thnF (pg _ s7 _ H7 x u _ I7' r7 (step x H7 y7)) fun _ s8 ⟨σ8,H8,I8,hw8,q8⟩=>?_
   refine thnF (pt _ s8 σ8 H8 _ I8 q8) fun b s9 ⟨H9,I9,q9⟩=>?_
   have fin : ∀ {s' : Shared} {H' : Hp},Inv (X.blk s3 H3 scope ce fp) ([] ++ pinsAt fp s7.heap) σ8 H' s' → Nx H' → ∃ m,m < n ∧ ∃ i H',Inv (X.blk s3 H3 scope ce fp) [] (wipe σ (own.map (·.2))) H' s' ∧ tn i s'.heap ∧ (∀ b ∈ fp,H' b = none) ∧ W i m H':=fun {s' H'} I' nx=>by
    obtain ⟨m',hm,w'⟩:=hNx H' nx
    have pin' : ∀ b ∈ fp,∀ o,s7.heap.get? b = some o → s'.heap.get? b = some o ∧ H' b = none:=fun b hb o e =>
     let z:=I'.pin (b,o) (List.mem_append_right _ (List.mem_append_right _ (mem_pinsAt hb e)))
     ⟨z.1,z.2.1⟩
    have hl : (wipe σ (own.map (·.2))).length = σ8.length:=by rw [← hw8,wipe_length]
    refine ⟨m',hm,i + 1,H',(I'.unpinned (pins:=[])).weak hl (fun j v e=>?_),T.keep _ _ _ st7 fun b hb o e=>(pin' b hb o e).1,fun b hb=>?_,w'⟩
    ·rw [← hw8] at e
     exact (wipe_some e).1
    ·obtain ⟨o,e,_⟩:=T.obj _ _ st7 b hb
     exact (pin' b hb o e).2
   cases b with
   | false =>
    simp only [Bool.false_eq_true,if_false] at q9 ⊢
    exact fin I9 q9
   | true =>
    simp only [if_true] at q9 ⊢
    refine thnF (pe _ s9 σ8 H9 _ I9 q9) fun z s10 ⟨yv,H10,I10,r10,acc,hD10,hz10,nx⟩=>?_
    exact app_ok (X:=X.blk s3 H3 scope ce fp) I10 hD10 hz10 r10 fun s11 I11=>fin I11 nx
 exact codeAny_compStart_list loop (T.self X.A 0 _ _ _ st4 loop)
theorem pe_lc {elt tg iter : Expr} {ifs : List Expr} {scope : Scope} {own : List (Str × Nat)} {pos : Pos} {wi : TI} {g : TG} {tt : TT} {te : TE} (hc : X.calm = true) (hN : X.N.Nodup) (hi : PI X tg iter wi) (ok : BlkOk X.N X.env.scope scope own)
  (hg : ∀ (s : Shared) (H : Hp) (C : Addr) (cl : List (Str × Addr)) (fp : List Addr),PG (X.blk s H scope (compEnvC scope cl C X.env) fp) tg g) (ht : ∀ (s : Shared) (H : Hp) (C : Addr) (cl : List (Str × Addr)) (fp : List Addr),PTs (X.blk s H scope (compEnvC scope cl C X.env) fp) ifs tt)
  (he : ∀ (s : Shared) (H : Hp) (C : Addr) (cl : List (Str × Addr)) (fp : List Addr),PE (X.blk s H scope (compEnvC scope cl C X.env) fp) elt te) (hs : ∀ x,foldedSetIterable iter X.env x = pure x:=by intro _; rfl) :
  PE X (.ListComp elt [⟨tg,iter,ifs,0⟩] scope pos) (tLc wi g tt te (own.map (·.2))):=by
 intro pins s σ H Q I h
 rw [eval_ListComp]
 refine lc_core hc hN I hi ok hg ht he hs h fun D C s' m H' I' q hn f=>⟨m,hn,fun h'' sb=>?_⟩
 obtain ⟨f0,f1,f2,f3,f4,f5⟩:=f
 exact ⟨.ref D,H',I'.turned (t':=s'.toks) (fun b o hb e=>(sb.2 b hb).trans e) f0 f1 f3 f4 f5,rfl,q⟩
theorem ps_setLc {i : Nat} {y : Str} {py : Pos} {elt tg iter : Expr} {ifs : List Expr} {scope : Scope} {own : List (Str × Nat)} {pos spos : Pos} {wi : TI} {g : TG} {tt : TT} {te : TE} (hc : X.calm = true) (hN : X.N.Nodup) (hy : X.N[i]? = some y) (hyl : X.env.scope.names.lookup y = some .local)
  (hsw : swapsWith (.ListComp elt [⟨tg,iter,ifs,0⟩] scope pos) (some (.Name y py)) spos.line X.env = pure true) (hi : PI X tg iter wi) (ok : BlkOk X.N X.env.scope scope own)
  (hg : ∀ (s : Shared) (H : Hp) (C : Addr) (cl : List (Str × Addr)) (fp : List Addr),PG (X.blk s H scope (compEnvC scope cl C X.env) fp) tg g) (ht : ∀ (s : Shared) (H : Hp) (C : Addr) (cl : List (Str × Addr)) (fp : List Addr),PTs (X.blk s H scope (compEnvC scope cl C X.env) fp) ifs tt)
  (he : ∀ (s : Shared) (H : Hp) (C : Addr) (cl : List (Str × Addr)) (fp : List Addr),PE (X.blk s H scope (compEnvC scope cl C X.env) fp) elt te) (hs : ∀ x,foldedSetIterable iter X.env x = pure x:=by intro _; rfl) :
  PS X (.Assign [.Name y py] (.ListComp elt [⟨tg,iter,ifs,0⟩] scope pos) spos) (tAsg (tLc wi g tt te (own.map (·.2))) (gName i)):=by
 intro pins s σ H D I h
 rw [exec_Assign_Name_used _ _ _ _ hsw]
 refine wpAny_bind (wpAny_standAt (wpAny_bind ?_))
 show wpAny _ X.A (do let _ ← comprehension (.ListComp elt [⟨tg,iter,ifs,0⟩] scope pos) scope X.env (firstIterPos [⟨tg,iter,ifs,0⟩] pos) (newList []) false (eval iter X.env) (some (assign (.Name y py) X.env))) _ _ s
 have h : tLc wi g tt te (own.map (·.2)) σ H (fun x H1=>gName i x σ H1 D.nx):=h
 refine wpAny_bind (thn (lc_core (Qf:=fun _ s'=>SP X pins D .next s') hc hN I hi ok hg ht he hs h fun L C s' m H' I' q hn f=>?_) fun _ s' hq=>wpAny_pure (wpAny_pure hq))
 show wpAny _ _ (assign (.Name y py) X.env (.ref L)) _ _ _
 refine wpAny_assign_Name (store_ok2 (v:=V.ref L) I' hN hy (.inl hyl) rfl (fun s2 I2 ⟨a,sb,ha⟩=>?_) (.inr hyl))
 obtain ⟨f0,f1,f2,f3,f4,f5⟩:=f
 have haC : C ≠ a:=by
  rcases ha with z | z
  ·rw [z]; exact f1
  ·exact fun e=>f4 y a z e.symm
 refine ⟨m,hn.sameBut sb haC,fun h3 sb3=>?_⟩
 exact ⟨_,H',I2.turned (t':=s2.toks) (fun b o hb e=>(sb3.2 b hb).trans e) f0 f1 f3 f4 f5,q⟩
end
theorem lc_list {K : PySem.W.Frag} {a : Addr} {xs : List V} {g : TG} {tt : TT} {te : TE} {vs : List Nat} {σ : St} {H1 : Hp} {D : Addr} {Qd : Hp → Prop} (Pv : Nat → Hp → Prop) (h0 : Pv 0 (upd H1 D (.lst []))) (hl : ∀ i H,i ≤ xs.length → Pv i H → SqL K H a xs)
  (hs : ∀ i x H,xs[i]? = some x → Pv i H → g x (wipe σ vs) H fun σ2 H2=>wipe σ2 vs = wipe σ vs ∧ tt σ2 H2 fun b H3 =>
   if b = true then te σ2 H3 fun y H4=>∃ acc,H4 D = some (.lst acc) ∧ acc.length < sizeLine ∧ Pv (i + 1) (upd H4 D (.lst (acc ++ [y]))) else Pv (i + 1) H3) (hd : ∀ H,Pv xs.length H → Qd H) :
  ∃ W : Nat → Nat → Hp → Prop,(∃ m,W 0 m (upd H1 D (.lst []))) ∧ ∀ i m H,W i m H →
   ((Itl K a).stop i H ∧ Qd H) ∨ ((Itl K a).go i H ∧ ∃ Nx : Hp → Prop,(∀ H',Nx H' → ∃ m',m' < m ∧ W (i + 1) m' H') ∧ ∀ x H',(Itl K a).yld i H x H' → g x (wipe σ vs) H' fun σ2 H2=>wipe σ2 vs = wipe σ vs ∧ tt σ2 H2 fun b H3 =>
    if b = true then te σ2 H3 fun y H4=>∃ acc,H4 D = some (.lst acc) ∧ acc.length < sizeLine ∧ Nx (upd H4 D (.lst (acc ++ [y]))) else Nx H3):=by
 refine ⟨fun i m H=>m = xs.length - i ∧ i ≤ xs.length ∧ Pv i H,⟨xs.length,by simp,Nat.zero_le _,h0⟩,?_⟩
 rintro i m H ⟨rfl,hi,p⟩
 have q:=hl i H hi p
 by_cases hlt : i < xs.length
 ·refine .inr ⟨⟨xs,xs[i],q,by simp [hlt]⟩,Pv (i + 1),fun H' p'=>⟨xs.length - (i + 1),by omega,rfl,hlt,p'⟩,fun x H' y=>?_⟩
  obtain ⟨e,y⟩:=y
  subst e
  exact hs i x _ (y xs q) p
 ·have e : i = xs.length:=by omega
  subst e
  exact .inl ⟨⟨xs,q,Nat.le_refl _⟩,hd H p⟩
def blkC (N : List Str) (sc scope : Scope) (own : List (Str × Nat)) : Bool :=
 (match scope.kind with | .function=>true | _=>false) && (scope.names.all fun y=>decide (scope.names.lookup y.1 = some y.2)) && (own.all fun p=>decide (N[p.2]? = some p.1)) &&
  (scope.names.all fun y=>match y.2 with
   | .free=>(match sc.names.lookup y.1 with | some .cell=>true | some .free=>true | _=>false)
   | .local=>decide (y.1 ∈ own.map (·.1)) || decide (y.1 ∉ N)
   | .cell=>decide (y.1 ∈ own.map (·.1)) || decide (y.1 ∉ N)
   | _=>true)
theorem blkOk_by {N : List Str} {sc scope : Scope} {own : List (Str × Nat)} (h : blkC N sc scope own = true) : BlkOk N sc scope own:=by
 unfold blkC at h
 simp only [Bool.and_eq_true,List.all_eq_true,decide_eq_true_eq] at h
 obtain ⟨⟨⟨h1,h2⟩,h3⟩,h4⟩:=h
 refine ⟨?_,h2,h3,fun y hy e=>?_,fun y hy e=>?_⟩
 ·split at h1
  ·assumption
  ·cases h1
 ·have q:=h4 y hy
  simp only [e] at q
  split at q <;> first | exact .inl (by assumption) | exact .inr (by assumption) | cases q
 ·have q:=h4 y hy
  rcases e with e | e <;> (simp only [e,Bool.or_eq_true,decide_eq_true_eq] at q; exact q)
end L2
namespace L2
open PySem PySem.Spec PyProof.Rows
section
variable {κ : Type} [DecidableEq κ]
def valV (kvs : List (κ × V)) (k : κ) : Option V:=(kvs.find? fun kv=>decide (kv.1 = k)).map (·.2)
def putK (kvs : List (κ × V)) (k : κ) (v : V) : List (κ × V) :=
 if (kvs.any fun kv=>decide (kv.1 = k)) = true then kvs.map (fun kv=>if kv.1 = k then (kv.1,v) else kv) else kvs ++ [(k,v)]
def dropK (kvs : List (κ × V)) (k : κ) : List (κ × V):=kvs.filter fun kv=>decide (kv.1 ≠ k)
theorem valV_pos {p : κ × V} {r : List (κ × V)} {k : κ} (e : p.1 = k) : valV (p :: r) k = some p.2:=by simp [valV,List.find?_cons,e]
theorem valV_neg {p : κ × V} {r : List (κ × V)} {k : κ} (e : ¬ p.1 = k) : valV (p :: r) k = valV r k:=by simp [valV,List.find?_cons,e]
theorem valV_any (k : κ) : ∀ kvs : List (κ × V),(kvs.any fun kv=>decide (kv.1 = k)) = (valV kvs k).isSome
 | []=>rfl
 | p :: r=>by
  rw [List.any_cons]
  by_cases e : p.1 = k
  ·simp only [valV_pos e,decide_eq_true e,Bool.true_or,Option.isSome_some]
  ·rw [valV_neg e,decide_eq_false e,Bool.false_or]; exact valV_any k r
theorem valV_map (k j : κ) (y : V) : ∀ kvs : List (κ × V),valV (kvs.map fun kv=>if kv.1 = k then (kv.1,y) else kv) j = (valV kvs j).map fun x=>if j = k then y else x
 | []=>rfl
 | p :: r=>by
  have ih:=valV_map k j y r
  rw [List.map_cons]
  by_cases h : p.1 = k
  ·rw [if_pos h]
   by_cases e : p.1 = j
   ·rw [valV_pos (p:=(p.1,y)) e,valV_pos e,Option.map_some,if_pos (e.symm.trans h)]
   ·rw [valV_neg (p:=(p.1,y)) e,valV_neg e,ih]
  ·rw [if_neg h]
   by_cases e : p.1 = j
   ·rw [valV_pos (p:=p) e,valV_pos e,Option.map_some,if_neg (fun z=>h (e.trans z))]
   ·rw [valV_neg (p:=p) e,valV_neg e,ih]
theorem valV_snoc (k j : κ) (y : V) : ∀ kvs : List (κ × V),valV kvs k = none → valV (kvs ++ [(k,y)]) j = if j = k then some y else valV kvs j
 | [],_=>by
  by_cases e : k = j
  ·rw [if_pos e.symm]; exact valV_pos (p:=(k,y)) e
  ·rw [if_neg (fun z=>e z.symm)]; exact valV_neg (p:=(k,y)) e
 | p :: r,hn=>by
  rw [List.cons_append]
  have hk : ¬ p.1 = k:=fun z=>by rw [valV_pos z] at hn; cases hn
  rw [valV_neg hk] at hn
  have ih:=valV_snoc k j y r hn
  by_cases e : p.1 = j
  ·rw [valV_pos e,valV_pos e,if_neg (fun z=>hk (e.trans z))]
  ·rw [valV_neg e,valV_neg e,ih]
theorem valV_put (kvs : List (κ × V)) (k j : κ) (y : V) : valV (putK kvs k y) j = if j = k then some y else valV kvs j:=by
 unfold putK
 by_cases a : (kvs.any fun kv=>decide (kv.1 = k)) = true
 ·rw [if_pos a,valV_map]
  rw [valV_any] at a
  by_cases e : j = k
  ·obtain ⟨x,hx⟩:=Option.isSome_iff_exists.mp a
   rw [if_pos e,e,hx,Option.map_some,if_pos rfl]
  ·rw [if_neg e]
   cases valV kvs j with
   | none=>rfl
   | some x=>rw [Option.map_some,if_neg e]
 ·rw [if_neg a]
  refine valV_snoc k j y kvs ?_
  rw [valV_any] at a
  cases q : valV kvs k with
  | none=>rfl
  | some x=>rw [q] at a; exact (a rfl).elim
theorem length_putK (kvs : List (κ × V)) (k : κ) (v : V) : (putK kvs k v).length ≤ kvs.length + 1:=by
 unfold putK
 split
 ·rw [List.length_map]; omega
 ·rw [List.length_append,List.length_cons,List.length_nil]; omega
theorem putK_new {kvs : List (κ × V)} {k : κ} (v : V) (h : valV kvs k = none) : putK kvs k v = kvs ++ [(k,v)]:=by
 unfold putK
 rw [valV_any,h]
 exact if_neg (by decide)
theorem RelO.isSome_eq {o : Option V} {u : Option Value} (r : RelO o u) : o.isSome = u.isSome:=by
 cases o with
 | none=>cases u with
  | none=>rfl
  | some _=>exact (show False from r).elim
 | some _=>cases u with
  | none=>exact (show False from r).elim
  | some _=>rfl
theorem KV.val {kvs : List (κ × V)} {vs : List (κ × Value)} (r : KV kvs vs) (k : κ) : RelO (valV kvs k) (valueAt vs k):=by
 unfold KV at r
 induction r with
 | nil=>exact True.intro
 | @cons p q ps qs h t ih =>
  obtain ⟨h1,h2⟩:=h
  by_cases e : p.1 = k
  ·have e' : q.1 = k:=h1.symm.trans e
   have b : valueAt (q :: qs) k = some q.2:=by simp [valueAt,List.find?_cons,e']
   rw [valV_pos e,b]; exact h2
  ·have e' : ¬ q.1 = k:=fun z=>e (h1.trans z)
   have b : valueAt (q :: qs) k = valueAt qs k:=by simp [valueAt,List.find?_cons,e']
   rw [valV_neg e,b]; exact ih
theorem KV.any {kvs : List (κ × V)} {vs : List (κ × Value)} (r : KV kvs vs) (k : κ) : (kvs.any fun kv=>decide (kv.1 = k)) = vs.any fun kv=>decide (kv.1 = k):=by
 unfold KV at r
 induction r with
 | nil=>rfl
 | cons h t ih=>rw [List.any_cons,List.any_cons,ih,h.1]
theorem KV.repl {kvs : List (κ × V)} {vs : List (κ × Value)} (r : KV kvs vs) (k : κ) {y : V} {u : Value} (ry : RelV y u) :
  KV (kvs.map fun kv=>if kv.1 = k then (kv.1,y) else kv) (vs.map fun kv=>if kv.1 = k then (kv.1,u) else kv):=by
 unfold KV at r ⊢
 induction r with
 | nil=>exact .nil
 | @cons p q ps qs h t ih =>
  rw [List.map_cons,List.map_cons]
  refine .cons ?_ ih
  obtain ⟨h1,h2⟩:=h
  by_cases e : p.1 = k
  ·rw [if_pos e,if_pos (h1.symm.trans e)]; exact ⟨h1,ry⟩
  ·rw [if_neg e,if_neg (fun z=>e (h1.trans z))]; exact ⟨h1,h2⟩
theorem KV.put {kvs : List (κ × V)} {vs : List (κ × Value)} (r : KV kvs vs) (k : κ) {y : V} {u : Value} (ry : RelV y u) : KV (putK kvs k y) (stored vs k u):=by
 unfold putK stored
 rw [r.any k]
 by_cases e : (vs.any fun kv=>decide (kv.1 = k)) = true
 ·rw [if_pos e,if_pos e]; exact r.repl k ry
 ·rw [if_neg e,if_neg e]; exact Paired.snoc r ⟨rfl,ry⟩
theorem KV.drop {kvs : List (κ × V)} {vs : List (κ × Value)} (r : KV kvs vs) (k : κ) : KV (dropK kvs k) (without vs k):=by
 unfold KV at r ⊢
 unfold dropK without
 induction r with
 | nil=>exact .nil
 | @cons p q ps qs h t ih =>
  obtain ⟨h1,h2⟩:=h
  rw [List.filter_cons,List.filter_cons]
  by_cases e : p.1 = k
  ·have a : ¬ decide (p.1 ≠ k) = true:=by simp [e]
   have b : ¬ decide (q.1 ≠ k) = true:=by simp [h1.symm.trans e]
   rw [if_neg a,if_neg b]; exact ih
  ·have e' : ¬ q.1 = k:=fun z=>e (h1.trans z)
   have a : decide (p.1 ≠ k) = true:=by simp [e]
   have b : decide (q.1 ≠ k) = true:=by simp [e']
   rw [if_pos a,if_pos b]; exact .cons ⟨h1,h2⟩ ih
theorem KV.length {kvs : List (κ × V)} {vs : List (κ × Value)} (r : KV kvs vs) : kvs.length = vs.length:=Paired.length r
theorem dropK_le (kvs : List (κ × V)) (k : κ) : (dropK kvs k).length ≤ kvs.length:=List.length_filter_le _ _
end
theorem kV_is {P : Program} {w : World} {k : Key} {u : Value} (r : RelV (kV k) u) : (mixKind P w).is k u = true:=by
 cases k with
 | inl i=>obtain ⟨t,e⟩:=(show ∃ t,u = Value.int i t from r); subst e; exact mixKind_int P w i t
 | inr x=>obtain ⟨t,e⟩:=(show ∃ t,u = Value.str x t from r); subst e; exact mixKind_str P w x t
theorem items_are {P : Program} {w : World} : ∀ {ks : List Key} {us : List Value},Vals (ks.map kV) us → ItemsAre (mixKind P w) ks us
 | [],_,r=>by rw [List.map_nil] at r; cases r; exact .nil
 | k :: ks,_,r=>by
  rw [List.map_cons] at r
  cases r with
  | cons h t=>exact .cons (kV_is h) (items_are t)
abbrev KT (H : Hp) : List (List Key × V) → List (List Key × Addr × Value) → Prop:=Paired fun p q=>p.1 = q.1 ∧ H q.2.1 = some (.tup (p.1.map kV)) ∧ RelV p.2 q.2.2
theorem KT.val {H : Hp} {kvs : List (List Key × V)} {xs : List (List Key × Addr × Value)} (r : KT H kvs xs) (k : List Key) : RelO (valV kvs k) ((atKey xs k).map (·.2)):=by
 induction r with
 | nil=>exact True.intro
 | @cons p q ps qs h t ih =>
  obtain ⟨h1,_,h2⟩:=h
  by_cases e : p.1 = k
  ·have e' : q.1 = k:=h1.symm.trans e
   have b : atKey (q :: qs) k = some q.2:=by simp [atKey,List.find?_cons,e']
   rw [valV_pos e,b]; exact h2
  ·have e' : ¬ q.1 = k:=fun z=>e (h1.trans z)
   have b : atKey (q :: qs) k = atKey qs k:=by simp [atKey,List.find?_cons,e']
   rw [valV_neg e,b]; exact ih
theorem KT.repl {H : Hp} {kvs : List (List Key × V)} {xs : List (List Key × Addr × Value)} (r : KT H kvs xs) (k : List Key) {y : V} {u : Value} (ry : RelV y u) :
  KT H (kvs.map fun kv=>if kv.1 = k then (kv.1,y) else kv) (xs.map (putAt k u)):=by
 induction r with
 | nil=>exact .nil
 | @cons p q ps qs h t ih =>
  rw [List.map_cons,List.map_cons]
  refine .cons ?_ ih
  obtain ⟨h1,h2,h3⟩:=h
  unfold putAt
  by_cases e : p.1 = k
  ·rw [if_pos e,if_pos (h1.symm.trans e)]; exact ⟨h1,h2,ry⟩
  ·rw [if_neg e,if_neg (fun z=>e (h1.trans z))]; exact ⟨h1,h2,h3⟩
theorem KT.put {H : Hp} {kvs : List (List Key × V)} {xs : List (List Key × Addr × Value)} (r : KT H kvs xs) (k : List Key) {b : Addr} {y : V} {u : Value} (hb : H b = some (.tup (k.map kV))) (ry : RelV y u) :
  KT H (putK kvs k y) (storedH xs k b u):=by
 have e : (kvs.any fun kv=>decide (kv.1 = k)) = (atKey xs k).isSome:=by
  rw [valV_any,(r.val k).isSome_eq,Option.isSome_map]
 unfold putK storedH
 rw [e]
 by_cases q : (atKey xs k).isSome = true
 ·rw [if_pos q,if_pos q]; exact r.repl k ry
 ·rw [if_neg q,if_neg q]; exact Paired.snoc r ⟨rfl,hb,ry⟩
theorem KT.keeps {H H' : Hp} {kvs : List (List Key × V)} {xs : List (List Key × Addr × Value)} (r : KT H kvs xs) (ht : ∀ b ys,H b = some (.tup ys) → H' b = some (.tup ys)) : KT H' kvs xs :=
 Paired.mapP r fun _ _ z=>⟨z.1,ht _ _ z.2.1,z.2.2⟩
section
variable {P : Program} {w : World} {H : Hp} {h : Heap} {a : Addr}
theorem rd_of {u : HO} (ok : HOk P w H h) (e : Rd H a u) : ObjOk P w H h a u:=e.ok ok
theorem dk_rd {kvs : List (Key × V)} (ok : HOk P w H h) (e : Rd H a (.dK kvs)) : kvs.length ≤ sizeLine ∧ (a == sysModules) = false ∧ ∃ vs,KV kvs vs ∧ h.DictOf (mixKind P w) a vs :=
 show ObjOk P w H h a (.dK kvs) from rd_of ok e
theorem dk_of {kvs : List (Key × V)} (ok : HOk P w H h) (e : H a = some (.dK kvs)) : kvs.length ≤ sizeLine ∧ (a == sysModules) = false ∧ ∃ vs,KV kvs vs ∧ h.DictOf (mixKind P w) a vs:=dk_rd ok (.inl e)
theorem key_of {ks : List Key} (ok : HOk P w H h) (e : H a = some (.tup (ks.map kV))) : (tupleKind (mixKind P w)).is h ks a:=by
 obtain ⟨_,its,r,o,h1,h2,n,h3⟩:=(show ObjOk P w H h a (.tup (ks.map kV)) from ok a _ e)
 exact ⟨o,its.toArray,n,h1,h2,h3,by simpa using items_are r⟩
theorem dt_rd {kvs : List (List Key × V)} (ok : HOk P w H h) (e : Rd H a (.dT kvs)) : kvs.length ≤ sizeLine ∧ (a == sysModules) = false ∧
  ∃ xs,KT H kvs xs ∧ h.DictOfH (tupleKind (mixKind P w)) a xs:=by
 obtain ⟨z,y,xs,r,o,es,ep,h1,h2,h3,h4,h5⟩:=(show ObjOk P w H h a (.dT kvs) from rd_of ok e)
 refine ⟨z,y,xs,r,o,es,ep,h1,h2,h3,h4,fun x hx=>?_,h5⟩
 have all : ∀ {l : List (List Key × V)} {m : List (List Key × Addr × Value)},KT H l m → ∀ x ∈ m,(tupleKind (mixKind P w)).is h x.1 x.2.1:=by
  intro l m q
  induction q with
  | nil=>intro x hx; exact nomatch hx
  | @cons p q ps qs hq t ih =>
   intro x hx
   rcases List.mem_cons.mp hx with e | hx
   ·subst e
    exact key_of ok (by rw [← hq.1]; exact hq.2.1)
   ·exact ih x hx
 exact all r x hx
theorem dt_of {kvs : List (List Key × V)} (ok : HOk P w H h) (e : H a = some (.dT kvs)) : kvs.length ≤ sizeLine ∧ (a == sysModules) = false ∧
  ∃ xs,KT H kvs xs ∧ h.DictOfH (tupleKind (mixKind P w)) a xs:=dt_rd ok (.inl e)
end
def DGet (H : Hp) (a : Addr) (y : V) (r : Option V) : Prop :=
 (∃ kvs k,Rd H a (.dK kvs) ∧ y = kV k ∧ r = valV kvs k) ∨ ∃ kvs k b,Rd H a (.dT kvs) ∧ y = .ref b ∧ H b = some (.tup (k.map kV)) ∧ r = valV kvs k
def DPut (H : Hp) (a : Addr) (y v : V) (H' : Hp) : Prop :=
 (∃ kvs k,H a = some (.dK kvs) ∧ y = kV k ∧ kvs.length < sizeLine ∧ H' = upd H a (.dK (putK kvs k v))) ∨
 ∃ kvs k b,H a = some (.dT kvs) ∧ y = .ref b ∧ H b = some (.tup (k.map kV)) ∧ kvs.length < sizeLine ∧ H' = upd H a (.dT (putK kvs k v))
theorem DGet.k {H : Hp} {a : Addr} {kvs : List (Key × V)} {k : Key} (e : H a = some (.dK kvs)) : DGet H a (kV k) (valV kvs k):=.inl ⟨kvs,k,.inl e,rfl,rfl⟩
theorem DPut.k {H : Hp} {a : Addr} {kvs : List (Key × V)} {k : Key} {v : V} (e : H a = some (.dK kvs)) (hl : kvs.length < sizeLine) : DPut H a (kV k) v (upd H a (.dK (putK kvs k v))):=.inl ⟨kvs,k,e,rfl,hl,rfl⟩
section
variable {X : Cx} {pins : List (Addr × Obj)} {σ : St} {H : Hp} {s : Shared} {a : Addr} {y v : V} {u r : Value} {o : Option V} {A : Around} {E : Value → Shared → Prop}
theorem Inv.big (I : Inv X pins σ H s) : sysModules < s.heap.objs.size:=by
 have h : mainGlobals < s.heap.objs.size:=(I.mod.glob.keeps I.bk).lt
 exact Nat.lt_trans (by decide) h
theorem d_getItem {Q : Value → Shared → Prop} (hu : A.units + 1 < cLine) (I : Inv X pins σ H s) (g : DGet H a y (some v)) (ry : RelV y u) (h : ∀ w' s',Inv X pins σ H s' → RelV v w' → Q w' s') :
  wpAny (model X.prog X.w) A (getItem (.ref a) u) Q E s:=by
 rcases g with ⟨kvs,k,e,ey,l⟩ | ⟨kvs,k,b,e,ey,eb,l⟩
 ·subst ey
  obtain ⟨z,hd,vs,rel,dd⟩:=dk_rd I.hok e
  obtain ⟨w',hw,rw'⟩:=RelO.some_of (v:=v) (o:=valueAt vs k) (by rw [l]; exact rel.val k)
  exact wpAny_getItem_of (kV_is ry) dd.mapOf hw (h w' _ (I.tok _) rw')
 ·subst ey
  cases (show u = Value.ref b from ry)
  obtain ⟨z,hd,xs,rel,dd⟩:=dt_rd I.hok e
  obtain ⟨w',hw,rw'⟩:=RelO.some_of (v:=v) (o:=(atKey xs k).map (·.2)) (by rw [l]; exact rel.val k)
  obtain ⟨p,hp,hp2⟩:=Option.map_eq_some_iff.mp hw
  refine wpAny_getItem_heap (tupleKind_room_in1 hu) (key_of I.hok eb) dd hp ?_
  rw [hp2]
  exact h w' _ (I.tok _) rw'
theorem d_notIn {Q : Value → Shared → Prop} (hu : A.units + 1 < cLine) (I : Inv X pins σ H s) (g : DGet H a y o) (ry : RelV y u) (h : ∀ s',Inv X pins σ H s' → Q (.bool (!o.isSome)) s') :
  wpAny (model X.prog X.w) A (compareOp .NotIn u (.ref a)) Q E s:=by
 rcases g with ⟨kvs,k,e,ey,l⟩ | ⟨kvs,k,b,e,ey,eb,l⟩
 ·subst ey
  obtain ⟨z,hd,vs,rel,dd⟩:=dk_rd I.hok e
  refine wpAny_notIn_of (kV_is ry) hd dd.mapOf ?_
  rw [← (rel.val k).isSome_eq,← l]
  exact h _ (I.tok _)
 ·subst ey
  cases (show u = Value.ref b from ry)
  obtain ⟨z,hd,xs,rel,dd⟩:=dt_rd I.hok e
  refine wpAny_notIn_heap (tupleKind_room_in1 hu) (key_of I.hok eb) hd dd ?_
  have q:=(rel.val k).isSome_eq
  rw [Option.isSome_map] at q
  rw [← q,← l]
  exact h _ (I.tok _)
theorem d_write {h' : Heap} {t' : Nat} {ob : HO} (I : Inv X pins σ H s) (mu : Mut (H a)) (hs : Heap.SameBut a s.heap h') (he : ∃ q,h'.get? a = some q) (new : ObjOk X.prog X.w (upd H a ob) h' a ob) :
  Inv X pins σ (upd H a ob) { s with heap:=h',toks:=t' } :=
 I.write (x:=a) (e:=a) mu (.inl rfl) (fun b q hb z=>(hs.2 b hb).trans z) he new
theorem dk_new {P : Program} {w : World} {H' : Hp} {h' : Heap} {kvs : List (Key × V)} {vs : List (Key × Value)} (z : kvs.length ≤ sizeLine) (hd : (a == sysModules) = false) (rel : KV kvs vs) (dd : h'.DictOf (mixKind P w) a vs) :
  ObjOk P w H' h' a (.dK kvs):=⟨z,hd,vs,rel,dd⟩
theorem d_setItem {H' : Hp} {Q : Unit → Shared → Prop} (hu : A.units + 1 < cLine) (I : Inv X pins σ H s) (g : DPut H a y v H') (ry : RelV y u) (rv : RelV v r) (h : ∀ s',Inv X pins σ H' s' → Q () s') :
  wpAny (model X.prog X.w) A (setItem (.ref a) u r) Q E s:=by
 rcases g with ⟨kvs,k,e,ey,l,eH⟩ | ⟨kvs,k,b,e,ey,eb,l,eH⟩
 ·subst ey eH
  obtain ⟨z,hd,vs,rel,dd⟩:=dk_of I.hok e
  have hz : vs.length ≤ sizeLine:=by rw [← rel.length]; exact z
  have hl : (putK kvs k v).length ≤ sizeLine:=by have:=length_putK kvs k v; omega
  refine wpAny_setItem_pairs (hsz:=hz) (kV_is ry) dd fun h' dd' hs=>h _ ?_
  have he : ∃ q,h'.get? a = some q:=let ⟨q,_,_,hq,_⟩:=dd'; ⟨q,hq⟩
  exact d_write I (by rw [e]; exact True.intro) hs he (dk_new hl hd (rel.put k rv) dd')
 ·subst ey eH
  cases (show u = Value.ref b from ry)
  obtain ⟨z,hd,xs,rel,dd⟩:=dt_of I.hok e
  have hz : xs.length ≤ sizeLine:=by rw [← Paired.length rel]; exact z
  have hl : (putK kvs k v).length ≤ sizeLine:=by have:=length_putK kvs k v; omega
  refine wpAny_setItem_heap (hsz:=hz) (tupleKind_room_in1 hu) (key_of I.hok eb) dd fun h' dd' hs=>h _ ?_
  obtain ⟨q,es,ep,hq,h2,h3,h4,_,h5⟩:=dd'
  refine d_write I (by rw [e]; exact True.intro) hs ⟨q,hq⟩ ⟨hl,hd,_,(rel.put k eb rv).keeps fun c ys ec=>?_,q,es,ep,hq,h2,h3,h4,h5⟩
  rw [upd_ne (ne_of ec e (fun z=>nomatch z))]
  exact ec
end
section
variable {X : Cx} {pins : List (Addr × Obj)} {σ : St} {H : Hp} {s : Shared} {a : Addr} {kvs : List (Key × V)} {k : Key} {u : Value} {A : Around} {E : Value → Shared → Prop}
theorem d_delItem {Q : Unit → Shared → Prop} (I : Inv X pins σ H s) (e : H a = some (.dK kvs)) (ry : RelV (kV k) u) (l : (valV kvs k).isSome = true) (h : ∀ s',Inv X pins σ (upd H a (.dK (dropK kvs k))) s' → Q () s') :
  wpAny (model X.prog X.w) A (delItem (.ref a) u) Q E s:=by
 obtain ⟨z,hd,vs,rel,dd⟩:=dk_of I.hok e
 refine wpAny_delItem_slot dd.typeIs (by decide) PySem.F.slot_dict_delitem
  (call_meetsIn PySem.F.slot_dict_delitem dd.typeIs PySem.F.entry_dict_delitem (PySem.F.args_dict_delitem_2 _ _) (meets_dict_delitem_pairs (mixKind X.prog X.w) a (kV_is ry)) ⟨vs,dd,by rw [← rel.length]; exact z,by rw [← (rel.val k).isSome_eq]; exact l,fun h' dd' hs=>h _ ?_⟩)
 have he : ∃ q,h'.get? a = some q:=let ⟨q,_,_,hq,_⟩:=dd'; ⟨q,hq⟩
 exact d_write I (by rw [e]; exact True.intro) hs he (dk_new (Nat.le_trans (dropK_le kvs k) z) hd (rel.drop k) dd')
theorem d_pop {v : V} {more : List Value} {Q : Value → Shared → Prop} (I : Inv X pins σ H s) (e : H a = some (.dK kvs)) (ry : RelV (kV k) u) (l : valV kvs k = some v) (hm : more = [] ∨ ∃ x,more = [x])
  (h : ∀ w' s',Inv X pins σ (upd H a (.dK (dropK kvs k))) s' → RelV v w' → Q w' s') : wpAny (model X.prog X.w) A (call (.builtin "dict.pop") (.ref a :: u :: more)) Q E s:=by
 obtain ⟨z,hd,vs,rel,dd⟩:=dk_of I.hok e
 obtain ⟨w',hw,rw'⟩:=RelO.some_of (v:=v) (o:=valueAt vs k) (by rw [← l]; exact rel.val k)
 have hp : (keyPart u).isSome = true:=by
  cases k with
  | inl i=>obtain ⟨t,q⟩:=(show ∃ t,u = Value.int i t from ry); subst q; rfl
  | inr x=>obtain ⟨t,q⟩:=(show ∃ t,u = Value.str x t from ry); subst q; rfl
 have ha : argsOk "dict.pop" ⟨.ref a :: u :: more,[]⟩:=by
  rcases hm with q | ⟨x,q⟩
  ·subst q; exact PySem.F.args_dict_pop_2 _ _
  ·subst q; exact PySem.F.args_dict_pop_3 _ _ _
 refine call_meetsIn PySem.F.slot_dict_pop dd.typeIs PySem.F.entry_dict_pop ha (meets_dict_pop_there (mixKind X.prog X.w) a (kV_is ry) more hm hp)
  ⟨vs,w',dd,by rw [← rel.length]; exact z,hw,fun h' dd' hs=>h w' _ ?_ rw'⟩
 have he : ∃ q,h'.get? a = some q:=let ⟨q,_,_,hq,_⟩:=dd'; ⟨q,hq⟩
 exact d_write I (by rw [e]; exact True.intro) hs he (dk_new (Nat.le_trans (dropK_le kvs k) z) hd (rel.drop k) dd')
theorem d_len {Q : Value → Shared → Prop} (I : Inv X pins σ H s) (e : Rd H a (.dK kvs)) (h : ∀ t s',Inv X pins σ H s' → Q (.int kvs.length t) s') : wpAny (model X.prog X.w) A (call (.builtin "len") [.ref a]) Q E s:=by
 obtain ⟨z,hd,vs,rel,dd⟩:=dk_rd I.hok e
 refine call_len_dict hd dd (by rw [← rel.length]; rw [sizeLine_eq] at z; omega) ?_
 rw [← rel.length]
 exact h _ _ (I.tok _)
end
def NoSl (i : Expr) : Prop:=∀ ov iv,subscripted i false ov iv = operate [ov,iv] (getItem ov iv)
theorem subD_of {prog : Program} {w : World} {A : Around} {E : Value → Shared → Prop} {s : Shared} {env : Env} {value slice : Expr} {pos : Pos} {T id : String} {Q : Value → Shared → Prop}
  (hl : typeLookup (.type T) "__getitem__" = pure (some (.builtin id))) (hs : NoSl slice)
  (h : wpAny (model prog w) A (eval value env) (fun o s₁=>wpAny (model prog w) A (eval slice env) (fun i s₂=>s₂.TypeIs o T ∧ wpAny (model prog w) A (getItem o i) Q E s₂) E s₁) E s) :
  wpAny (model prog w) A (eval (.Subscript value slice pos) env) Q E s:=by
 refine Subscript_ (wpAny_mono h (fun o s₁ h₁=>wpAny_mono h₁ (fun i s₂ h₂=>?_) fun _ _ x=>x) fun _ _ x=>x)
 obtain ⟨hT,h₂⟩:=h₂
 unfold subscriptTail
 refine wpAny_bind ?_
 rw [getitemInPython_of_ne hT.not_modules]
 refine wpAny_bind (wpAny_specialOf hT hl ?_)
 have fin : wpAny (model prog w) A (subscripted slice false o i) (fun r s₃=>wpAny (model prog w) A (letTemporaryGo value o r >>= fun _=>pure r) Q E s₃) E s₂:=by
  rw [hs o i]
  exact wpAny_operating (wpAny_mono h₂ (fun r s₃ h₃=>wpAny_bind (wpAny_letTemporaryGo (wpAny_pure h₃))) fun _ _ x=>x)
 first
  | exact wpAny_pure (wpAny_bind fin)
  | exact wpAny_bind (wpAny_pure (wpAny_bind fin))
  | exact wpAny_bind fin
theorem dict_typeIs {X : Cx} {pins : List (Addr × Obj)} {σ : St} {H : Hp} {s : Shared} {a : Addr} {y : V} {o : Option V} (I : Inv X pins σ H s) (g : DGet H a y o) : s.TypeIs (.ref a) "dict":=by
 rcases g with ⟨kvs,k,e,_,_⟩ | ⟨kvs,k,b,e,_,_,_⟩
 ·obtain ⟨_,_,vs,_,dd⟩:=dk_rd I.hok e
  exact dd.typeIs
 ·obtain ⟨_,_,xs,_,dd⟩:=dt_rd I.hok e
  exact dd.typeIs
def tDGet (td ty : TE) : TE:=fun σ H Q=>td σ H fun x H1=>ty σ H1 fun y H2=>∃ a v,x = .ref a ∧ DGet H2 a y (some v) ∧ Q v H2
def tDNotIn (ty td : TE) : TE:=fun σ H Q=>ty σ H fun y H1=>td σ H1 fun x H2=>∃ a o,x = .ref a ∧ DGet H2 a y o ∧ Q (.bl (!o.isSome)) H2
def sDPut (td ty tv : TE) : TS:=fun D σ H=>tv σ H fun v H1=>td σ H1 fun x H2=>ty σ H2 fun y H3=>∃ a H4,x = .ref a ∧ DPut H3 a y v H4 ∧ D.nx σ H4
section
variable {X : Cx} {o i e value : Expr} {pos pos' tpos : Pos} {td ty tv : TE}
theorem pe_dget (hu : X.A.units + 1 < cLine) (ho : PE X o td) (hi : PE X i ty) (hs : NoSl i) : PE X (.Subscript o i pos) (tDGet td ty):=by
 intro pins s σ H Q I h
 refine subD_of PySem.F.slot_dict_getitem.lookup hs (thn (ho pins s σ H _ I h) fun u s1 ⟨x,H1,I1,rx,q1⟩=>thn (hi pins s1 σ H1 _ I1 q1) fun iv s2 ⟨y,H2,I2,ry,a,v,ex,g,q2⟩=>?_)
 subst ex
 obtain rfl : u = Value.ref a:=rx
 exact ⟨dict_typeIs I2 g,d_getItem hu I2 g ry fun w' s3 I3 rw'=>⟨v,H2,I3,rw',q2⟩⟩
theorem pc_dnotin (hu : X.A.units + 1 < cLine) (hi : PE X i ty) (ho : PE X o td) : PC X .NotIn i o (tDNotIn ty td):=by
 intro pins s σ H Q I h
 refine thn (hi pins s σ H _ I h) fun iv s1 ⟨y,H1,I1,ry,q1⟩=>thn (ho pins s1 σ H1 _ I1 q1) fun u s2 ⟨x,H2,I2,rx,a,ov,ex,g,q2⟩=>?_
 subst ex
 obtain rfl : u = Value.ref a:=rx
 exact d_notIn hu I2 g ry fun s3 I3=>⟨.bl (!ov.isSome),H2,I3,rfl,q2⟩
theorem ps_dput (hu : X.A.units + 1 < cLine) (ho : PE X o td) (hi : PE X i ty) (hv : PE X value tv) (hs : swapsWith value (some (.Subscript o i pos')) pos.line X.env = pure false) :
  PS X (.Assign [.Subscript o i pos'] value pos) (sDPut td ty tv):=by
 intro pins s σ H D I h
 refine wpAny_Assign_Subscript (thn (hv pins s σ H _ I h) fun r s1 ⟨v,H1,I1,rv,q1⟩=>thn (ho pins s1 σ H1 _ I1 q1) fun u s2 ⟨x,H2,I2,rx,q2⟩=>thn (hi pins s2 σ H2 _ I2 q2) fun iv s3 ⟨y,H3,I3,ry,a,H4,ex,g,q3⟩=>?_) hs
 subst ex
 obtain rfl : u = Value.ref a:=rx
 exact d_setItem hu I3 g ry rv fun s4 I4=>⟨σ,H4,I4,q3⟩
end
theorem dk_empty {P : Program} {w : World} {H : Hp} (h : Heap) (hb : sysModules < h.objs.size) : ObjOk P w H (h.push { cls:=.type "dict",data:=.dict #[] }) h.objs.size (.dK []) :=
 ⟨Nat.zero_le _,beq_eq_false_iff_ne.mpr (Ne.symm (Nat.ne_of_lt hb)),[],.nil,Heap.DictOf.new h⟩
def tDNewK : TE:=fun _ H Q=>∀ p,H p = none → Q (.ref p) (upd H p (.dK []))
section
variable {X : Cx} {pos : Pos}
theorem pe_dnewK : PE X (.Dict [] [] pos) tDNewK:=fun pins s σ H Q I h =>
 wpAny_Dict_empty ⟨.ref s.heap.objs.size,_,I.laid (a:=s.heap.objs.size) (o:=.dK []) (t':=s.toks) (fun _ _ q=>Heap.get?_push_of_some _ q) (Nat.le_refl _) (dk_empty s.heap I.big),rfl,h _ (I.hok.fresh (Nat.le_refl _))⟩
end
structure M1 (X : Cx) (o : Expr) (m : Str) (apos : Pos) (e : Expr) (cpos : Pos) : Prop where
 base : attributeBase o m X.env (eval o X.env) = eval o X.env
 few : ((backTo cpos (starEach [e] X.env)).all (fun x=>!x.1) && (backToKw cpos (keywordEach [] X.env)).all (fun x=>x.1.isSome)
  && decide (([e] : List Expr).length + ([] : List Keyword).length + (if ([] : List Keyword).isEmpty then 0 else 1) < 30)) = true
 line : (apos.endLine == cpos.line) = true
 trees : backTo cpos (starEach [e] X.env) = [(false,eval e X.env)]
def IsD (H : Hp) (a : Addr) : Prop:=(∃ kvs,Rd H a (.dK kvs)) ∨ ∃ kvs,Rd H a (.dT kvs)
theorem isD_at {X : Cx} {pins : List (Addr × Obj)} {σ : St} {H : Hp} {s : Shared} {a : Addr} (I : Inv X pins σ H s) (d : IsD H a) :
  s.TypeIs (.ref a) "dict" ∧ (∀ b,Value.ref a = .ref b → ∃ ob,s.heap.get? b = some ob ∧ ob.dict = none) ∧ (a == sysModules) = false:=by
 rcases d with ⟨kvs,e⟩ | ⟨kvs,e⟩
 ·obtain ⟨_,hd,vs,_,dd⟩:=dk_rd I.hok e
  refine ⟨dd.typeIs,fun b q=>?_,hd⟩
  cases q
  obtain ⟨ob,_,_,h1,h2,_⟩:=dd
  exact ⟨ob,h1,h2.2.1⟩
 ·obtain ⟨_,hd,xs,_,dd⟩:=dt_rd I.hok e
  refine ⟨dd.typeIs,fun b q=>?_,hd⟩
  cases q
  obtain ⟨ob,_,_,h1,h2,_⟩:=dd
  exact ⟨ob,h1,h2.2.1⟩
def tDPop1 (td ty : TE) : TE:=fun σ H Q=>td σ H fun x H1=>∃ a,x = .ref a ∧ IsD H1 a ∧ ty σ H1 fun y H2=>∃ kvs k v,H2 a = some (.dK kvs) ∧ y = kV k ∧ valV kvs k = some v ∧ Q v (upd H2 a (.dK (dropK kvs k)))
section
variable {X : Cx} {o e f : Expr} {apos cpos : Pos} {td ty tx : TE}
theorem pe_dpop1 (ho : PE X o td) (he : PE X e ty) (m : M1 X o "pop" apos e cpos) : PE X (.Call (.Attribute o "pop" apos) [e] [] cpos) (tDPop1 td ty):=by
 intro pins s σ H Q I h
 refine wpAny_Call_method m.base m.few m.line PySem.F.plainAttrs_dict PySem.F.slot_dict_pop PySem.F.type_dict_pop (thn (ho pins s σ H _ I h) fun u s1 ⟨x,H1,I1,rx,a,ex,d,q1⟩=>?_)
 subst ex
 obtain rfl : u = Value.ref a:=rx
 obtain ⟨t1,t2,_⟩:=isD_at I1 d
 refine ⟨t1,t2,?_⟩
 rw [m.trees]
 refine Calls.callWith_builtin rfl (Calls.evalArgs_plain (Calls.spliced_cons (thn (he pins s1 σ H1 _ I1 q1) fun iv s2 ⟨y,H2,I2,ry,kvs,k,v,ea,ey,l,q2⟩=>Calls.spliced_nil ?_)))
 subst ey
 exact d_pop I2 ea ry l (.inl rfl) fun w' s3 I3 rw'=>⟨v,_,I3,rw',q2⟩
end
section
variable {X : Cx} {pins : List (Addr × Obj)} {σ : St} {H : Hp} {s : Shared} {a : Addr} {kvs : List (Key × V)} {A : Around} {E : Value → Shared → Prop}
theorem d_copyOf {Q : Value → Shared → Prop} (I : Inv X pins σ H s) (e : Rd H a (.dK kvs)) (h : ∀ p s',H p = none → Inv X pins σ (upd H p (.dK kvs)) s' → Q (.ref p) s') : wpAny (model X.prog X.w) A (call (.type "dict") [.ref a]) Q E s:=by
 obtain ⟨z,hd,vs,rel,dd⟩:=dk_rd I.hok e
 refine kt_call_dict hd dd (by rw [← rel.length]; exact z) fun h' dd' hs=>?_
 refine h _ _ (I.hok.fresh (Nat.le_refl _)) (I.laid (a:=s.heap.objs.size) (o:=.dK kvs) (t':=s.toks) (fun b q hq=>?_) (Nat.le_refl _) (dk_new z (beq_eq_false_iff_ne.mpr (Ne.symm (Nat.ne_of_lt I.big))) rel dd'))
 exact (hs.2 b (Nat.ne_of_lt (Heap.lt_size hq))).trans (Heap.get?_push_of_some _ hq)
end
end L2
namespace L2
open PySem PySem.Spec PyProof.Rows
section
variable {X : Cx}
theorem refs_at : ∀ {ps : List Addr} {us : List Value},Vals (ps.map V.ref) us → us = ps.map Value.ref
 | [],us,r=>by
  rw [List.map_nil] at r
  cases r
  rfl
 | p :: ps,us,r=>by
  rw [List.map_cons] at r
  cases r with
  | cons h t =>
   cases h
   rw [List.map_cons,← refs_at t]
end
end L2
namespace L2
open PySem PySem.Spec PyProof.Rows
section
variable {X : Cx} {pins : List (Addr × Obj)} {σ : St} {H : Hp} {s : Shared} {h' : Heap}
theorem Inv.turnedNew {t' : Nat} {ch : List Addr} {T : Addr} {ob : HO} (I : Inv X pins σ H s) (k : ∀ b o,b ∉ ch → s.heap.get? b = some o → h'.get? b = some o) (hf : ∀ b ∈ ch,FpOk X pins H b) (hT : s.heap.objs.size ≤ T)
  (new : ObjOk X.prog X.w (upd H T ob) h' T ob) : Inv X pins σ (upd H T ob) { s with heap:=h',toks:=t' }:=by
 have hn : H T = none:=I.hok.fresh hT
 have nit : ∀ b u,H b = some u → b ∉ ch:=fun b u e z=>by
  have q:=(hf b z).1
  rw [q] at e; cases e
 refine I.step (g':=s.gens) (d':=s.drawn) (ch:=ch) (fun b hb=>⟨(hf b hb).2.2.2.1,(hf b hb).2.1,(hf b hb).2.2.2.2.1,(hf b hb).2.2.2.2.2⟩) (fun b o _ _ hc e _=>k b o hc e) (fun b o _ _ hc e _=>⟨o.slots,k b o hc e⟩)
  (fun b o _ e n=>?_) (fun b o hc e=>⟨o,k b o hc e⟩) (fun b xs e=>?_) (fun b o u e=>?_) (fun b ps e=>⟨#[],?_⟩) (fun m hm=>?_) (fun b u e=>?_) I.bare
 ·rw [upd_ne (Nat.ne_of_lt (Nat.lt_of_lt_of_le (Heap.lt_size e) hT))]; exact n
 ·rw [upd_ne (ne_of_none e hn)]; exact e
 ·rw [upd_ne (ne_of_none e hn)]; exact e
 ·rw [upd_ne (ne_of_none e hn),e]; simp
 ·obtain ⟨o,es,ep,ho,r⟩:=hm
  exact ⟨o,es,ep,k _ o (fun z=>(hf _ z).2.1 rfl) ho,r⟩
 ·by_cases hb : b = T
  ·subst hb
   rw [upd_same] at e
   cases e
   exact new
  ·rw [upd_ne hb] at e
   refine (I.hok b u e).stay (fun c v hc q=>k c v ?_ q) (fun c q=>by rw [upd_ne (ne_of_none q hn)]; exact q) fun c xs q=>by rw [upd_ne (ne_of_none q hn)]; exact q
   rcases hc with z | z
   ·rw [z]; exact nit b u e
   ·exact nit c _ z
theorem Inv.lock {d : Addr} {u : HO} (I : Inv X pins σ H s) (h : H d = some u) (mu : Mut (some u)) : ∃ od,Inv X pins σ (upd H d (.frz od u)) s:=by
 have x:=I.hok d u h
 have ex : ∃ od,s.heap.get? d = some od:=by
  cases u with
  | lst xs=>obtain ⟨_,_,_,_,e⟩:=x; exact ⟨_,e⟩
  | dK kvs=>obtain ⟨_,_,_,_,o,_,_,e,_⟩:=x; exact ⟨o,e⟩
  | dT kvs=>obtain ⟨_,_,_,_,o,_,_,e,_⟩:=x; exact ⟨o,e⟩
  | set S n=>obtain ⟨o,_,_,_,e,_⟩:=x; exact ⟨o,e⟩
  | ins C dx fs=>obtain ⟨_,_,_,e,_⟩:=x; exact ⟨_,e⟩
  | ext φ=>obtain ⟨_,⟨_,e⟩,_⟩:=x; exact ⟨_,e⟩
  | _=>exact False.elim mu
 obtain ⟨od,e⟩:=ex
 have new : ObjOk X.prog X.w (upd H d (.frz od u)) s.heap d (.frz od u):=by
  refine ⟨e,x.stay (fun b v _ q=>q) (fun b q=>?_) fun b xs q=>?_⟩
  ·rw [upd_ne (fun z=>by rw [z,h] at q; cases q; exact mu)]; exact q
  ·rw [upd_ne (fun z=>by rw [z,h] at q; cases q; exact mu)]; exact q
 exact ⟨od,I.write (x:=d) (e:=d) (t':=s.toks) (h':=s.heap) (by rw [h]; exact mu) (.inl rfl) (fun b v _ q=>q) ⟨od,e⟩ new⟩
theorem Inv.nofrz {d : Addr} {u : HO} (I : Inv X pins σ H s) (h : H d = some u) (mu : Mut (some u)) : ∀ o' u',X.H_0 d ≠ some (.frz o' u'):=fun o' u' e=>by
 have q:=I.base.frzs d o' u' e
 rw [h] at q
 cases q
 exact mu
theorem Inv.unlock {d : Addr} {od : Obj} {u : HO} (I : Inv X pins σ H s) (h : H d = some (.frz od u)) (hn : ∀ o' u',X.H_0 d ≠ some (.frz o' u')) : Inv X pins σ (upd H d u) s:=by
 have neH : ∀ b o,H b = some o → (∀ o' u',o ≠ .frz o' u') → b ≠ d:=fun b o e hne z=>by
  rw [z,h] at e
  cases e
  exact hne _ _ rfl
 have neN : ∀ b,H b = none → b ≠ d:=fun b e z=>by rw [z,h] at e; cases e
 refine ⟨I.ok,I.os,I.bare,⟨I.base.keep,I.base.slot,fun b o e n hx=>?_,I.base.there,fun b xs e=>?_,fun b o x e=>?_,fun b ps e=>?_⟩,I.loc,I.cell,?_,fun x c e=>?_,fun p hp=>?_,fun b o e=>?_,I.len⟩
 ·rw [upd_ne (neN b (I.base.free b o e n hx))]; exact I.base.free b o e n hx
 ·have q:=I.base.tups b xs e
  rw [upd_ne (neH b _ q (fun _ _ z=>nomatch z))]; exact q
 ·have q:=I.base.frzs b o x e
  rw [upd_ne (fun z=>by rw [z] at e; exact hn _ _ e)]; exact q
 ·obtain ⟨m,q⟩:=I.base.tbls b ps e
  exact ⟨m,by rw [upd_ne (neH b _ q (fun _ _ z=>nomatch z))]; exact q⟩
 ·rw [upd_ne (neN _ I.free)]; exact I.free
 ·rw [upd_ne (neN c (I.freeC x c e))]; exact I.freeC x c e
 ·obtain ⟨e,n,r⟩:=I.pin p hp
  exact ⟨e,by rw [upd_ne (neN _ n)]; exact n,r⟩
 ·by_cases hb : b = d
  ·rw [hb,upd_same] at e
   cases e
   rw [hb]
   obtain ⟨_,x⟩:=I.hok d _ h
   exact x.stay (fun c v _ q=>q) (fun c q=>by rw [upd_ne (neH c _ q (fun _ _ z=>nomatch z))]; exact q) fun c xs q=>by rw [upd_ne (neH c _ q (fun _ _ z=>nomatch z))]; exact q
  ·rw [upd_ne hb] at e
   exact (I.hok b o e).stay (fun c v _ q=>q) (fun c q=>by rw [upd_ne (neH c _ q (fun _ _ z=>nomatch z))]; exact q) fun c xs q=>by rw [upd_ne (neH c _ q (fun _ _ z=>nomatch z))]; exact q
end
def tLock (t : TS) : TS:=fun D σ H=>∃ d u,H d = some u ∧ Mut (some u) ∧ ∀ od,t ⟨fun σ' H'=>H' d = some (.frz od u) ∧ D.nx σ' (upd H' d u),fun v H'=>H' d = some (.frz od u) ∧ D.rt v (upd H' d u),fun σ' H'=>H' d = some (.frz od u) ∧ D.bk σ' (upd H' d u),fun σ' H'=>H' d = some (.frz od u) ∧ D.ct σ' (upd H' d u)⟩ σ (upd H d (.frz od u))
section
variable {X : Cx}
theorem ps_lock {st : Stmt} {t : TS} (h : PS X st t) : PS X st (tLock t):=by
 intro pins s σ H D I hw
 obtain ⟨d,u,hd,mu,hw⟩:=hw
 obtain ⟨od,I1⟩:=I.lock hd mu
 refine thn (h pins s σ _ _ I1 (hw od)) fun f s1 q=>?_
 cases f with
 | next=>obtain ⟨σ',H',I2,e,q⟩:=q; exact ⟨σ',_,I2.unlock e (I.nofrz hd mu),q⟩
 | brk=>obtain ⟨σ',H',I2,e,q⟩:=q; exact ⟨σ',_,I2.unlock e (I.nofrz hd mu),q⟩
 | cont=>obtain ⟨σ',H',I2,e,q⟩:=q; exact ⟨σ',_,I2.unlock e (I.nofrz hd mu),q⟩
 | ret v=>obtain ⟨x,σ',H',I2,r,e,q⟩:=q; exact ⟨x,σ',_,I2.unlock e (I.nofrz hd mu),r,q⟩
theorem pi_one {tg : Expr} {pins : List (Addr × Obj)} {σ : St} {H : Hp} {s : Shared} {R : It → Hp → Prop} {J : It} {tn : Nat → Heap → Prop} {tk : Nat} (I : Inv X pins σ H s) (o : Obj)
  (T : Turn X.prog X.w X.K tg J [s.heap.objs.size] s.heap.objs.size tn) (st : tn 0 (s.heap.push o)) (q : R J H) : PIE X pins σ tg R (.ref s.heap.objs.size) { s with heap:=s.heap.push o,toks:=tk }:=by
 refine ⟨s.heap.objs.size,[s.heap.objs.size],tn,J,H,rfl,I.kept fun b ob e=>Heap.get?_push_of_some _ e,T,st,fun b hb=>?_,q⟩
 have e : b = s.heap.objs.size:=by simpa using hb
 subst e
 exact I.fpOk (Nat.le_refl _) (I.hok.fresh (Nat.le_refl _))
end
def Itc (lo c : Int) (n : Nat) : It:=⟨fun i _=>i < n,fun i H x H'=>H' = H ∧ x = .int (lo + (i : Nat) * c),fun i _=>n ≤ i⟩
theorem turn_rangeC {P : Program} {w : World} {K : PySem.W.Frag} {tg : Expr} (it : Addr) (lo c : Int) (n : Nat) : Turn P w K tg (Itc lo c n) [it] it (fun i h=>IsRangeIter h it (lo + (i : Nat) * c) ((n : Int) - (i : Nat)) c) where
 mem:=by simp
 obj:=fun i h st b hb=>by
  have e : b = it:=by simpa using hb
  subst e
  exact ⟨_,st,fun v z=>nomatch z⟩
 keep:=fun i h h' st k=>k it (by simp) _ st
 item:=by
  intro X hP hw hK hc i pins s σ H E I hf st hg
  subst hP hw hK
  obtain ⟨f0,f1,f2,f3,f4,f5⟩:=hf it (by simp)
  have W:=Walks.range (prog:=X.prog) (w:=X.w) (I.ok.hd hc) it lo c n
  refine W.item i s _ _ hg st fun v h' tk hv st' kk=>?_
  obtain ⟨t,rfl⟩:=hv
  have I1 : Inv X pins σ H { s with heap:=h',toks:=tk }:=I.turned (fun b o hb e=>kk b o (by simpa using hb) e) f0 f1 f3 f4 f5
  exact ⟨_,rfl,go_of (s:={ s with heap:=h',toks:=tk }) (n:="range_iterator") st' rfl rfl (by decide) ⟨.int (lo + (i : Nat) * c),H,I1,⟨t,rfl⟩,⟨rfl,rfl⟩,st',fun b hb=>(hf b hb).1⟩⟩
 done:=by
  intro X hP hw hK hc i pins s σ H E I hf st hg
  subst hP hw hK
  obtain ⟨f0,f1,f2,f3,f4,f5⟩:=hf it (by simp)
  exact wpAny_pyNext_range_end (I.ok.hd hc) st (by have : n ≤ i:=hg; omega) fun h' eb=>⟨rfl,I.turned (t':=s.toks) (fun b o hb e=>eb b o hb e) f0 f1 f3 f4 f5⟩
 self:=fun A i s Q E st h=>wpAny_pyIter_rangeiter st h
def RgC (i j c : Int) (n : Nat) : Prop:=c ≠ 0 ∧ c.natAbs < 1073741824 ∧ Builtin.Range.small i j c = true ∧ Builtin.Range.rangeSize i j c = n
def iRng3 (ta : TA) : TI:=fun σ H R=>ta σ H fun vs H1=>∃ (i j c : Int) (n : Nat),vs = [.int i,.int j,.int c] ∧ RgC i j c n ∧ R (Itc i c n) H1
section
variable {X : Cx} {tg : Expr}
theorem pi_range3 {a b c : Expr} {ta : TA} {p pos : Pos} (hg : Gl X "range") (hm : X.mg "range" = none) (ha : PA X [a,b,c] ta)
  (hs : starEach [a,b,c] X.env = (false,eval a X.env) :: starEach [b,c] X.env:=by rfl) (hpl : (backTo pos (starEach [b,c] X.env)).any (·.1) = false:=by rfl) :
  PI X tg (.Call (.Name "range" p) [a,b,c] [] pos) (iRng3 ta):=by
 intro pins s σ H R I h
 refine Call_ (ld_blt I hg hm boot_range (PyProof.Rows.callWith_type1 (thn (ha pos pins s σ H _ I h) fun us s1 ⟨vs,H1,I1,r1,q1⟩=>?_) hs hpl))
 obtain ⟨i,j,k,n,e,⟨c0,c1,c2,c3⟩,q⟩:=q1
 subst e
 cases r1 with
 | cons r rr =>
  cases rr with
  | cons r' rr =>
   cases rr with
   | cons r'' rr =>
    cases rr
    obtain ⟨t,rfl⟩:=r
    obtain ⟨t',rfl⟩:=r'
    obtain ⟨t'',rfl⟩:=r''
    refine call_range_3 c0 ?_ (.inl (PyProof.noPylong_small c1))
    refine wpAny_pyIter_range (IsRange.new ..) c2 ?_
    have I2 : Inv X pins σ H1 { s1 with heap:=s1.heap.push { cls:=.type "range",data:=.fields #[.int i t,.int j t',.int k t''] } }:=I1.kept (t':=s1.toks) fun b o e=>Heap.get?_push_of_some _ e
    refine pi_one (tk:=s1.toks) I2 _ (turn_rangeC _ i k n) ?_ q
    have e1 : i + ((0 : Nat) : Int) * k = i:=by simp
    have e2 : (n : Int) - ((0 : Nat) : Int) = Builtin.Range.rangeSize i j k:=by rw [c3]; simp
    show IsRangeIter _ _ (i + ((0 : Nat) : Int) * k) ((n : Int) - ((0 : Nat) : Int)) k
    rw [e1,e2]
    exact Heap.get?_push_size _ rfl
end
def Its (x : Str) : It:=⟨fun i _=>i < x.cps.size,fun i H v H'=>H' = H ∧ ∃ c,x.cps[i]? = some c ∧ v = .str ⟨#[c]⟩,fun i _=>x.cps.size ≤ i⟩
theorem turn_str {P : Program} {w : World} {K : PySem.W.Frag} {tg : Expr} (it : Addr) (x : Str) (t : Tok) (ty : String) (hty : ty = "str_ascii_iterator" ∨ ty = "str_iterator") :
  Turn P w K tg (Its x) [it] it (fun i h=>h.IsStrIter it ty x t i) where
 mem:=by simp
 obj:=fun i h st b hb=>by
  have e : b = it:=by simpa using hb
  subst e
  obtain ⟨o,e,c,d⟩:=st
  exact ⟨o,e,fun v z=>by rw [d] at z; cases z⟩
 keep:=fun i h h' st k=>let ⟨o,ho,r⟩:=st; ⟨o,k it (by simp) o ho,r⟩
 item:=by
  intro X hP hw hK hc i pins s σ H E I hf st hg
  subst hP hw hK
  obtain ⟨f0,f1,f2,f3,f4,f5⟩:=hf it (by simp)
  have W : Walks X.prog X.w X.A it [it] [it] x.cps.size (SignAt x) (fun i h=>h.IsStrIter it ty x t i):=by
   rcases hty with e | e
   ·rw [e]; exact Walks.strAscii (I.ok.hd hc) it x t
   ·rw [e]; exact Walks.strWide (I.ok.hd hc) it x t
  have hno : ["enumerate","zip","dict_itemiterator","dict_reverseitemiterator","odict_iterator","itertools.zip_longest","itertools.pairwise"].contains ty = false:=by
   rcases hty with e | e
   ·rw [e]; decide
   ·rw [e]; decide
  refine W.item i s _ _ hg st fun v h' tk hv st' kk=>?_
  obtain ⟨c,u,hcx,rfl⟩:=hv
  have I1 : Inv X pins σ H { s with heap:=h',toks:=tk }:=I.turned (fun b o hb e=>kk b o (by simpa using hb) e) f0 f1 f3 f4 f5
  obtain ⟨oi,e,cc,dd⟩:=id st'
  exact ⟨_,rfl,go_of (s:={ s with heap:=h',toks:=tk }) e cc dd hno ⟨.str ⟨#[c]⟩,H,I1,⟨u,rfl⟩,⟨rfl,c,hcx,rfl⟩,st',fun b hb=>(hf b hb).1⟩⟩
 done:=by
  intro X hP hw hK hc i pins s σ H E I hf st hg
  subst hP hw hK
  obtain ⟨f0,f1,f2,f3,f4,f5⟩:=hf it (by simp)
  have hx : x.cps[i]? = none:=Array.getElem?_eq_none hg
  rcases hty with e | e
  ·rw [e] at st
   exact wpAny_pyNext_ascii_end (I.ok.hd hc) st hx fun h' eb=>⟨rfl,I.turned (t':=s.toks) (fun b o hb e=>eb b o hb e) f0 f1 f3 f4 f5⟩
  ·rw [e] at st
   exact wpAny_pyNext_wide_end (I.ok.hd hc) st hx fun h' eb=>⟨rfl,I.turned (t':=s.toks) (fun b o hb e=>eb b o hb e) f0 f1 f3 f4 f5⟩
 self:=fun A i s Q E st h=>by
  rcases hty with e | e
  ·rw [e] at st; exact wpAny_pyIter_striter_ascii st h
  ·rw [e] at st; exact wpAny_pyIter_striter_wide st h
def iStr (te : TE) : TI:=fun σ H R=>te σ H fun v H1=>∃ x,v = .str x ∧ R (Its x) H1
theorem pi_str {X : Cx} {tg e : Expr} {te : TE} (he : PE X e te) : PI X tg e (iStr te):=by
 intro pins s σ H R I h
 refine thn (he pins s σ H _ I h) fun v s1 ⟨y,H1,I1,r1,x,ex,q⟩=>?_
 subst ex
 obtain ⟨t,rfl⟩:=r1
 cases ha : x.cps.all (· < 128)
 ·exact wpAny_pyIter_wide ha (pi_one (tk:=s1.toks) I1 _ (turn_str _ x t "str_iterator" (.inr rfl)) ⟨_,Heap.get?_push_size _ rfl,rfl,rfl⟩ q)
 ·exact wpAny_pyIter_ascii ha (pi_one (tk:=s1.toks) I1 _ (turn_str _ x t "str_ascii_iterator" (.inl rfl)) ⟨_,Heap.get?_push_size _ rfl,rfl,rfl⟩ q)
section
variable {prog : Program} {w : World} {A : Around} {E : Value → Shared → Prop} {s : Shared}
theorem iter_keys {d : Addr} {o : Obj} {es : Array DictEntry} {ep : Nat} {Q : Value → Shared → Prop} (hd : (d == sysModules) = false) (ho : s.heap.get? d = some o) (hc : o.ExactDict) (hdat : o.data = .dict es ep)
  (hQ : Q (.ref s.heap.objs.size) { s with heap:=s.heap.push { cls:=.type "dict_keyiterator",data:=.fields #[.ref d,.int 0 0,.int es.size 0,.int ep 0] } }) :
  wpAny (model prog w) A (pyIter (.ref d)) Q E s:=by
 have hT : s.TypeIs (.ref d) "dict":=⟨o,ho,hc.1⟩
 refine wpAny_pyIter_slot hT F.slot_dict_iter (wpAny_call_entry F.slot_dict_iter hT F.entry_dict_iter ?_ (F.args_dict_iter_1 _))
 unfold Builtin.«dict.__iter__»
 refine wpAny_bind ?_
 unfold Builtin.Dict.dictSlotNone
 refine wpAny_bind (wpAny_notOrdered_dict hT ?_)
 show wpAny _ _ (pure (Value.ref d)) _ _ s
 refine wpAny_pure ?_
 show wpAny _ _ (Builtin.Dict.showsAll d >>= _) _ _ s
 unfold Builtin.Dict.showsAll
 rw [if_neg (by rw [hd]; exact Bool.false_ne_true)]
 refine wpAny_bind (wpAny_pure ?_)
 refine wpAny_bind (wpAny_dictEntries ho hdat ?_)
 refine wpAny_bind (wpAny_dictEpoch ho hdat ?_)
 refine wpAny_bind (wpAny_newObj_type (wpAny_pure ⟨_,rfl,"dict_keyiterator",_,⟨_,Heap.get?_push_size _ rfl,rfl⟩,F.slot_dict_keyiterator_next.lookup,?_⟩))
 simpa [rawInt] using hQ
theorem next_key_item {it d : Addr} {i n ep : Nat} {od : Obj} {es : Array DictEntry} {en : DictEntry} {Q : Option Value → Shared → Prop} (hit : s.heap.IsKeyIter it d i n ep) (hod : s.heap.get? d = some od) (hdd : od.data = .dict es ep)
  (hsz : es.size = n) (hx : es[i]? = some en) (hQ : ∀ h',h'.IsKeyIter it d (i + 1) n ep → Heap.SameBut it s.heap h' → Q (some en.key) { s with heap:=h' }) : wpAny (model prog w) A (pyNext (.ref it)) Q E s:=by
 obtain ⟨o,ho,hc,hd⟩:=id hit
 unfold pyNext
 refine wpAny_bind (wpAny_attempt (wpAny_callSpecial?_slot (name:=Str.ofString "__next__") hit.typeIs F.slot_dict_keyiterator_next
  (wpAny_call_entry F.slot_dict_keyiterator_next hit.typeIs F.entry_dict_keyiterator_next ?_ (F.args_dict_keyiterator_next_1 _))))
 refine wpAny_bind (wpAny_pure ?_)
 refine wpAny_bind ?_
 refine wpAny_bind ?_
 first | refine wpAny_bind (wpAny_typeNameOfWhole_keyiter hit.typeIs (wpAny_pure ?_)) | refine wpAny_bind (wpAny_typeNameOf_keyiter hit.typeIs (wpAny_pure ?_))
 refine wpAny_bind (wpAny_fieldsOf ho hd ?_)
 have hown : Builtin.Dict_items.ownsTuple "dict_keyiterator" = false:=by decide
 simp only [hown,Bool.false_eq_true,if_false]
 show wpAny _ _ (if (Value.ref d == Value.none) = true then _ else _) _ _ s
 rw [if_neg (show ¬ ((Value.ref d == Value.none) = true) from Bool.false_ne_true)]
 refine wpAny_bind (wpAny_pure ?_)
 refine wpAny_bind (wpAny_dictEntries hod hdd ?_)
 rw [if_neg (by rw [hsz]; simp)]
 refine wpAny_bind (wpAny_pure ?_)
 refine wpAny_bind (wpAny_dictEpoch hod hdd ?_)
 rw [if_neg (by simp)]
 refine wpAny_pure ?_
 obtain ⟨hlt',hen⟩:=Array.getElem?_eq_some_iff.mp hx
 simp only [show ¬ ((i : Int) < 0) from by omega,if_false,Int.toNat_natCast,Array.getElem?_eq_getElem hlt']
 refine wpAny_bind ?_
 first | refine wpAny_bind (wpAny_typeNameOfWhole_keyiter hit.typeIs (wpAny_pure ?_)) | refine wpAny_bind (wpAny_typeNameOf_keyiter hit.typeIs (wpAny_pure ?_))
 refine wpAny_bind (wpAny_isOneOf_keyiter hit.typeIs ?_)
 show wpAny _ _ (setField (.ref it) 1 (rawInt ((i : Int) + 1)) >>= _) _ _ s
 refine wpAny_bind (wpAny_setField ho hd (by simp) ?_)
 have hit' : (s.heap.update it (Obj.mapFields (·.setIfInBounds 1 (rawInt ((i : Int) + 1))))).IsKeyIter it d (i + 1) n ep :=
  ⟨_,Heap.get?_update_self _ ho (Obj.isFreed_of_fields (Obj.data_mapFields hd _)),(Obj.cls_mapFields ..).trans hc,by rw [Obj.data_mapFields hd]; simp [rawInt]⟩
 refine wpAny_bind (wpAny_holding ?_)
 refine wpAny_bind (wpAny_isOneOf_keyiter (s:={ s with heap:=s.heap.update it (Obj.mapFields (·.setIfInBounds 1 (rawInt ((i : Int) + 1)))) }) hit'.typeIs ?_)
 show wpAny _ _ (pure es[i].key) _ _ _
 rw [hen]
 exact wpAny_pure (wpAny_pure ⟨_,rfl,wpAny_pure (hQ _ hit' (Heap.SameBut.update ..))⟩)
theorem next_key_end {it d : Addr} {i n ep : Nat} {od : Obj} {es : Array DictEntry} {Q : Option Value → Shared → Prop} (hh : A.handled = none) (hit : s.heap.IsKeyIter it d i n ep) (hod : s.heap.get? d = some od) (hdd : od.data = .dict es ep)
  (hsz : es.size = n) (hge : n ≤ i) (hQ : ∀ h',Heap.ExtBut it s.heap h' → Q none { s with heap:=h' }) : wpAny (model prog w) A (pyNext (.ref it)) Q E s:=by
 obtain ⟨o,ho,hc,hd⟩:=id hit
 unfold pyNext
 refine wpAny_bind (wpAny_attempt (wpAny_callSpecial?_slot (name:=Str.ofString "__next__") hit.typeIs F.slot_dict_keyiterator_next
  (wpAny_call_entry F.slot_dict_keyiterator_next hit.typeIs F.entry_dict_keyiterator_next ?_ (F.args_dict_keyiterator_next_1 _))))
 refine wpAny_bind (wpAny_pure ?_)
 refine wpAny_bind ?_
 refine wpAny_bind ?_
 first | refine wpAny_bind (wpAny_typeNameOfWhole_keyiter hit.typeIs (wpAny_pure ?_)) | refine wpAny_bind (wpAny_typeNameOf_keyiter hit.typeIs (wpAny_pure ?_))
 refine wpAny_bind (wpAny_fieldsOf ho hd ?_)
 have hown : Builtin.Dict_items.ownsTuple "dict_keyiterator" = false:=by decide
 simp only [hown,Bool.false_eq_true,if_false]
 show wpAny _ _ (if (Value.ref d == Value.none) = true then _ else _) _ _ s
 rw [if_neg (show ¬ ((Value.ref d == Value.none) = true) from Bool.false_ne_true)]
 refine wpAny_bind (wpAny_pure ?_)
 refine wpAny_bind (wpAny_dictEntries hod hdd ?_)
 rw [if_neg (by rw [hsz]; simp)]
 refine wpAny_bind (wpAny_pure ?_)
 refine wpAny_bind (wpAny_dictEpoch hod hdd ?_)
 rw [if_neg (by simp)]
 refine wpAny_pure ?_
 have hge' : es.size ≤ i:=by rw [hsz]; exact hge
 simp only [show ¬ ((i : Int) < 0) from by omega,if_false,Int.toNat_natCast,Array.getElem?_eq_none hge']
 refine wpAny_bind ?_
 first | refine wpAny_bind (wpAny_typeNameOfWhole_keyiter hit.typeIs (wpAny_pure ?_)) | refine wpAny_bind (wpAny_typeNameOf_keyiter hit.typeIs (wpAny_pure ?_))
 show wpAny _ _ (setField (.ref it) 0 .none >>= _) _ _ s
 refine wpAny_bind (wpAny_setField ho hd (by simp) ?_)
 show wpAny _ _ (newExc (.type "StopIteration") [] >>= _) _ _ _
 refine wpAny_bind ?_
 simp only [newExc,newTuple]
 refine wpAny_bind (wpAny_newObj_type ?_ (by size_fits))
 refine wpAny_bind (m:=firstArgMember _ _) (wpAny_of_eq (a:=Value.none) (by first | rfl | (simp only [firstArgMember]; rfl)) ?_)
 refine wpAny_newObj_type ?_ (by size_fits)
 simp only [raiseNew]
 refine wpAny_bind (wpAny_handled ?_)
 rw [show A.in1.handled = none from hh]
 refine wpAny_bind (wpAny_pure (wpAny_throw ?_))
 refine wpAny_bind (wpAny_isInstance (T:="StopIteration") (b:=true) ⟨_,Heap.get?_push_size _ rfl,rfl⟩ isSubtype_stop ?_)
 exact wpAny_pure (hQ _ (((Heap.SameBut.update ..).extBut.push _).push _))
end
theorem kv_get {κ : Type} {kvs : List (κ × V)} {vs : List (κ × Value)} (h : KV kvs vs) : ∀ {i : Nat} {k : κ} {v : V},kvs[i]? = some (k,v) → ∃ u,vs[i]? = some (k,u) ∧ RelV v u:=by
 unfold KV at h
 induction h with
 | nil=>intro i k v e; simp at e
 | @cons a b l₁ l₂ r t ih =>
  intro i k v e
  cases i with
  | zero =>
   simp only [List.getElem?_cons_zero,Option.some.injEq] at e
   subst e
   refine ⟨b.2,?_,r.2⟩
   simp only [List.getElem?_cons_zero]
   exact congrArg some (Prod.ext r.1.symm rfl)
  | succ j =>
   simp only [List.getElem?_cons_succ] at e ⊢
   exact ih e
theorem paired_get {α β : Type} {G : α → β → Prop} {l₁ : List α} {l₂ : List β} (h : Paired G l₁ l₂) : ∀ {i : Nat} {a : α},l₁[i]? = some a → ∃ b,l₂[i]? = some b ∧ G a b:=by
 induction h with
 | nil=>intro i a e; simp at e
 | @cons a b l₁ l₂ r t ih =>
  intro i a' e
  cases i with
  | zero =>
   simp only [List.getElem?_cons_zero,Option.some.injEq] at e
   subst e
   exact ⟨b,rfl,r⟩
  | succ j =>
   simp only [List.getElem?_cons_succ] at e ⊢
   exact ih e
theorem relV_key {k : Key} {u : Value} (h : keyIs k u = true) : RelV (kV k) u:=by
 rcases keyIs_shape h with ⟨i,t,rfl,rfl⟩ | ⟨x,t,rfl,rfl⟩
 ·exact ⟨t,rfl⟩
 ·exact ⟨t,rfl⟩
section
variable {X : Cx} {pins : List (Addr × Obj)} {σ : St} {H : Hp} {s : Shared} {d : Addr} {o : Obj}
theorem Inv.frzK {kvs : List (Key × V)} (I : Inv X pins σ H s) (h : H d = some (.frz o (.dK kvs))) :
  (d == sysModules) = false ∧ s.heap.get? d = some o ∧ o.ExactDict ∧ ∃ (es : Array DictEntry) (ep : Nat) (vs : List (Key × Value)),o.data = .dict es ep ∧ es.size = kvs.length ∧ KV kvs vs ∧ s.heap.DictAt (mixKind X.prog X.w) d vs ep:=by
 obtain ⟨hd,z,hs,vs,kv,o',es,ep,ho,hx,hdt,r⟩:=I.hok d _ h
 rw [hd] at ho
 cases ho
 refine ⟨hs,hd,hx,es,ep,vs,hdt,?_,kv,o,es,hd,hx,hdt,r⟩
 have l1:=r.2.1.length
 have l2 : kvs.length = vs.length:=Paired.length kv
 rw [Array.length_toList] at l1
 omega
theorem Inv.frzT {kvs : List (List Key × V)} (I : Inv X pins σ H s) (h : H d = some (.frz o (.dT kvs))) :
  (d == sysModules) = false ∧ s.heap.get? d = some o ∧ o.ExactDict ∧ ∃ (es : Array DictEntry) (ep : Nat),o.data = .dict es ep ∧ es.size = kvs.length ∧
   ∀ (i : Nat) (k : List Key) (v : V),kvs[i]? = some (k,v) → ∃ (en : DictEntry) (q : Addr),es[i]? = some en ∧ en.key = .ref q ∧ H q = some (.tup (k.map kV)):=by
 obtain ⟨hd,z,hs,xs,pr,o',es,ep,ho,hx,hdt,he,_⟩:=I.hok d _ h
 rw [hd] at ho
 cases ho
 refine ⟨hs,hd,hx,es,ep,hdt,?_,fun i k v e=>?_⟩
 ·have l1 : es.size = xs.length:=size_of_entries he
  have l2 : kvs.length = xs.length:=Paired.length pr
  omega
 ·obtain ⟨b,hb,e1,e2,_⟩:=paired_get pr e
  have q:=entry_at he i
  rw [hb] at q
  exact ⟨_,b.2.1,q,rfl,e2⟩
end
def Itk (d : Addr) (o : Obj) (kvs : List (Key × V)) : It :=
 ⟨fun i H=>H d = some (.frz o (.dK kvs)) ∧ i < kvs.length,fun i H x H'=>H' = H ∧ ∃ k v,kvs[i]? = some (k,v) ∧ x = kV k,fun i H=>H d = some (.frz o (.dK kvs)) ∧ kvs.length ≤ i⟩
def Itkt (d : Addr) (o : Obj) (kvs : List (List Key × V)) : It :=
 ⟨fun i H=>H d = some (.frz o (.dT kvs)) ∧ i < kvs.length,fun i H x H'=>H' = H ∧ ∃ (k : List Key) (v : V) (q : Addr),kvs[i]? = some (k,v) ∧ x = .ref q ∧ H q = some (.tup (k.map kV)),fun i H=>H d = some (.frz o (.dT kvs)) ∧ kvs.length ≤ i⟩
theorem dict_ep {o : Obj} {es es' : Array DictEntry} {ep ep' : Nat} (h : o.data = .dict es ep) (h' : o.data = .dict es' ep') : es' = es ∧ ep' = ep:=by
 rw [h] at h'
 cases h'
 exact ⟨rfl,rfl⟩
section
variable {P : Program} {w : World} {K : PySem.W.Frag} {tg : Expr} {d : Addr} {o : Obj} {es : Array DictEntry} {ep : Nat}
theorem turn_keys {kvs : List (Key × V)} (it : Addr) (hod : o.data = .dict es ep) : Turn P w K tg (Itk d o kvs) [it] it (fun i h=>h.IsKeyIter it d i kvs.length ep) where
 mem:=by simp
 obj:=fun i h st b hb=>by
  have e : b = it:=by simpa using hb
  subst e
  obtain ⟨oi,e,c,dd⟩:=st
  exact ⟨oi,e,fun v z=>by rw [dd] at z; cases z⟩
 keep:=fun i h h' st k=>st.at fun oi e=>k it (by simp) oi e
 item:=by
  intro X hP hw hK hc i pins s σ H E I hf st hg
  subst hP hw hK
  obtain ⟨hd,hi⟩:=hg
  obtain ⟨f0,f1,f2,f3,f4,f5⟩:=hf it (by simp)
  obtain ⟨hs,hgd,hx,es',ep',vs,hdt,hsz,kv,hm⟩:=I.frzK hd
  obtain ⟨rfl,rfl⟩:=dict_ep hod hdt
  obtain ⟨⟨k,v⟩,hkv⟩ : ∃ p,kvs[i]? = some p:=⟨kvs[i],List.getElem?_eq_getElem hi⟩
  obtain ⟨u,hu,ru⟩:=kv_get kv hkv
  have hl : kvs.length = vs.length:=Paired.length kv
  rw [hl] at st
  refine wpAny_pyNext_dict_item st hm hu fun key h' hkey st' sb=>?_
  have I1 : Inv X pins σ H { s with heap:=h' }:=I.turned (t':=s.toks) (fun b ob hb e=>(sb.2 b hb).trans e) f0 f1 f3 f4 f5
  obtain ⟨oi,e,c,dd⟩:=id st'
  refine ⟨key,rfl,go_of (s:={ s with heap:=h' }) e c dd (by decide) ⟨kV k,H,I1,relV_key (show keyIs k key = true from hkey),⟨rfl,k,v,hkv,rfl⟩,?_,fun b hb=>(hf b hb).1⟩⟩
  show h'.IsKeyIter it d (i + 1) kvs.length _
  rw [hl]
  exact st'
 done:=by
  intro X hP hw hK hc i pins s σ H E I hf st hg
  subst hP hw hK
  obtain ⟨hd,hi⟩:=hg
  obtain ⟨f0,f1,f2,f3,f4,f5⟩:=hf it (by simp)
  obtain ⟨hs,hgd,hx,es',ep',vs,hdt,hsz,kv,hm⟩:=I.frzK hd
  obtain ⟨rfl,rfl⟩:=dict_ep hod hdt
  exact next_key_end (I.ok.hd hc) st hgd hdt hsz hi fun h' eb=>⟨rfl,I.turned (t':=s.toks) (fun b ob hb e=>eb b ob hb e) f0 f1 f3 f4 f5⟩
 self:=fun A i s Q E st h=>wpAny_pyIter_keyiter st h
theorem turn_keysT {kvs : List (List Key × V)} (it : Addr) (hod : o.data = .dict es ep) : Turn P w K tg (Itkt d o kvs) [it] it (fun i h=>h.IsKeyIter it d i kvs.length ep) where
 mem:=by simp
 obj:=fun i h st b hb=>by
  have e : b = it:=by simpa using hb
  subst e
  obtain ⟨oi,e,c,dd⟩:=st
  exact ⟨oi,e,fun v z=>by rw [dd] at z; cases z⟩
 keep:=fun i h h' st k=>st.at fun oi e=>k it (by simp) oi e
 item:=by
  intro X hP hw hK hc i pins s σ H E I hf st hg
  subst hP hw hK
  obtain ⟨hd,hi⟩:=hg
  obtain ⟨f0,f1,f2,f3,f4,f5⟩:=hf it (by simp)
  obtain ⟨hs,hgd,hx,es',ep',hdt,hsz,ent⟩:=I.frzT hd
  obtain ⟨rfl,rfl⟩:=dict_ep hod hdt
  obtain ⟨⟨k,v⟩,hkv⟩ : ∃ p,kvs[i]? = some p:=⟨kvs[i],List.getElem?_eq_getElem hi⟩
  obtain ⟨en,q,hen,hkey,hq⟩:=ent i k v hkv
  refine next_key_item st hgd hdt hsz hen fun h' st' sb=>?_
  have I1 : Inv X pins σ H { s with heap:=h' }:=I.turned (t':=s.toks) (fun b ob hb e=>(sb.2 b hb).trans e) f0 f1 f3 f4 f5
  obtain ⟨oi,e,c,dd⟩:=id st'
  exact ⟨en.key,rfl,go_of (s:={ s with heap:=h' }) e c dd (by decide) ⟨.ref q,H,I1,hkey,⟨rfl,k,v,q,hkv,rfl,hq⟩,st',fun b hb=>(hf b hb).1⟩⟩
 done:=by
  intro X hP hw hK hc i pins s σ H E I hf st hg
  subst hP hw hK
  obtain ⟨hd,hi⟩:=hg
  obtain ⟨f0,f1,f2,f3,f4,f5⟩:=hf it (by simp)
  obtain ⟨hs,hgd,hx,es',ep',hdt,hsz,ent⟩:=I.frzT hd
  obtain ⟨rfl,rfl⟩:=dict_ep hod hdt
  exact next_key_end (I.ok.hd hc) st hgd hdt hsz hi fun h' eb=>⟨rfl,I.turned (t':=s.toks) (fun b ob hb e=>eb b ob hb e) f0 f1 f3 f4 f5⟩
 self:=fun A i s Q E st h=>by
  refine wpAny_pyIter_slot st.typeIs F.slot_dict_keyiterator_iter (wpAny_call_entry F.slot_dict_keyiterator_iter st.typeIs F.entry_dict_keyiterator_iter ?_ (F.args_dict_keyiterator_iter_1 _))
  show wpAny _ _ (ret (.ref it)) _ _ s
  exact wpAny_pure ⟨_,rfl,"dict_keyiterator",_,st.typeIs,F.slot_dict_keyiterator_next.lookup,h⟩
end
def iKeys (td : TE) : TI:=fun σ H R=>td σ H fun x H1=>∃ d o,x = .ref d ∧ ((∃ kvs,H1 d = some (.frz o (.dK kvs)) ∧ R (Itk d o kvs) H1) ∨ ∃ kvs,H1 d = some (.frz o (.dT kvs)) ∧ R (Itkt d o kvs) H1)
section
variable {X : Cx} {tg e : Expr} {td : TE} {apos cpos : Pos}
theorem pi_keys (he : PE X e td) : PI X tg e (iKeys td):=by
 intro pins s σ H R I h
 refine thn (he pins s σ H _ I h) fun u s1 ⟨x,H1,I1,rx,d,o,ex,q⟩=>?_
 subst ex
 obtain rfl : u = Value.ref d:=rx
 rcases q with ⟨kvs,hd,q⟩ | ⟨kvs,hd,q⟩
 ·obtain ⟨hs,hgd,hx,es,ep,vs,hdt,hsz,kv,hm⟩:=I1.frzK hd
  refine iter_keys hs hgd hx hdt (pi_one (tk:=s1.toks) I1 _ (turn_keys _ hdt) ⟨_,Heap.get?_push_size _ rfl,rfl,?_⟩ q)
  rw [hsz] <;> rfl
 ·obtain ⟨hs,hgd,hx,es,ep,hdt,hsz,ent⟩:=I1.frzT hd
  refine iter_keys hs hgd hx hdt (pi_one (tk:=s1.toks) I1 _ (turn_keysT _ hdt) ⟨_,Heap.get?_push_size _ rfl,rfl,?_⟩ q)
  rw [hsz] <;> rfl
end
def Ite (K : PySem.W.Frag) (a : Addr) : It :=
 ⟨fun i H=>∃ (xs : List V) (x : V),SqL K H a xs ∧ xs[i]? = some x,fun i H v H'=>∃ T x,v = .ref T ∧ H T = none ∧ H' = upd H T (.tup [.int (i : Nat),x]) ∧ ∀ xs,SqL K H a xs → xs[i]? = some x,fun i H=>∃ xs : List V,SqL K H a xs ∧ xs.length ≤ i⟩
theorem turn_enum {P : Program} {w : World} {K : PySem.W.Frag} {elts : List Expr} {kk : Nat} {tpos : Pos} (a e it : Addr) :
  Turn P w K (.Tuple elts kk tpos) (Ite K a) [e,it] e (fun i h=>(∃ old,IsEnum h e it ((i : Nat) : Int) old) ∧ h.IsListIter it a i ∧ e ≠ it) where
 mem:=by simp
 obj:=fun i h st b hb=>by
  obtain ⟨⟨old,he⟩,⟨o,ho,hc,hd⟩,_⟩:=st
  have e' : b = e ∨ b = it:=by simpa using hb
  rcases e' with z | z
  ·rw [z]; exact ⟨_,he,fun v q=>nomatch q⟩
  ·rw [z]; exact ⟨o,ho,fun v q=>by rw [hd] at q; cases q⟩
 keep:=fun i h h' st k=>let ⟨⟨old,he⟩,hi,hne⟩:=st; ⟨⟨old,k e (by simp) _ he⟩,hi.at fun o q=>k it (by simp) o q,hne⟩
 item:=by
  intro X hP hw hK hc i pins s σ H E I hf st hg
  subst hP hw hK
  obtain ⟨⟨old,he⟩,hit,hne⟩:=st
  obtain ⟨xs,x,hq,hx⟩:=hg
  obtain ⟨its,rv,p,hz⟩:=I.list hq
  obtain ⟨u,hu,ru⟩:=rv.get hx
  have hel : e < s.heap.objs.size:=Heap.lt_size he
  have hil : it < s.heap.objs.size:=by obtain ⟨_,q,_⟩:=hit; exact Heap.lt_size q
  refine wpAny_pyNext_enum_item he hit p.isList (x:=u) (by simpa using hu) hne fun h' ho hit' hT hsz hk=>?_
  refine ⟨_,rfl,wpAny_letOwnedTupleGo_enum (s:={ s with heap:=h',toks:=s.toks + 1 }) ho fun h'' he' sb=>?_⟩
  have hT2 : h''.get? s.heap.objs.size = some { cls:=.type "tuple",data:=.seq #[.int i s.toks,u] }:=(sb.2 _ (Nat.ne_of_gt hel)).trans hT
  have new : ObjOk X.prog X.w (upd H s.heap.objs.size (.tup [.int (i : Nat),x])) h'' s.heap.objs.size (.tup [.int (i : Nat),x]) :=
   ⟨by show 2 ≤ sizeLine; decide,[.int i s.toks,u],.cons ⟨_,rfl⟩ (.cons ru .nil),⟨_,hT2,rfl,_,rfl⟩⟩
  have I1 : Inv X pins σ (upd H s.heap.objs.size (.tup [.int (i : Nat),x])) { s with heap:=h'',toks:=s.toks + 1 } :=
   I.turnedNew (ch:=[e,it]) (fun b ob hb q=>(sb.2 b (fun z=>hb (by simp [z]))).trans (hk b ob (fun z=>hb (by simp [z])) (fun z=>hb (by simp [z])) q)) hf (Nat.le_refl _) new
  refine ⟨.ref s.heap.objs.size,_,I1,rfl,⟨_,x,rfl,I.hok.fresh (Nat.le_refl _),rfl,fun ys hy=>by rw [I.list_inj hy hq]; exact hx⟩,⟨⟨u,?_⟩,hit'.at fun o q=>(sb.2 it (Ne.symm hne)).trans q,hne⟩,fun b hb=>?_⟩
  ·have e1 : ((i + 1 : Nat) : Int) = (i : Int) + 1:=by omega
   rw [e1]; exact he'
  ·have hb' : b < s.heap.objs.size:=by
    have e' : b = e ∨ b = it:=by simpa using hb
    rcases e' with z | z
    ·rw [z]; exact hel
    ·rw [z]; exact hil
   rw [upd_ne (Nat.ne_of_lt hb')]
   exact (hf b hb).1
 done:=by
  intro X hP hw hK hc i pins s σ H E I hf st hg
  subst hP hw hK
  obtain ⟨⟨old,he⟩,hit,hne⟩:=st
  obtain ⟨xs,hq,hx⟩:=hg
  obtain ⟨its,rv,p,hz⟩:=I.list hq
  obtain ⟨f0,f1,f2,f3,f4,f5⟩:=hf it (by simp)
  have hl:=rv.length
  exact wpAny_pyNext_enum_end (I.ok.hd hc) he hit p.isList (by simp; omega) fun h' eb=>⟨rfl,I.turned (t':=s.toks) (fun b o hb q=>eb b o hb q) f0 f1 f3 f4 f5⟩
 self:=fun A i s Q E st h=>let ⟨⟨_,he⟩,_⟩:=st; wpAny_pyIter_enum he h
def iEnum (K : PySem.W.Frag) (ta : TA) : TI:=fun σ H R=>ta σ H fun vs H1=>∃ a xs,vs = [.ref a] ∧ SqL K H1 a xs ∧ R (Ite K a) H1
theorem pi_enum {X : Cx} {e : Expr} {ta : TA} {p pos tpos : Pos} {elts : List Expr} {kk : Nat} (hg : Gl X "enumerate") (hm : X.mg "enumerate" = none) (ha : PA X [e] ta) (hs : starEach [e] X.env = [(false,eval e X.env)]:=by rfl) :
  PI X (.Tuple elts kk tpos) (.Call (.Name "enumerate" p) [e] [] pos) (iEnum X.K ta):=by
 intro pins s σ H R I h
 refine Call_ (ld_blt I hg hm boot_enumerate (PyProof.Rows.callWith_type1 (thn (ha pos pins s σ H _ I h) fun us s1 ⟨vs,H1,I1,r1,q1⟩=>?_) hs rfl))
 obtain ⟨a,xs,ex,hq,q⟩:=q1
 subst ex
 cases r1 with
 | cons r rr =>
  cases rr
  cases r
  obtain ⟨its,rv,p',hz⟩:=I1.list hq
  refine call_enumerate_list p'.isList fun h' he hit hsz hk=>wpAny_pyIter_enum he ?_
  have I2 : Inv X pins σ H1 { s1 with heap:=h' }:=I1.kept (t':=s1.toks) hk
  refine ⟨s1.heap.objs.size + 1,[s1.heap.objs.size + 1,s1.heap.objs.size],_,_,H1,rfl,I2,turn_enum a (s1.heap.objs.size + 1) s1.heap.objs.size,⟨⟨.none,he⟩,hit,Nat.succ_ne_self _⟩,fun b hb=>?_,q⟩
  have e' : b = s1.heap.objs.size + 1 ∨ b = s1.heap.objs.size:=by simpa using hb
  have hle : s1.heap.objs.size ≤ b:=by
   rcases e' with z | z
   ·rw [z]; exact Nat.le_add_right _ _
   ·rw [z]; exact Nat.le_refl _
  exact I1.fpOk hle (I1.hok.fresh hle)
end L2
section
namespace TL
open PySem PySem.Builtin PySem.Builtin.Str PySem.StrLaws
abbrev tl (x : Str) : List Nat:=x.cps.toList
def pre (S l : List Nat) : Bool:=l.take S.length == S
def par (S : List Nat) : List Nat → List Nat → Option (List Nat × List Nat)
 | _,[]=>none
 | acc,c :: r=>if pre S (c :: r) = true then some (acc,(c :: r).drop S.length) else par S (acc ++ [c]) r
end TL
end
namespace L2
open PySem PySem.Spec PyProof.Rows
def inClass (s : Stmt) (j : Nat) : Stmt:=match s with
 | .ClassDef _ _ _ body _ _ _ _ _ _ _=>body.getD j (.Pass ⟨0,0,0,0⟩)
 | _=>.Pass ⟨0,0,0,0⟩
def defArgs (s : Stmt) : Arguments:=match s with
 | .FunctionDef _ a _ _ _ _ _ _ _ _=>a
 | _=>{ posonlyargs:=[],args:=[],vararg:=none,kwonlyargs:=[],kw_defaults:=[],kwarg:=none,defaults:=[] }
def defBody (s : Stmt) : List Stmt:=match s with
 | .FunctionDef _ _ b _ _ _ _ _ _ _=>b
 | _=>[]
def defScope (s : Stmt) : Scope:=match s with
 | .FunctionDef _ _ _ _ _ _ sc _ _ _=>sc
 | _=>{ kind:=.function,names:=[],isGenerator:=false,isCoroutine:=false }
abbrev CX0 : CXT:=fun _ _ _ _ _ _=>False
abbrev E0 : XK:=fun _ _ _=>False
theorem pass0 {X : Cx} : Passes CX0 X E0:=fun _ _ _ _ _ _ _ h=>h.elim
structure Fun (K : PySem.W.Frag) (x qual : Str) (st : Stmt) (f : Addr) (fd : FuncData) : Prop where
 ex : ∃ (oc : Value) (od : Option Addr) (kV doc pm : Value) (an : Option Addr) (cdv ct : Value) (osl : Array (Option Value)),
  fd = PySem.W.fnOf x qual (defArgs st) (defBody st) (defScope st) .none kV doc pm an cdv ct ∧ K.lookup f = some ⟨oc,od,.func fd,osl⟩ ∧ PySem.W.codeIn K cdv qual = true
 kp : PySem.W.keepIn K (.ref f) = true
section
variable {P : Program} {w : World} {K : PySem.W.Frag} {mg : Str → Option Value} {base : Heap}
theorem Fun.ok {x qual : Str} {st : Stmt} {f : Addr} {fd : FuncData} {N ps : List Str} {k : Nat} {sp : Sp} (F : Fun K x qual st f fd) (S : FnScope N ps (defScope st)) (len : ∀ vs H Q E,sp vs H Q E → vs.length = ps.length)
  (hbody : ∀ (cdv : Value) (A : Around) (outer : List Env) (s : Shared) (H : Hp) (vs : List V) (Q : VK) (E : XK),Room k (A.deeper (envOfC qual (defScope st) s.heap.objs.size f cdv)) → sp vs H Q E →
   ∃ t,PSs (cxOf CX0 P w K mg base N qual (defScope st) f cdv A outer s H E).nox (defBody st) t ∧ t { nx:=fun _ H'=>Q .non H',rt:=Q } (start N vs) H) : FnOk P w K mg base CX0 (k + 1) f fd ps sp:=by
 obtain ⟨oc,od,kV,doc,pm,an,cdv,ct,osl,rfl,lk,hcd⟩:=F.ex
 refine fn_of lk hcd S len fun A outer s H vs Q E hr hsp=>?_
 obtain ⟨t,h,q⟩:=hbody cdv A outer s H vs Q E hr hsp
 exact ⟨t,h.nox,q⟩
theorem Fun.binds {x qual : Str} {st : Stmt} {f : Addr} {fd : FuncData} {ps : List Str} (F : Fun K x qual st f fd)
  (h : ∀ (kV doc pm : Value) (an : Option Addr) (cdv ct : Value) (us : List Value),us.length = ps.length → bindArgs (PySem.W.fnOf x qual (defArgs st) (defBody st) (defScope st) .none kV doc pm an cdv ct) ⟨us,[]⟩ = pure (ps.zip us)) : Binds K fd ps []:=by
 obtain ⟨oc,od,kV,doc,pm,an,cdv,ct,osl,rfl,lk,hcd⟩:=F.ex
 exact .all (h kV doc pm an cdv ct)
theorem fun_mk {x qual : Str} {st : Stmt} {f : Addr} {oc : Value} {od an : Option Addr} {osl : Array (Option Value)} {kV doc pm cdv ct : Value} (l : K.lookup f = some ⟨oc,od,.func (PySem.W.fnOf x qual (defArgs st) (defBody st) (defScope st) .none kV doc pm an cdv ct),osl⟩)
  (c : PySem.W.codeIn K cdv qual = true) (k : PySem.W.keepIn K (.ref f) = true) : Fun K x qual st f (PySem.W.fnOf x qual (defArgs st) (defBody st) (defScope st) .none kV doc pm an cdv ct):=⟨⟨oc,od,kV,doc,pm,an,cdv,ct,osl,rfl,l,c⟩,k⟩
end
theorem hu_of {A : Around} {k : Nat} (hr : Room k A) : A.units + 1 < cLine:=Nat.lt_of_le_of_lt (Nat.add_le_add_left (by decide : 1 ≤ 64) _) hr.units
section
variable {X : Cx}
theorem pv (i : Nat) {x : Str} {pos : Pos} (hN : X.N[i]? = some x:=by rfl) (hv : Vis X.env.scope x:=by first | exact Or.inl rfl | exact Or.inr (Or.inl rfl) | exact Or.inr (Or.inr rfl)) (hd : (x == ("__debug__" : Str)) = false:=by decide)
  (hcd : (x == ("__classdict__" : Str)) = false:=by decide) : PE X (.Name x pos) (tVar i):=pe_var hN hv hd hcd
theorem call_lenD : CallR X (.builtin "len") (fun xs H Q=>∃ a kvs,xs = [V.ref a] ∧ H a = some (.dK kvs) ∧ Q (.int kvs.length) H):=by
 intro pins s σ H xs us Q I r h
 obtain ⟨a,kvs,rfl,ha,q⟩:=h
 obtain ⟨u,rfl,ru⟩:=vals1 r
 cases ru
 exact d_len I (.inl ha) fun t s' I'=>⟨.int kvs.length,H,I',⟨t,rfl⟩,q⟩
end
theorem iteF {A B : Prop} (h : B) : if false = true then A else B:=by
 rw [if_neg Bool.false_ne_true]
 exact h
theorem iteT {A B : Prop} (h : A) : if true = true then A else B:=by
 rw [if_pos rfl]
 exact h
theorem ite2 {c A B : Prop} [Decidable c] (h1 : c → A) (h2 : ¬ c → B) : if c then A else B:=by
 by_cases h : c
 ·rw [if_pos h]
  exact h1 h
 ·rw [if_neg h]
  exact h2 h
def Same (H H' : Hp) : Prop:=∀ b o,H b = some o → H' b = some o
theorem Same.refl (H : Hp) : Same H H:=fun _ _ h=>h
theorem Same.trans {H H1 H2 : Hp} (a : Same H H1) (b : Same H1 H2) : Same H H2:=fun c o h=>b c o (a c o h)
theorem Same.free {H H' : Hp} (e : Same H H') {l : Addr} (h : H' l = Option.none) : H l = Option.none:=by
 cases q : H l with
 | none=>rfl
 | some o =>
  rw [e l o q] at h
  cases h
theorem Same.seq {K : PySem.W.Frag} {H H' : Hp} {a : Addr} {xs : List V} (e : Same H H') (h : SqL K H a xs) : SqL K H' a xs:=by
 rcases h with (h | ⟨o,h⟩) | h
 ·exact .inl (.inl (e _ _ h))
 ·exact .inl (.inr ⟨o,e _ _ h⟩)
 ·exact .inr h
theorem at_of {xs : List V} {z : Int} {j : Nat} {v : V} (e : z = (j : Int)) (h : xs[j]? = some v) : atI xs z = some v:=by
 rw [e]
 exact atI_nat h
theorem nd_ix {α : Type} {l : List α} (hN : l.Nodup) {i j : Nat} {x : α} (a : l[i]? = some x) (b : l[j]? = some x) : i = j:=by
 obtain ⟨h1,e1⟩:=List.getElem?_eq_some_iff.mp a
 obtain ⟨h2,e2⟩:=List.getElem?_eq_some_iff.mp b
 exact (List.getElem_inj hN).mp (e1.trans e2.symm)
theorem Same.made {H H1 : Hp} {x dx C : Addr} (nx : H x = Option.none) (nd : H dx = Option.none) (k : ∀ b o,(upd (upd H dx (.own x)) x (.ins C dx [])) b = some o → b ≠ x → H1 b = some o) : Same H H1:=fun b o e =>
 k b o (by rw [upd_ne (ne_of_none e nx),upd_ne (ne_of_none e nd)]; exact e) (ne_of_none e nx)
end L2
set_option maxRecDepth 100000
namespace XL
open PySem PySem.Spec PyProof.Rows L2
def exN (a C : Addr) : HO:=.ext fun h=>∃ o t,h.get? a = some o ∧ o.cls = .ref C ∧ o.dict = none ∧ o.data = .fields #[.ref t,.none,.none,.none,.bool false,.none]
def exD (a C dx : Addr) (tb : Value) : HO:=.ext fun h=>∃ o vs,h.get? a = some o ∧ o.cls = .ref C ∧ o.dict = some dx ∧ o.data = .fields vs ∧ vs[1]? = some tb
def tbO (T : Addr) : HO:=.ext fun h=>∃ o ts,h.get? T = some o ∧ o.data = .fields ts ∧ ts[3]? = some .none
theorem exN_ok {P : Program} {w : World} {H : Hp} {h : Heap} {a C : Addr} {o : Obj} {t : Addr} (e : h.get? a = some o) (hc : o.cls = .ref C) (hd : o.dict = none) (hf : o.data = .fields #[.ref t,.none,.none,.none,.bool false,.none]) :
  ObjOk P w H h a (exN a C) :=
 ⟨⟨o,t,e,hc,hd,hf⟩,⟨o,e⟩,fun h1 h2 ⟨o1,t1,e1,r⟩ k=>⟨o1,t1,k o1 e1,r⟩⟩
theorem exD_ok {P : Program} {w : World} {H : Hp} {h : Heap} {a C dx : Addr} {tb : Value} {o : Obj} {vs : Array Value} (e : h.get? a = some o) (hc : o.cls = .ref C) (hd : o.dict = some dx) (hf : o.data = .fields vs) (h1 : vs[1]? = some tb) :
  ObjOk P w H h a (exD a C dx tb) :=
 ⟨⟨o,vs,e,hc,hd,hf,h1⟩,⟨o,e⟩,fun h1 h2 ⟨o1,t1,e1,r⟩ k=>⟨o1,t1,k o1 e1,r⟩⟩
theorem tbO_ok {P : Program} {w : World} {H : Hp} {h : Heap} {T : Addr} {o : Obj} {ts : Array Value} (e : h.get? T = some o) (hf : o.data = .fields ts) (h1 : ts[3]? = some .none) : ObjOk P w H h T (tbO T) :=
 ⟨⟨o,ts,e,hf,h1⟩,⟨o,e⟩,fun h1 h2 ⟨o1,t1,e1,r⟩ k=>⟨o1,t1,k o1 e1,r⟩⟩
theorem exN_get {P : Program} {w : World} {H : Hp} {h : Heap} {a C : Addr} (ok : HOk P w H h) (e : H a = some (exN a C)) :
  ∃ o t,h.get? a = some o ∧ o.cls = .ref C ∧ o.dict = none ∧ o.data = .fields #[.ref t,.none,.none,.none,.bool false,.none]:=(show ObjOk P w H h a (exN a C) from ok a _ e).1
theorem exD_get {P : Program} {w : World} {H : Hp} {h : Heap} {a C dx : Addr} {tb : Value} (ok : HOk P w H h) (e : H a = some (exD a C dx tb)) :
  ∃ o vs,h.get? a = some o ∧ o.cls = .ref C ∧ o.dict = some dx ∧ o.data = .fields vs ∧ vs[1]? = some tb:=(show ObjOk P w H h a (exD a C dx tb) from ok a _ e).1
theorem tbO_get {P : Program} {w : World} {H : Hp} {h : Heap} {T : Addr} (ok : HOk P w H h) (e : H T = some (tbO T)) : ∃ o ts,h.get? T = some o ∧ o.data = .fields ts ∧ ts[3]? = some .none:=(show ObjOk P w H h T (tbO T) from ok T _ e).1
theorem dict_mapFields (f : Array Value → Array Value) (o : Obj) : (Obj.mapFields f o).dict = o.dict:=by
 obtain ⟨c,d,dt,sl⟩:=o
 cases dt <;> rfl
structure Noted (S : List Addr) (e : Addr) (T0 : Option Addr) (T' : Addr) (fl : Value) (h h' : Heap) : Prop where
 new : h.objs.size ≤ T'
 ne : T' ≠ e
 ex : ∀ oe vs,h.get? e = some oe → oe.data = .fields vs → ∃ oe' vs',h'.get? e = some oe' ∧ oe'.cls = oe.cls ∧ oe'.dict = oe.dict ∧ oe'.data = .fields vs' ∧ vs'[1]? = some (.ref T')
 tb : ∃ o ts,h'.get? T' = some o ∧ o.data = .fields ts ∧ ts[3]? = some fl
 old : ∀ T,T0 = some T → ∃ o ts,h'.get? T = some o ∧ o.data = .fields ts ∧ ts[3]? = some .none
 keep : ∀ b o,b ≠ e → T0 ≠ some b → b ∉ S → h.get? b = some o → h'.get? b = some o
 slot : ∀ b o,b ≠ e → T0 ≠ some b → h.get? b = some o → ∃ sl,h'.get? b = some { o with slots:=sl }
theorem Noted.dead {S : List Addr} {e T' : Addr} {T0 : Option Addr} {fl : Value} {h h' : Heap} (N : Noted S e T0 T' fl h h') : h.get? T' = Option.none:=Heap.get?_none_of_le N.new
section
variable {M : Model} {A : Around} {E : Value → Shared → Prop} {s : Shared}
theorem entry_noted {base : Heap} {env : Env} {outer : List Env} {L e : Addr} {oe : Obj} {vs : Array Value} {head : Value} {hadNext : Bool} {Q : Unit → Shared → Prop}
  (hfr : A.frames = some (env :: outer)) (hl : s.heap.FunFrames base (env :: outer)) (hf : env.frame = some L) (he : s.heap.get? e = some oe) (hd : oe.data = .fields vs) (hsz : 1 < vs.size)
  (h : ∀ h' T',Noted (frs (env :: outer)) e none T' (rawInt L) s.heap h' → Q () { s with heap:=h' }) :
  wpAny M A (do let a ← frameOf env; let pl ← entryPlaceOf L hadNext; let b ← EntryCells.newEntry head a .none (rawInt L) .none pl; setField (.ref e) 1 b) Q E s:=by
 have hene : e ∉ (env :: outer).filterMap (·.frame):=fun hm=>by
  obtain ⟨_,o,ho,hnf⟩:=hl.mem hm
  rw [he] at ho; injection ho with ho; subst ho; exact hnf vs hd
 refine wpAny_bind (wpAny_frameOf_fun hfr hl hf fun h₁ hs₁=>?_)
 refine wpAny_bind (wpAny_entryPlaceOf fun pl hpl=>?_)
 unfold EntryCells.newEntry newFields
 refine wpAny_bind (wpAny_newObj_type ?_ (hpl.sizeOk5 _ _ _ _ _))
 have he₁ : h₁.get? e = some oe:=(hs₁.2.1 e hene).trans he
 have he₂:=Heap.get?_push_of_some (h:=h₁) { cls:=.type "traceback",dict:=none,data:=.fields ([head,.ref L,.none,rawInt L,.none] ++ (if pl.isEmpty then List.replicate 6 Value.none else pl)).toArray } he₁
 refine wpAny_setField he₂ hd hsz (h _ h₁.objs.size ?_)
 have hTe : h₁.objs.size ≠ e:=Nat.ne_of_gt (Heap.lt_size he₁)
 have hd₃:=Obj.data_mapFields hd (·.setIfInBounds 1 (Value.ref h₁.objs.size))
 have he₃:=Heap.get?_update_self (Obj.mapFields (·.setIfInBounds 1 (Value.ref h₁.objs.size))) he₂ (Obj.isFreed_of_fields hd₃)
 have hT₃:=(Heap.get?_update_other (h₁.push { cls:=.type "traceback",dict:=none,data:=.fields ([head,.ref L,.none,rawInt L,.none] ++ (if pl.isEmpty then List.replicate 6 Value.none else pl)).toArray })
  (Obj.mapFields (·.setIfInBounds 1 (Value.ref h₁.objs.size))) (Ne.symm hTe)).trans (Heap.get?_push_size h₁ rfl)
 have keep : ∀ b o,b ≠ e → h₁.get? b = some o →
   ((h₁.push { cls:=.type "traceback",dict:=none,data:=.fields ([head,.ref L,.none,rawInt L,.none] ++ (if pl.isEmpty then List.replicate 6 Value.none else pl)).toArray }).update e (Obj.mapFields (·.setIfInBounds 1 (Value.ref h₁.objs.size)))).get? b = some o :=
  fun b o hbe hb=>by
   rw [Heap.get?_update_other _ _ (Ne.symm hbe)]
   exact Heap.get?_push_of_some _ hb
 refine ⟨(by rw [hs₁.1]; exact Nat.le_refl _),hTe,fun oe' vs' q1 q2=>?_,?_,fun T z=>(by cases z),fun b o hbe _ hS hb=>?_,fun b o hbe _ hb=>?_⟩
 ·rw [he] at q1; cases q1
  rw [hd] at q2; cases q2
  exact ⟨_,_,he₃,Obj.cls_mapFields _ _,dict_mapFields _ _,hd₃,by simp [hsz]⟩
 ·exact ⟨_,_,hT₃,rfl,by first | (simp; done) | (rcases hpl with rfl | ⟨_,_,_,_,_,_,_,rfl⟩ <;> simp)⟩
 ·exact keep b o hbe ((hs₁.2.1 b hS).trans hb)
 ·obtain ⟨sl,hsl⟩:=hs₁.2.2 b o hb
  exact ⟨sl,keep b _ hbe hsl⟩
theorem note_first {base : Heap} {env : Env} {outer : List Env} {L e : Addr} {oe : Obj} {vs : Array Value} {Q : Unit → Shared → Prop}
  (hfr : A.frames = some (env :: outer)) (hl : s.heap.FunFrames base (env :: outer)) (hf : env.frame = some L) (he : s.heap.get? e = some oe) (hd : oe.data = .fields vs) (h1 : vs[1]? = some .none)
  (h : ∀ h' T',Noted (frs (env :: outer)) e none T' (rawInt L) s.heap h' → Q () { s with heap:=h' }) : wpAny M A (noteFrame (.ref e) env) Q E s:=by
 unfold noteFrame
 simp only [hf]
 refine wpAny_bind (wpAny_field he hd h1 ?_)
 rw [if_neg (by decide)]
 exact entry_noted hfr hl hf he hd (Array.getElem?_eq_some_iff.mp h1).1 h
theorem note_next {base : Heap} {env : Env} {outer : List Env} {L e T : Addr} {oe oT : Obj} {vs ts : Array Value} {Q : Unit → Shared → Prop}
  (hfr : A.frames = some (env :: outer)) (hl : s.heap.FunFrames base (env :: outer)) (hf : env.frame = some L) (he : s.heap.get? e = some oe) (hd : oe.data = .fields vs) (h1 : vs[1]? = some (.ref T)) (hTe : T ≠ e)
  (hT : s.heap.get? T = some oT) (hdT : oT.data = .fields ts) (h3 : ts[3]? = some .none)
  (h : ∀ h' T',Noted (frs (env :: outer)) e (some T) T' (rawInt L) s.heap h' → Q () { s with heap:=h' }) : wpAny M A (noteFrame (.ref e) env) Q E s:=by
 unfold noteFrame
 simp only [hf]
 refine wpAny_bind (wpAny_field he hd h1 ?_)
 rw [if_pos (show (Value.ref T != Value.none) = true from by simp)]
 refine wpAny_bind (wpAny_field hT hdT h3 ?_)
 rw [if_neg (show ¬ ((Value.none == rawInt L) = true) from by simp [rawInt])]
 refine wpAny_bind (wpAny_setField hT hdT (Array.getElem?_eq_some_iff.mp h3).1 ?_)
 have other : ∀ b,b ≠ T → (s.heap.update T (Obj.mapFields (·.setIfInBounds 3 Value.none))).get? b = s.heap.get? b:=fun b hb=>Heap.get?_update_other _ _ (Ne.symm hb)
 have noRecord : ∀ b o,s.heap.get? b = some o → (∀ vs,o.data ≠ .fields vs) → b ≠ T:=fun b o hb hnf q=>by
  rw [q,hT] at hb; injection hb with hb; subst hb; exact hnf ts hdT
 have hT2 : (s.heap.update T (Obj.mapFields (·.setIfInBounds 3 Value.none))).get? T = some (Obj.mapFields (·.setIfInBounds 3 Value.none) oT):=Heap.get?_update_self _ hT (Obj.isFreed_of_fields (Obj.data_mapFields hdT _))
 refine entry_noted (s:={ s with heap:=s.heap.update T (Obj.mapFields (·.setIfInBounds 3 Value.none)) }) hfr (hl.of_keeps fun b o hb hnf=>⟨o,(other b (noRecord b o hb hnf)).trans hb,rfl⟩) hf ((other e (Ne.symm hTe)).trans he) hd (Array.getElem?_eq_some_iff.mp h1).1 fun h' T' N=>?_
 have nS : T ∉ frs (env :: outer):=fun hm=>by
  obtain ⟨_,o,ho,hnf⟩:=hl.mem hm
  rw [hT] at ho; injection ho with ho; subst ho; exact hnf ts hdT
 refine h h' T' ⟨by have:=N.new; rw [Heap.size_after_update] at this; exact this,N.ne,fun oe' vs' q1 q2=>N.ex oe' vs' ((other e (Ne.symm hTe)).trans q1) q2,N.tb,fun T2 z=>?_,fun b o hbe hbT hS hb=>?_,fun b o hbe hbT hb=>?_⟩
 ·cases z
  refine ⟨_,_,N.keep T _ hTe (fun z=>nomatch z) nS hT2,Obj.data_mapFields hdT _,?_⟩
  have:=(Array.getElem?_eq_some_iff.mp h3).1
  simp [this]
 ·exact N.keep b o hbe (fun z=>nomatch z) hS ((other b fun q=>hbT (by rw [q])).trans hb)
 ·exact N.slot b o hbe (fun z=>nomatch z) ((other b fun q=>hbT (by rw [q])).trans hb)
theorem Noted.land {S : List Addr} {e T' : Addr} {T0 : Option Addr} {fl : Value} {h0 : Heap} {Q : Unit → Shared → Prop} {oe : Obj} {vs : Array Value} (N : Noted S e T0 T' fl h0 s.heap) (he : h0.get? e = some oe) (hd : oe.data = .fields vs)
  (nS : T' ∉ S) (h : ∀ h',Noted S e T0 T' .none h0 h' → Q () { s with heap:=h' }) : wpAny M A (setFlight (.ref e) none) Q E s:=by
 obtain ⟨oe',vs',e1,c1,d1,f1,t1⟩:=N.ex oe vs he hd
 obtain ⟨oT,ts,e2,f2,t2⟩:=N.tb
 have hsz : 3 < ts.size:=(Array.getElem?_eq_some_iff.mp t2).1
 unfold setFlight
 refine wpAny_bind (wpAny_field e1 f1 t1 ?_)
 rw [if_pos (show (Value.ref T' != Value.none) = true from by simp)]
 refine wpAny_setField e2 f2 hsz (h _ ?_)
 have other : ∀ b,b ≠ T' → (s.heap.update T' (Obj.mapFields (·.setIfInBounds 3 ((none : Option Addr).elim Value.none fun f=>rawInt f)))).get? b = s.heap.get? b :=
  fun b hb=>Heap.get?_update_other _ _ (Ne.symm hb)
 have live : ∀ b o,h0.get? b = some o → b ≠ T':=fun b o hb q=>by rw [q,N.dead] at hb; cases hb
 refine ⟨N.new,N.ne,fun oe2 vs2 q1 q2=>?_,?_,fun T z=>?_,fun b o hbe hbT hS hb=>?_,fun b o hbe hbT hb=>?_⟩
 ·obtain ⟨o3,v3,q3,r⟩:=N.ex oe2 vs2 q1 q2
  exact ⟨o3,v3,(other e (Ne.symm N.ne)).trans q3,r⟩
 ·refine ⟨_,_,Heap.get?_update_self _ e2 (Obj.isFreed_of_fields (Obj.data_mapFields f2 _)),Obj.data_mapFields f2 _,?_⟩
  simp [hsz]
 ·obtain ⟨o3,t3,q3,r3,u3⟩:=N.old T z
  by_cases hTT : T = T'
  ·subst hTT
   refine ⟨_,_,Heap.get?_update_self _ e2 (Obj.isFreed_of_fields (Obj.data_mapFields f2 _)),Obj.data_mapFields f2 _,?_⟩
   simp [hsz]
  ·exact ⟨o3,t3,(other T hTT).trans q3,r3,u3⟩
 ·exact (other b (live b o hb)).trans (N.keep b o hbe hbT hS hb)
 ·obtain ⟨sl,q⟩:=N.slot b o hbe hbT hb
  exact ⟨sl,(other b (live b o hb)).trans q⟩
end
end XL
namespace XL
open PySem PySem.Spec PyProof.Rows L2
structure Fly (H : Hp) (a dx C T : Addr) (fs : List (Str × V)) : Prop where
 ex : H a = some (exD a C dx (.ref T))
 tb : H T = some (tbO T)
 ne : T ≠ a
 own : H dx = some (.xd fs)
theorem Fly.nd {H : Hp} {a dx C T : Addr} {fs : List (Str × V)} (F : Fly H a dx C T fs) : dx ≠ a:=ne_of F.own F.ex (by intro z; cases z)
def Beside (a : Addr) (H H' : Hp) : Prop:=∀ b o,H b = some o → b ≠ a → H' b = some o
theorem Beside.refl (a : Addr) (H : Hp) : Beside a H H:=fun _ _ e _=>e
theorem Beside.trans {a : Addr} {H H1 H2 : Hp} (x : Beside a H H1) (y : Beside a H1 H2) : Beside a H H2:=fun b o e n=>y b o (x b o e n) n
def CX1 (P : Program) (w : World) : CXT:=fun outer H s E e s'=>∃ (a dx C T : Addr) (fs : List (Str × V)) (H' : Hp),e = .ref a ∧ s'.os = s.os ∧ AllBare s'.gens ∧ Un (frs outer) [] H H' s.heap s'.heap ∧ HOk P w H' s'.heap ∧
 Fly H' a dx C T fs ∧ ∀ H2,Beside a H' H2 → E (.ref C) (some dx) H2
def notedH (H : Hp) (a dx C T' : Addr) : Hp:=upd (upd H T' (tbO T')) a (exD a C dx (.ref T'))
section
variable {X : Cx} {pins : List (Addr × Obj)} {σ : L2.St} {H : Hp} {s : Shared} {a dx C : Addr} {T0 : Option Addr}
theorem notedH_beside {T' : Addr} (n : H T' = none) : Beside a H (notedH H a dx C T'):=fun b o e nb=>by
 unfold notedH
 rw [upd_ne nb,upd_ne (ne_of_none e n)]
 exact e
theorem fly_noted {T' : Addr} {fs : List (Str × V)} (n : H T' = none) (ne : T' ≠ a) (na : dx ≠ a) (ho : H dx = some (.xd fs)) : Fly (notedH H a dx C T') a dx C T' fs:=by
 unfold notedH
 refine ⟨upd_same,by rw [upd_ne ne,upd_same],ne,?_⟩
 rw [upd_ne na,upd_ne (ne_of_none ho n)]
 exact ho
theorem noted_hok {S : List Addr} {T' : Addr} {h' : Heap} {tb : Value} (ok : HOk X.prog X.w H s.heap) (he : H a = some (exD a C dx tb)) (hT0 : ∀ T,T0 = some T → H T = some (tbO T)) (hS : ∀ b ∈ S,H b = none)
  (N : Noted S a T0 T' .none s.heap h') : HOk X.prog X.w (notedH H a dx C T') h':=by
 obtain ⟨oe,vs,e1,c1,d1,f1,t1⟩:=exD_get ok he
 obtain ⟨oe',vs',e2,c2,d2,f2,t2⟩:=N.ex oe vs e1 f1
 obtain ⟨oT,ts,e3,f3,t3⟩:=N.tb
 have nT : H T' = none:=ok.fresh N.new
 intro b u e
 by_cases hba : b = a
 ·subst hba
  unfold notedH at e
  rw [upd_same] at e
  cases e
  exact exD_ok e2 (c2.trans c1) (d2.trans d1) f2 t2
 ·unfold notedH at e
  rw [upd_ne hba] at e
  by_cases hbT : b = T'
  ·subst hbT
   rw [upd_same] at e
   cases e
   exact tbO_ok e3 f3 t3
  ·rw [upd_ne hbT] at e
   have own_stays : ∀ c y,H c = some (.own y) → notedH H a dx C T' c = some (.own y):=fun c y q=>by
    have n1 : c ≠ a:=fun z=>by rw [z,he] at q; cases q
    unfold notedH
    rw [upd_ne n1,upd_ne (ne_of_none q nT)]
    exact q
   have tup_stays : ∀ c xs,H c = some (.tup xs) → notedH H a dx C T' c = some (.tup xs):=fun c xs q=>by
    have n1 : c ≠ a:=fun z=>by rw [z,he] at q; cases q
    unfold notedH
    rw [upd_ne n1,upd_ne (ne_of_none q nT)]
    exact q
   by_cases hb0 : T0 = some b
   ·have q:=hT0 b hb0
    rw [q] at e
    cases e
    obtain ⟨o4,t4,e4,f4,u4⟩:=N.old b hb0
    exact tbO_ok e4 f4 u4
   ·refine (ok b u e).stay (fun c v hc q=>?_) (fun c q=>own_stays c b q) fun c xs q=>tup_stays c xs q
    have kept : ∀ c v,H c = some v → c ≠ a → T0 ≠ some c → ∀ oc,s.heap.get? c = some oc → h'.get? c = some oc:=fun c v hv n1 n2 oc hoc=>N.keep c oc n1 n2 (fun z=>by rw [hS c z] at hv; cases hv) hoc
    rcases hc with rfl | hc
    ·exact kept c u e hba hb0 v q
    ·refine kept c _ hc (fun z=>by rw [z,he] at hc; cases hc) (fun z=>?_) v q
     rw [hT0 c z] at hc
     cases hc
theorem Inv.noted_un {T' : Addr} {h' : Heap} {tb : Value} (I : Inv X pins σ H s) (hex : X.ex = []) (hst : X.stack = X.env :: X.outer) (hfe : X.env.frame = some X.env.locals) (he : H a = some (exD a C dx tb)) (hT0 : ∀ T,T0 = some T → H T = some (tbO T))
  (N : Noted (frs X.stack) a T0 T' .none s.heap h') : Un (frs X.outer) [] X.H_0 (notedH H a dx C T') X.s_0.heap h':=by
 have nT : H T' = none:=I.hok.fresh N.new
 have nex : ∀ b : Addr,b ∉ X.ex:=fun b=>by rw [hex]; simp
 have U : Un (frs X.outer) [] X.H_0 H X.s_0.heap s.heap:=I.base.mono (fun b h=>h) (fun b h=>absurd h (nex b))
 have neL : ∀ b o,X.s_0.heap.get? b = some o → b ≠ X.env.locals:=fun b o e=>Nat.ne_of_lt (Nat.lt_of_lt_of_le (Heap.lt_size e) I.ok.above)
 have mem : ∀ b,b ≠ X.env.locals → b ∉ frs X.outer → b ∉ frs X.stack:=fun b n1 n2 hb=>by
  rw [hst] at hb
  unfold frs at hb
  rw [List.filterMap_cons,hfe] at hb
  rcases List.mem_cons.mp hb with z | z
  ·exact n1 z
  ·exact n2 z
 have free : ∀ b o,X.s_0.heap.get? b = some o → X.H_0 b = none → notedH H a dx C T' b = none ∧ b ≠ a ∧ T0 ≠ some b:=fun b o e n=>by
  have hb : H b = none:=U.free b o e n (by simp)
  have n1 : b ≠ a:=fun z=>by rw [z,he] at hb; cases hb
  have n2 : T0 ≠ some b:=fun z=>by rw [hT0 b z] at hb; cases hb
  have n3 : b ≠ T':=by
   obtain ⟨o',e'⟩:=U.there b o e (by simp)
   exact Nat.ne_of_lt (Nat.lt_of_lt_of_le (Heap.lt_size e') N.new)
  refine ⟨?_,n1,n2⟩
  unfold notedH
  rw [upd_ne n1,upd_ne n3]
  exact hb
 have stays : ∀ (u : HO),(∀ φ,u ≠ .ext φ) → ∀ b,H b = some u → notedH H a dx C T' b = some u:=fun u hu b q=>by
  have n1 : b ≠ a:=fun z=>by rw [z,he] at q; cases q; exact hu _ rfl
  unfold notedH
  rw [upd_ne n1,upd_ne (ne_of_none q nT)]
  exact q
 refine ⟨fun b o e n hf _=>?_,fun b o e n hf _=>?_,fun b o e n _=>(free b o e n).1,fun b o e _=>?_,fun b xs q=>stays _ (fun φ z=>by cases z) b (U.tups b xs q),fun b o u q=>stays _ (fun φ z=>by cases z) b (U.frzs b o u q),fun b ps q=>?_⟩
 ·obtain ⟨_,n1,n2⟩:=free b o e n
  exact N.keep b o n1 n2 (mem b (neL b o e) hf) (U.keep b o e n hf (by simp))
 ·obtain ⟨_,n1,n2⟩:=free b o e n
  obtain ⟨sl,q⟩:=U.slot b o e n hf (by simp)
  obtain ⟨sl',q'⟩:=N.slot b _ n1 n2 q
  exact ⟨sl',q'⟩
 ·obtain ⟨o',e'⟩:=U.there b o e (by simp)
  by_cases n1 : b = a
  ·subst n1
   obtain ⟨oe,vs,e1,_,_,f1,_⟩:=exD_get I.hok he
   obtain ⟨oe',_,e2,_⟩:=N.ex oe vs e1 f1
   exact ⟨oe',e2⟩
  ·by_cases n2 : T0 = some b
   ·obtain ⟨o4,_,e4,_⟩:=N.old b n2
    exact ⟨o4,e4⟩
   ·obtain ⟨sl,q⟩:=N.slot b o' n1 n2 e'
    exact ⟨_,q⟩
 ·obtain ⟨more,q'⟩:=U.tbls b ps q
  exact ⟨more,stays _ (fun φ z=>by cases z) b q'⟩
end
end XL
namespace XL
open PySem PySem.Spec PyProof.Rows L2
def Throws (X : Cx) (E : XK) : Prop:=∀ (pins : List (Addr × Obj)) (σ : L2.St) (H : Hp) (s : Shared) (a dx C : Addr) (fs : List (Str × V)),Inv X pins σ H s → H a = some (exD a C dx .none) → H dx = some (.xd fs) →
 (∀ H2,Beside a H H2 → E (.ref C) (some dx) H2) → X.xe (.ref a) s
section
variable {P : Program} {w : World} {K : PySem.W.Frag} {mg : Str → Option Value} {base : Heap} {N : List Str} {qual : Str} {scope : Scope} {f : Addr} {cd : Value} {A : Around} {outer : List Env} {s0 : Shared} {H0 : Hp} {E : XK}
theorem throws1 : Throws (cxOf (CX1 P w) P w K mg base N qual scope f cd A outer s0 H0 E) E:=by
 intro pins σ H s a dx C fs I he ho hE
 obtain ⟨oe,vs,e1,c1,d1,f1,t1⟩:=exD_get I.hok he
 have na : dx ≠ a:=ne_of ho he (by intro z; cases z)
 show wpAny _ _ (leaving _ _) _ _ _
 unfold leaving
 refine wpAny_bind (note_first (base:=base) (outer:=outer) (L:=s0.heap.objs.size) I.ok.frames I.stack rfl e1 f1 t1 fun h' T' N1=>?_)
 have nT : H T' = none:=I.hok.fresh N1.new
 have nS : T' ∉ frs (envOfC qual scope s0.heap.objs.size f cd :: outer):=fun z=>by
  obtain ⟨_,o,ho',_⟩:=I.stack.mem z
  rw [N1.dead] at ho'; cases ho'
 refine Noted.land (s:={ s with heap:=h' }) N1 e1 f1 nS fun h2 N2=>?_
 have hT0 : ∀ T,(none : Option Addr) = some T → H T = some (tbO T):=fun T z=>by cases z
 exact ⟨a,dx,C,T',fs,notedH H a dx C T',rfl,I.os,I.bare,Inv.noted_un I rfl rfl rfl he hT0 N2,noted_hok (X:=cxOf (CX1 P w) P w K mg base N qual scope f cd A outer s0 H0 E) I.hok he hT0 I.stkFree N2,fly_noted nT N1.ne na ho,fun H2 b=>hE H2 ((notedH_beside nT).trans b)⟩
theorem passes1 : Passes (CX1 P w) (cxOf (CX1 P w) P w K mg base N qual scope f cd A outer s0 H0 E) E:=by
 rintro pins σ H s e s' I ⟨a,dx,C,T,fs,H',rfl,os,bare,un,hok,F,hE⟩
 have J : Inv (cxOf (CX1 P w) P w K mg base N qual scope f cd A outer s0 H0 E) pins σ H' s':=I.call' (ch:=[]) os un hok bare fun b hb=>absurd hb (by simp)
 obtain ⟨oe,vs,e1,c1,d1,f1,t1⟩:=exD_get J.hok F.ex
 obtain ⟨oT,ts,e2,f2,t2⟩:=tbO_get J.hok F.tb
 show wpAny _ _ (leaving _ _) _ _ _
 unfold leaving
 refine wpAny_bind (note_next (base:=base) (outer:=outer) (L:=s0.heap.objs.size) J.ok.frames J.stack rfl e1 f1 t1 F.ne e2 f2 t2 fun h' T' N1=>?_)
 have nT : H' T' = none:=J.hok.fresh N1.new
 have nS : T' ∉ frs (envOfC qual scope s0.heap.objs.size f cd :: outer):=fun z=>by
  obtain ⟨_,o,ho',_⟩:=J.stack.mem z
  rw [N1.dead] at ho'; cases ho'
 refine Noted.land (s:={ s' with heap:=h' }) N1 e1 f1 nS fun h2 N2=>?_
 have hT0 : ∀ T2,(some T : Option Addr) = some T2 → H' T2 = some (tbO T2):=fun T2 z=>by cases z; exact F.tb
 exact ⟨a,dx,C,T',fs,notedH H' a dx C T',rfl,J.os,J.bare,Inv.noted_un J rfl rfl rfl F.ex hT0 N2,noted_hok (X:=cxOf (CX1 P w) P w K mg base N qual scope f cd A outer s0 H0 E) J.hok F.ex hT0 J.stkFree N2,fly_noted nT N1.ne F.nd F.own,fun H2 b=>hE H2 ((notedH_beside nT).trans b)⟩
theorem own1 : PassesOwn (model P w) (cxOf (CX1 P w) P w K mg base N qual scope f cd A outer s0 H0 E).A (cxOf (CX1 P w) P w K mg base N qual scope f cd A outer s0 H0 E).env (cxOf (CX1 P w) P w K mg base N qual scope f cd A outer s0 H0 E).xe :=
 PassesOwn.leaving (Q₁:=fun e s''=>CX1 P w outer H0 s0 E e s'')
theorem Fun.ok1 {x : Str} {st : Stmt} {fd : FuncData} {ps : List Str} {k : Nat} {sp : Sp} (F : Fun K x qual st f fd) (S : FnScope N ps (defScope st)) (len : ∀ vs H Q E,sp vs H Q E → vs.length = ps.length)
  (hbody : ∀ (cdv : Value) (A : Around) (outer : List Env) (s : Shared) (H : Hp) (vs : List V) (Q : VK) (E : XK),Room k (A.deeper (envOfC qual (defScope st) s.heap.objs.size f cdv)) → sp vs H Q E →
   ∃ t,PSs (cxOf (CX1 P w) P w K mg base N qual (defScope st) f cdv A outer s H E) (defBody st) t ∧ t { nx:=fun _ H'=>Q .non H',rt:=Q } (start N vs) H) : FnOk P w K mg base (CX1 P w) (k + 1) f fd ps sp:=by
 obtain ⟨oc,od,kV,doc,pm,an,cdv,ct,osl,rfl,lk,hcd⟩:=F.ex
 exact fn_of lk hcd S len fun A outer s H vs Q E hr hsp=>hbody cdv A outer s H vs Q E hr hsp
end
end XL
namespace XL
open PySem PySem.Spec PyProof.Rows L2
def nsAt (K : PySem.W.Frag) (N : Addr) (x : Str) : Option Value:=match K.lookup N with
 | some ⟨_,_,.dict es _,_⟩=>nsFind es x
 | _=>none
def nsGood (K : PySem.W.Frag) (N : Addr) : Bool:=match K.lookup N with
 | some ⟨_,_,.dict es _,_⟩=>es.toList.all fun e=>match e.key with | .str _ _=>true | _=>false
 | _=>false
theorem ns_of {K : PySem.W.Frag} {N : Addr} {h : Heap} (X : K.In h) (g : nsGood K N = true) : h.Ns N (nsAt K N):=by
 unfold nsGood at g
 split at g
 ·rename_i c d es ep sl q
  refine ⟨_,es,ep,X _ _ q,rfl,fun e he=>?_,fun name=>?_⟩
  ·have:=List.all_eq_true.mp g e (Array.mem_toList_iff.mpr he)
   split at this
   ·rename_i n t hk
    exact ⟨n,t,hk⟩
   ·cases this
  ·unfold nsAt
   rw [q]
 ·cases g
abbrev bmX : List Value:=[.type "Exception",.type "BaseException",.type "object"]
structure XCls (K : PySem.W.Frag) (C N fI : Addr) : Prop where
 obj : ∃ nm q bs sn sub ab col dd k0 k1 k2 k3 k5,K.lookup C = some (excClassObj nm q C N bs bmX true sn sub ab col dd k0 k1 k2 k3 k5 "Exception.__new__")
 ns : nsGood K N = true
 ini : nsAt K N "__init__" = some (.ref fI)
 sa : nsAt K N "__setattr__" = none
 ga : nsAt K N "__getattribute__" = none
 gt : nsAt K N "__getattr__" = none
 fn : ∃ o,K.lookup fI = some o ∧ o.cls = .type "function"
 kp : PySem.W.keepIn K (.ref C) = true
structure XAttr (K : PySem.W.Frag) (N : Addr) (x : Str) : Prop where
 own : nsAt K N x = none
 up : typeLookup (.type "Exception") x = pure none
theorem live_of {P : Program} {w : World} {H : Hp} {h : Heap} {a : Addr} {o : HO} (x : ObjOk P w H h a o) : ∃ u,h.get? a = some u:=by
 cases o with
 | lst xs=>obtain ⟨_,_,_,_,e⟩:=x; exact ⟨_,e⟩
 | tup xs=>obtain ⟨_,_,_,o,e,_⟩:=x; exact ⟨_,e⟩
 | dK kvs=>obtain ⟨_,_,_,_,o,_,_,e,_⟩:=x; exact ⟨_,e⟩
 | dT kvs=>obtain ⟨_,_,_,_,o,_,_,e,_⟩:=x; exact ⟨_,e⟩
 | set S n=>obtain ⟨o,_,_,_,e,_⟩:=x; exact ⟨_,e⟩
 | ins C dx fs=>obtain ⟨_,_,_,e,_⟩:=x; exact ⟨_,e⟩
 | own y=>exact x
 | xd fs=>obtain ⟨_,⟨_,_,_,e,_⟩,_⟩:=x; exact ⟨_,e⟩
 | rng lo hi=>obtain ⟨_,_,_,e⟩:=x; exact ⟨_,e⟩
 | frz ob u=>obtain ⟨e,_⟩:=x; exact ⟨_,e⟩
 | tbl ps=>exact ⟨_,(show h.get? a = some _ from x)⟩
 | met f y=>exact ⟨_,(show h.get? a = some _ from x)⟩
 | ext φ=>obtain ⟨_,e,_⟩:=x; exact e
theorem dead_none {P : Program} {w : World} {H : Hp} {h : Heap} {a : Addr} (ok : HOk P w H h) (e : h.get? a = none) : H a = none:=by
 cases q : H a with
 | none=>rfl
 | some o =>
  obtain ⟨u,z⟩:=live_of (ok a o q)
  rw [e] at z
  cases z
section
variable {X : Cx} {pins : List (Addr × Obj)} {σ : L2.St} {H : Hp} {s : Shared} {a dx C N fI : Addr} {A : Around} {E : Value → Shared → Prop}
theorem laidN {o : HO} {h' : Heap} {t' : Nat} (I : Inv X pins σ H s) (k : ∀ b u,s.heap.get? b = some u → h'.get? b = some u) (hp : s.heap.get? a = none) (hn : H a = none) (new : ObjOk X.prog X.w (upd H a o) h' a o) :
  Inv X pins σ (upd H a o) { s with heap:=h',toks:=t' }:=by
 have ne : ∀ b u,s.heap.get? b = some u → b ≠ a:=fun b u q z=>by rw [z,hp] at q; cases q
 refine I.un ⟨fun b u q _ _ _=>k b u q,fun b u q _ _ _=>⟨u.slots,k b u q⟩,fun b u q n _=>by rw [upd_ne (ne b u q)]; exact n,fun b u q _=>⟨u,k b u q⟩,fun b xs q=>by rw [upd_ne (ne_of_none q hn)]; exact q,
  fun b u xs q=>by rw [upd_ne (ne_of_none q hn)]; exact q,fun b ps q=>⟨#[],by rw [upd_ne (ne_of_none q hn),q]; simp⟩⟩ fun b u e=>?_
 by_cases hb : b = a
 ·subst hb
  rw [upd_same] at e
  cases e
  exact new
 ·rw [upd_ne hb] at e
  exact (I.hok b u e).stay (fun c v _ q=>k c v q) (fun c q=>by rw [upd_ne (ne_of_none q hn)]; exact q) fun c xs q=>by rw [upd_ne (ne_of_none q hn)]; exact q
theorem raise_inst {M : Model} {env : Env} {x : Sem Value} {Q : Flow → Shared → Prop} {K : PySem.W.Frag} (hC : XCls K C N fI) (hh : A.handled = none)
  (h : wpAny M A x (fun v s1=>∃ e oe vs,v = .ref e ∧ K.In s1.heap ∧ s1.heap.get? e = some oe ∧ oe.cls = .ref C ∧ oe.data = .fields vs ∧ vs[1]? = some .none ∧ E (.ref e) s1) E s) :
  wpAny M A (raiseStmt env (some x) none) Q E s:=by
 obtain ⟨nm,q,bs,sn,sub,ab,col,dd,k0,k1,k2,k3,k5,lk⟩:=hC.obj
 have hcB : (Value.ref C :: bmX).contains (.type "BaseException") = true:=by rw [List.contains_cons,F.excBase_Exception.hasBase,Bool.or_true]
 unfold raiseStmt
 refine wpAny_bind (wpAny_mono h (fun v s1 h1=>?_) fun _ _ x=>x)
 obtain ⟨e,oe,vs,rfl,KX,he,hc,hd,ht,hE⟩:=h1
 have hC1:=KX _ _ lk
 obtain ⟨hp,g,d,tk,os⟩:=s1
 repeat (first | (with_reducible refine wpAny_loadPart_at he ?_; rw [hc]) | with_reducible refine wpAny_loadPart_at hC1 ?_ | (with_reducible refine wpAny_isSubtype_exc hC1 ?_; rw [hcB]) | with_reducible refine wpAny_field he hd ht ?_ | wp_step)
 exact wpAny_raiseNew_none hh hE
end
end XL
namespace XL
open PySem PySem.Spec PyProof.Rows L2
def spXInit (C : Addr) (nm : Str) : Sp:=fun vs H Q _=>∃ (a : Addr) (v : V),vs = [.ref a,v] ∧ H a = some (exN a C) ∧
 ∀ (H' : Hp) (dx : Addr),H' a = some (exD a C dx .none) → H' dx = some (.xd [(nm,v)]) → (∀ b o,H b = some o → b ≠ a → H' b = some o) → Q .non H'
def tNewX (C : Addr) (nm : Str) (te : TE) : TE:=fun σ H Q=>te σ H fun v H1=>∀ (H2 : Hp) (a dx : Addr),H1 a = none → H2 a = some (exD a C dx .none) → H2 dx = some (.xd [(nm,v)]) → (∀ b o,H1 b = some o → H2 b = some o) → Q (.ref a) H2
def tRaise (C : Addr) (E : XK) (te : TE) : TS:=fun _ σ H=>te σ H fun v H1=>∃ a dx fs,v = .ref a ∧ H1 a = some (exD a C dx .none) ∧ H1 dx = some (.xd fs) ∧ ∀ H2,Beside a H1 H2 → E (.ref C) (some dx) H2
section
variable {X : Cx} {CX : CXT} {C N fI : Addr} {fd : FuncData} {ps : List Str} {nm : Str} {k : Nat} {E : XK} {x : Str} {p pos : Pos} {e : Expr} {te : TE}
theorem run_newX {pins : List (Addr × Obj)} {σ : L2.St} {H : Hp} {s : Shared} {Q : Value → Shared → Prop} {u : Value} {v : V} (hC : XCls X.K C N fI) (F : FnOk X.prog X.w X.K X.mg X.base CX0 k fI fd ps (spXInit C nm)) (hr : Room (k + 1) X.A) (hb : Binds X.K fd ps [])
  (I : Inv X pins σ H s) (r : RelV v u)
  (h : ∀ s' H' a dx,H a = none → Inv X pins σ H' s' → H' a = some (exD a C dx .none) → H' dx = some (.xd [(nm,v)]) → (∀ b o,H b = some o → H' b = some o) → Q (.ref a) s') :
  wpAny (model X.prog X.w) X.A (call (.ref C) [u]) Q X.xe s:=by
 obtain ⟨nm',q,bs,sn,sub,ab,col,dd,k0,k1,k2,k3,k5,lk⟩:=hC.obj
 obtain ⟨oI,lkI,hcI⟩:=hC.fn
 have KX:=I.kIn
 obtain ⟨hp,g,d,t,os⟩:=s
 refine wpAny_call_exc_init PySem.F.excBase_Exception (KX _ _ lk) (ns_of KX hC.ns) hC.ini (KX _ _ lkI) hcI (hrest:=by show 1 ≤ sizeLine; decide) fun h' a hm=>?_
 obtain ⟨t0,e1,e2,e3⟩:=hm.there
 have hn : H a = none:=dead_none I.hok hm.new
 have I1 : Inv X pins σ (upd H a (exN a C)) { heap:=h',gens:=g,drawn:=d,toks:=t,os:=os }:=laidN (t':=t) I hm.keeps hm.new hn (exN_ok e1 rfl rfl rfl)
 have hl : ([Value.ref a,u] ++ []).length = ps.length:=by
  have:=F.len [.ref a,v] (upd H a (exN a C)) (fun _ _=>True) E0 ⟨a,v,rfl,upd_same,fun _ _ _ _ _=>trivial⟩
  rw [← this]
  rfl
 have r2 : Vals [V.ref a,v] [Value.ref a,u]:=.cons rfl (.cons r .nil)
 refine wpAny_call (codeAny_mono (F.run _ X.stack _ (upd H a (exN a C)) ⟨[.ref a,u],[]⟩ ([.ref a,u] ++ []) [.ref a,v]
  (fun v' H'=>v' = .non ∧ ∃ dx,H' a = some (exD a C dx .none) ∧ H' dx = some (.xd [(nm,v)]) ∧ ∀ b o,H b = some o → H' b = some o) E0 (hr.make C [u] []) (I1.env0.make C [u] []) (hb _ [.ref a,u] I1.kIn hl) r2 ?_) fun r' s' hq=>?_)
 ·exact ⟨a,v,rfl,upd_same,fun H' dx q1 q2 kp=>⟨rfl,dx,q1,q2,fun b o e=>kp b o (by rw [upd_ne (ne_of_none e hn)]; exact e) (ne_of_none e hn)⟩⟩
 ·cases r' with
  | error e'=>exact False.elim hq
  | ok fl =>
   cases fl with
   | ret u' =>
    obtain ⟨v',H',I3,rv,ev,dx,q1,q2,q3⟩:=I1.after hq
    subst ev
    exact ⟨rv,h s' H' a dx hn I3 q1 q2 q3⟩
   | next=>exact False.elim hq
   | brk=>exact False.elim hq
   | cont=>exact False.elim hq
theorem pe_newX (hC : XCls X.K C N fI) (F : FnOk X.prog X.w X.K X.mg X.base CX0 k fI fd ps (spXInit C nm)) (hr : Room (k + 1) X.A) (hb : Binds X.K fd ps []) (hg : Gl X x) (hm : X.mg x = some (.ref C)) (he : PE X e te)
  (hdb : (x == ("__debug__" : Str)) = false:=by decide) (hst : starEach [e] X.env = (false,eval e X.env) :: starEach [] X.env:=by rfl) : PE X (.Call (.Name x p) [e] [] pos) (tNewX C nm te):=by
 intro pins s σ H Q I h
 refine wpAny_Call_Name_kw (ld_glob I hg hm ?_ hdb)
 refine PySem.W.callWith_K (h₀:=X.base) I.ok.mod.kin hC.kp (thn ((pa_cons he pa_nil hst) pos pins s σ H (fun vs H1=>match vs with
   | [v]=>∀ (H2 : Hp) (a dx : Addr),H1 a = none → H2 a = some (exD a C dx .none) → H2 dx = some (.xd [(nm,v)]) → (∀ b o,H1 b = some o → H2 b = some o) → Q (.ref a) H2
   | _=>False) I h) fun us s1 ⟨vs,H1,I1,r,q⟩=>⟨I1.kIn,?_⟩) hst rfl
 match vs,r,q with
 | [v],.cons r1 .nil,q=>exact run_newX hC F hr hb I1 r1 fun s' H' a dx q0 I' q1 q2 q3=>⟨.ref a,H',I',rfl,q H' a dx q0 q1 q2 q3⟩
theorem ps_raise (hC : XCls X.K C N fI) (hh : X.A.handled = none) (ht : Throws X E) (he : PE X e te) : PS X (.Raise (some e) none pos) (tRaise C E te):=by
 intro pins s σ H D I h
 rw [arm_exec_Raise]
 refine wpAny_bind (wpAny_standAt (raise_inst hC hh (wpAny_bind (thn (he pins s σ H _ I h) fun u s1 ⟨v,H1,I1,r,a,dx,fs,ev,e1,e2,hE⟩=>wpAny_bind (wpAny_standAt (wpAny_pure ?_))))))
 subst ev
 obtain rfl : u = Value.ref a:=r
 obtain ⟨oe,vs,q1,q2,q3,q4,q5⟩:=exD_get I1.hok e1
 exact ⟨a,oe,vs,rfl,I1.kIn,q1,q2,q4,q5,ht pins σ H1 s1 a dx C fs I1 e1 e2 hE⟩
end
end XL
namespace XL
open PySem PySem.Spec PyProof.Rows L2
open Builtin Builtin.ObjectAttr
section
variable {prog : Program} {w : World} {A : Around} {E : Value → Shared → Prop} {h : Heap} {g : Array GenState} {d : Drawn} {t : Nat} {os : OsState} {a dx : Addr} {o : Obj}
 {nm q : Str} {C N : Addr} {bs : List Value} {sn : List Str} {sub : List Value} {ab : Bool} {col : Option Bool} {dd : Option Addr} {k0 k1 k2 k3 k5 : Option Value} {newId : String} {mN mA : Str → Option Value} {name : Str} {v : Value}
theorem xget_entry {tk : Tok} {Q : Fin → Shared → Prop} (hC : h.get? C = some (excClassObj nm q C N bs bmX true sn sub ab col dd k0 k1 k2 k3 k5 newId)) (hn : h.Ns N mN) (hna : mN name = none) (hB : typeLookup (.type "Exception") name = pure none)
  (hx : h.get? a = some o) (hc : o.cls = .ref C) (hnc : ∀ c,o.data ≠ .cls c) (hdx : o.dict = some dx) (hns : h.Ns1 dx mA) (hv : mA name = some v) (hq : Q (.done (.ret v)) ⟨h,g,d,t,os⟩) :
  wpAny (model prog w) A (Builtin.«object.__getattribute__» ⟨[.ref a,.str name tk],[]⟩) Q E ⟨h,g,d,t,os⟩:=by
 unfold Builtin.«object.__getattribute__»
 repeat (first | (with_reducible refine wpAny_loadPart_at hx ?_; rw [hc]) | (with_reducible refine wpAny_typeLookup_exc hC hn PySem.F.attrBase_Exception.mro hB ?_; rw [hna]) | wp_step)
 split
 ·rename_i c hcd
  exact absurd hcd (hnc c)
 unfold instanceDict
 repeat (first | (with_reducible refine wpAny_loadPart_at hx ?_; rw [hc]) | with_reducible refine wpAny_loadPart_at hC ?_ | wp_step)
 rw [hdx]
 repeat (first | (with_reducible refine wpAny_nsGet hns.ns ?_; rw [hv]) | wp_step)
 exact hq
theorem xget_check {M : Model} {nameV : Value} {Q : Unit → Shared → Prop} (hC : h.get? C = some (excClassObj nm q C N bs bmX true sn sub ab col dd k0 k1 k2 k3 k5 newId)) (hx : h.get? a = some o) (hc : o.cls = .ref C) (hq : Q () ⟨h,g,d,t,os⟩) :
  wpAny M A (checkBuiltinCall "BaseException.__getattribute__" ⟨[.ref a,nameV],[]⟩) Q E ⟨h,g,d,t,os⟩ :=
 wpAny_check_ga_own PySem.F.attrBase_Exception hC .base hx hc hq
theorem xget_by {tk : Tok} {fill expr : Bool} {Q : Value → Shared → Prop} (hC : h.get? C = some (excClassObj nm q C N bs bmX true sn sub ab col dd k0 k1 k2 k3 k5 newId)) (hn : h.Ns N mN) (hga : mN "__getattribute__" = none) (hgt : mN "__getattr__" = none) (hna : mN name = none) (hB : typeLookup (.type "Exception") name = pure none)
  (hx : h.get? a = some o) (hc : o.cls = .ref C) (hnc : ∀ c,o.data ≠ .cls c) (hdx : o.dict = some dx) (hns : h.Ns1 dx mA) (hv : mA name = some v) (hh : handedOut v = pure v) (hq : Q v ⟨h,g,d,t,os⟩) :
  wpAny (model prog w) A (getAttrBy (.ref a) (.str name tk) fill expr) Q E ⟨h,g,d,t,os⟩:=by
 have f3:=PySem.F.attrBase_Exception.ga.bind (.ref a)
 have hx0 : (expr && onTheHeap (Value.builtin "BaseException.__getattribute__")) = false:=by cases expr <;> rfl
 have hx2 : (Value.builtin "BaseException.__getattribute__" == Value.builtin "object.__getattribute__") = false:=by decide +kernel
 have hx1 : (onTheHeap (Value.ref C) && Value.builtin "BaseException.__getattribute__" == Value.builtin "object.__getattribute__") = false:=by rw [hx2]; rfl
 repeat (any_goals (first | assumption | (with_reducible refine wpAny_loadPart_at hx ?_; rw [hc]) | (with_reducible refine wpAny_typeLookup_exc hC hn PySem.F.attrBase_Exception.mro PySem.F.attrBase_Exception.ga.lookup ?_; rw [hga]) | (with_reducible refine wpAny_typeLookup_exc hC hn PySem.F.attrBase_Exception.mro PySem.F.attrBase_Exception.noGetattr ?_; rw [hgt]) | wp_step))
 refine codeAny_call_builtin PySem.F.attrBase_Exception.ga.plain PySem.F.entry_bexc_ga (xget_check hC hx hc (xget_entry hC hn hna hB hx hc hnc hdx hns hv ?_))
 repeat (any_goals (first | assumption | wp_step))
theorem xget_attr {expr : Bool} {Q : Value → Shared → Prop} (hC : h.get? C = some (excClassObj nm q C N bs bmX true sn sub ab col dd k0 k1 k2 k3 k5 newId)) (hn : h.Ns N mN) (hga : mN "__getattribute__" = none) (hgt : mN "__getattr__" = none) (hna : mN name = none) (hB : typeLookup (.type "Exception") name = pure none)
  (hx : h.get? a = some o) (hc : o.cls = .ref C) (hnc : ∀ c,o.data ≠ .cls c) (hdx : o.dict = some dx) (hns : h.Ns1 dx mA) (hv : mA name = some v) (hh : handedOut v = pure v) (hq : Q v ⟨h,g,d,t + 1,os⟩) :
  wpAny (model prog w) A (getAttr (.ref a) name expr) Q E ⟨h,g,d,t,os⟩:=by
 unfold getAttr
 repeat (any_goals (first | assumption | with_reducible apply xget_by hC hn hga hgt hna hB hx hc hnc hdx hns hv hh | wp_step))
end
def tXFld (K : PySem.W.Frag) (ta : TE) (f : Str) : TE:=fun σ H Q=>ta σ H fun x H1=>∃ a C N fI dx tb fs v,x = .ref a ∧ H1 a = some (exD a C dx tb) ∧ H1 dx = some (.xd fs) ∧ XCls K C N fI ∧ XAttr K N f ∧ fs.lookup f = some v ∧ Q v H1
def sXFld (K : PySem.W.Frag) (ta tv : TE) (f : Str) : TS:=fun D σ H=>tv σ H fun y H1=>ta σ H1 fun x H2=>∃ a C N fI,x = .ref a ∧ H2 a = some (exN a C) ∧ XCls K C N fI ∧ XAttr K N f ∧
 ∀ dx,H2 dx = none → dx ≠ a → D.nx σ (upd (upd H2 dx (.xd [(f,y)])) a (exD a C dx .none))
def tXInit (K : PySem.W.Frag) (ta : TA) : TE:=fun σ H Q=>ta σ H fun vs H1=>∃ a C N fI v,vs = [.ref a,v] ∧ H1 a = some (exN a C) ∧ XCls K C N fI ∧ Q .non H1
section
variable {X : Cx} {o e value e1 e2 : Expr} {f : Str} {pos pos' apos p : Pos} {ta tv : TE} {t : TA}
theorem pe_xfld (he : PE X e ta) (hb : attributeBase e f X.env (eval e X.env) = eval e X.env) : PE X (.Attribute e f pos) (tXFld X.K ta f):=by
 intro pins s σ H Q I h
 refine attr_of hb (thn (he pins s σ H _ I h) fun u s1 ⟨x,H1,I1,rx,a,C,N,fI,dx,tb,fs,v,ex,ea,ed,hC,hA,l,q⟩=>?_)
 subst ex
 obtain rfl : u = Value.ref a:=rx
 obtain ⟨oe,vs,q1,q2,q3,q4,q5⟩:=exD_get I1.hok ea
 obtain ⟨mA,n1,r1⟩:=(show ObjOk X.prog X.w H1 s1.heap dx (.xd fs) from I1.hok dx _ ed)
 obtain ⟨u',hu,ru⟩:=RelO.some_of (v:=v) (o:=mA f) (by rw [← l]; exact r1 f)
 obtain ⟨nm,q,bs,sn,sub,ab,col,dd,k0,k1,k2,k3,k5,lk⟩:=hC.obj
 have KX:=I1.kIn
 have J:=I1.tok (s1.toks + 1)
 obtain ⟨hp,g,d,tk,os⟩:=s1
 exact xget_attr (KX _ _ lk) (ns_of KX hC.ns) hC.ga hC.gt hA.own hA.up q1 q2 (fun c z=>by rw [q4] at z; cases z) q3 n1 hu (PySem.W.handedOut_of (handed_of ru)) ⟨v,H1,J,ru,by assumption⟩
end
end XL
namespace XL
open PySem PySem.Spec PyProof.Rows L2
open Builtin Builtin.ObjectAttr
section
variable {prog : Program} {w : World} {A : Around} {E : Value → Shared → Prop} {h : Heap} {g : Array GenState} {d : Drawn} {t : Nat} {os : OsState} {x : Addr} {o : Obj}
 {nm q : Str} {C N : Addr} {bs : List Value} {sn : List Str} {sub : List Value} {ab : Bool} {col : Option Bool} {dd : Option Addr} {k0 k1 k2 k3 k5 : Option Value} {newId : String} {mN : Str → Option Value} {name : Str} {v : Value}
theorem xset_entry {tk : Tok} {Q : Fin → Shared → Prop} (hC : h.get? C = some (excClassObj nm q C N bs bmX true sn sub ab col dd k0 k1 k2 k3 k5 newId)) (hn : h.Ns N mN) (hna : mN name = none)
  (hB : typeLookup (.type "Exception") name = pure none) (hx : h.get? x = some o) (hc : o.cls = .ref C) (hnc : ∀ c,o.data ≠ .cls c) (hdn : o.dict = none)
  (hq : ∀ h' tk',h'.get? x = some { o with dict:=some h.objs.size } → h'.Ns1 h.objs.size (fun y=>if y = name then some v else none) → (∀ b ob,b ≠ x → h.get? b = some ob → h'.get? b = some ob) → Q (.done (.ret .none)) ⟨h',g,d,tk',os⟩) :
  wpAny (model prog w) A (Builtin.«object.__setattr__» ⟨[.ref x,.str name tk,v],[]⟩) Q E ⟨h,g,d,t,os⟩:=by
 have SF:=PySem.F.store_Exception
 have hpass:=SF.passes (.ref x)
 unfold Builtin.«object.__setattr__»
 repeat (first | rw [refuse_eq] | (rw [refuseLoop_ref,hpass]) | (with_reducible refine wpAny_loadPart_at hx ?_; rw [hc]) | with_reducible refine wpAny_mroOf_exc hC ?_ | (with_reducible refine wpAny_typeLookup_exc hC hn SF.mro hB ?_; rw [hna]) | wp_step)
 rw [hdn,if_neg (by simp [typeHasDict])]
 split
 ·rename_i hcd
  cases hcd
 split
 ·rename_i c hcd
  exact absurd hcd (hnc c)
 ·have hx₁ : (h.push { cls:=.type "dict",data:=.dict #[] }).get? x = some o:=Heap.get?_push_of_some _ hx
  have hxs : x ≠ h.objs.size:=Nat.ne_of_lt (Heap.lt_size hx)
  refine wpAny_bind (wpAny_alloc' ?_)
  refine wpAny_bind (wpAny_update' hx₁ ?_)
  refine wpAny_pure ?_
  have hgd : ((h.push { cls:=.type "dict",data:=.dict #[] }).update x fun o=>{ cls:=o.cls,dict:=some h.objs.size,data:=o.data,slots:=o.slots }).get? h.objs.size
    = some { cls:=.type "dict",data:=.dict #[] } :=
   (Heap.get?_update_ne _ _ _ _ hxs.symm).trans (Heap.get?_push_at rfl rfl)
  have hnd : ((h.push { cls:=.type "dict",data:=.dict #[] }).update x fun o=>{ cls:=o.cls,dict:=some h.objs.size,data:=o.data,slots:=o.slots }).Ns h.objs.size (fun _=>none) :=
   ⟨_,#[],_,hgd,rfl,fun e he=>absurd he (by simp),fun _=>rfl⟩
  show wpAny _ _ (storeInDict h.objs.size (.str name tk) name v) _ _ _
  unfold storeInDict newKeyGuard
  refine wpAny_bind (wpAny_pure (wpAny_bind (wpAny_nsSet1 (Heap.Ns1.of_empty hnd) fun h' hn' hs=>?_)))
  obtain ⟨oD,esD,epD,hoD,hdD,hcD⟩:=hn'.count (Within.cons name v Within.nil)
  refine wpAny_bind (wpAny_lookBehind hoD (by rw [hdD]; exact pastItsLine_dict (Nat.le_trans hcD (by rw [List.length_cons,List.length_nil,sizeLine_eq]; omega))) ?_)
  wp_walk
  refine hq h' _ ?_ hn' fun b ob hbx hb=>?_
  ·refine (hs.2 x hxs).trans (Heap.get?_update_self _ hx₁ ?_)
   have hfr:=(Heap.get?_some_iff.mp hx).2
   obtain ⟨oc,od,odt,osl⟩:=o
   cases odt <;> first | rfl | exact hfr
  ·exact (hs.2 b (Nat.ne_of_lt (Heap.lt_size hb))).trans ((Heap.get?_update_ne _ _ _ _ hbx).trans (Heap.get?_push_of_some _ hb))
theorem xset_call {tk : Tok} {R : Result → Shared → Prop} {sa owner : String} (SF : StoreFacts "Exception" bmX sa owner) (hC : h.get? C = some (excClassObj nm q C N bs bmX true sn sub ab col dd k0 k1 k2 k3 k5 newId)) (hn : h.Ns N mN) (hna : mN name = none)
  (hB : typeLookup (.type "Exception") name = pure none) (hx : h.get? x = some o) (hc : o.cls = .ref C) (hnc : ∀ c,o.data ≠ .cls c) (hdn : o.dict = none)
  (hq : ∀ h' tk',h'.get? x = some { o with dict:=some h.objs.size } → h'.Ns1 h.objs.size (fun y=>if y = name then some v else none) → (∀ b ob,b ≠ x → h.get? b = some ob → h'.get? b = some ob) → R (.ok (.ret .none)) ⟨h',g,d,tk',os⟩) :
  codeAny (model prog w) A (.call (.builtin sa) ⟨[.ref x,.str name tk,v],[]⟩) R ⟨h,g,d,t,os⟩ :=
 codeAny_call_builtin SF.slot.plain SF.entry (wpAny_check_sa SF hC hx hc (xset_entry hC hn hna hB hx hc hnc hdn hq))
theorem xset_attr {Q : Unit → Shared → Prop} {sa owner : String} (SF : StoreFacts "Exception" bmX sa owner) (hC : h.get? C = some (excClassObj nm q C N bs bmX true sn sub ab col dd k0 k1 k2 k3 k5 newId)) (hn : h.Ns N mN) (hns : mN "__setattr__" = none) (hna : mN name = none)
  (hB : typeLookup (.type "Exception") name = pure none) (hx : h.get? x = some o) (hc : o.cls = .ref C) (hnc : ∀ c,o.data ≠ .cls c) (hdn : o.dict = none)
  (hq : ∀ h' tk',h'.get? x = some { o with dict:=some h.objs.size } → h'.Ns1 h.objs.size (fun y=>if y = name then some v else none) → (∀ b ob,b ≠ x → h.get? b = some ob → h'.get? b = some ob) → Q () ⟨h',g,d,tk',os⟩) :
  wpAny (model prog w) A (setAttr (.ref x) name v) Q E ⟨h,g,d,t,os⟩:=by
 have f3:=SF.slot.bind (.ref x)
 unfold setAttr callSpecial? specialOf
 repeat (any_goals (first | assumption | (with_reducible refine wpAny_loadPart_at hx ?_; rw [hc]) | (with_reducible refine wpAny_typeLookup_exc hC hn SF.mro SF.slot.lookup ?_; rw [hns]) | wp_step))
 refine xset_call SF hC hn hna hB hx hc hnc hdn (fun h' tk' q1 q2 q3=>?_)
 repeat (any_goals (first | assumption | wp_step))
 exact hq h' tk' q1 q2 q3
end
section
variable {X : Cx} {o e value e1 e2 : Expr} {f : Str} {pos pos' apos p : Pos} {ta tv : TE} {t : TA}
theorem ps_xfld (ha : PE X o ta) (hv : PE X value tv) (hs : swapsWith value (some (.Attribute o f pos')) pos.line X.env = pure false) : PS X (.Assign [.Attribute o f pos'] value pos) (sXFld X.K ta tv f):=by
 intro pins s σ H D I h
 refine plainObj_wpAny_Assign_Attribute (thn (hv pins s σ H _ I h) fun w1 s1 ⟨y,H1,I1,ry,q⟩=>thn (ha pins s1 σ H1 _ I1 q) fun ov s2 ⟨x,H2,I2,rx,a,C,N,fI,ex,ea,hC,hA,q2⟩=>?_) hs
 subst ex
 obtain rfl : ov = Value.ref a:=rx
 obtain ⟨oe,t0,r1,r2,r3,r4⟩:=exN_get I2.hok ea
 obtain ⟨nm,qn,bs,sn,sub,ab,col,dd,k0,k1,k2,k3,k5,lk⟩:=hC.obj
 have KX:=I2.kIn
 obtain ⟨hp,g,d,tk,os⟩:=s2
 refine xset_attr PySem.F.store_Exception (KX _ _ lk) (ns_of KX hC.ns) hC.sa hA.own hA.up r1 r2 (fun c z=>by rw [r4] at z; cases z) r3 fun h' tk' p1 p2 p3=>?_
 have hnd : H2 hp.objs.size = none:=I2.hok.fresh (Nat.le_refl _)
 have nda : hp.objs.size ≠ a:=(Nat.ne_of_lt (Heap.lt_size r1)).symm
 have fin:=q2 hp.objs.size hnd nda
 refine ⟨σ,_,?_,fin⟩
 have mu : Mut (H2 a):=by rw [ea]; exact True.intro
 have hx : ∀ b,H2 b = none → b ≠ a:=fun b n z=>by rw [z,ea] at n; cases n
 have stays : ∀ (u : HO),(∀ φ,u ≠ .ext φ) → ∀ b,H2 b = some u → (upd (upd H2 hp.objs.size (.xd [(f,y)])) a (exD a C hp.objs.size .none)) b = some u:=fun u hu b z=>by
  have n1 : b ≠ a:=fun z'=>by rw [z',ea] at z; cases z; exact hu _ rfl
  rw [upd_ne n1,upd_ne (ne_of_none z hnd)]
  exact z
 refine I2.un (h':=h') (t':=tk') ⟨fun b u z n _ _=>p3 b u (hx b n) z,fun b u z n _ _=>⟨u.slots,p3 b u (hx b n) z⟩,fun b u z n _=>?_,fun b u z _=>?_,fun b xs z=>stays _ (fun φ z=>by cases z) b z,fun b u xs z=>stays _ (fun φ z=>by cases z) b z,fun b ps z=>⟨#[],by rw [stays _ (fun φ z=>by cases z) b z]; simp⟩⟩ fun b u z=>?_
 ·rw [upd_ne (hx b n),upd_ne (Nat.ne_of_lt (Heap.lt_size z))]
  exact n
 ·by_cases hb : b = a
  ·subst hb
   exact ⟨_,p1⟩
  ·exact ⟨u,p3 b u hb z⟩
 ·by_cases hb : b = a
  ·subst hb
   rw [upd_same] at z
   cases z
   exact exD_ok p1 r2 rfl r4 rfl
  ·rw [upd_ne hb] at z
   by_cases hd : b = hp.objs.size
   ·subst hd
    rw [upd_same] at z
    cases z
    refine ⟨_,p2,fun g=>?_⟩
    show RelO (List.lookup g [(f,y)]) (if g = f then some w1 else none)
    by_cases hg : g = f
    ·have hb' : (g == f) = true:=beq_iff_eq.mpr hg
     simp only [List.lookup,hb',if_pos hg]
     exact ry
    ·have hb' : (g == f) = false:=beq_eq_false_iff_ne.mpr hg
     simp only [List.lookup,hb',if_neg hg]
     exact True.intro
   ·rw [upd_ne hd] at z
    exact (I2.hok b u z).stay (fun c v hc q=>p3 c v (by
     rcases hc with rfl | hc
     ·exact hb
     ·intro z'; rw [z',ea] at hc; cases hc) q) (fun c q=>stays _ (fun φ z=>by cases z) c q) fun c xs q=>stays _ (fun φ z=>by cases z) c q
end
end XL
namespace XL
open PySem PySem.Spec PyProof.Rows L2
open Builtin
section
variable {prog : Program} {w : World} {A : Around} {E : Value → Shared → Prop} {h : Heap} {g : Array GenState} {d : Drawn} {t : Nat} {os : OsState} {a : Addr} {o : Obj}
 {nm q : Str} {C N : Addr} {bs : List Value} {sn : List Str} {sub : List Value} {ab : Bool} {col : Option Bool} {dd : Option Addr} {k0 k1 k2 k3 k5 : Option Value} {newId initId nid : String}
theorem xinit_call {R : Result → Shared → Prop} {v : Value} {t0 : Addr} (F : ExcBaseFacts "Exception" nid initId bmX) (hC : h.get? C = some (excClassObj nm q C N bs bmX true sn sub ab col dd k0 k1 k2 k3 k5 nid)) (hx : h.get? a = some o) (hc : o.cls = .ref C)
  (hd : o.data = .fields #[.ref t0,.none,.none,.none,.bool false,.none])
  (hq : ∀ h' t1 o1,h'.get? a = some o1 → o1.cls = o.cls → o1.dict = o.dict → o1.data = .fields #[.ref t1,.none,.none,.none,.bool false,.none] → (∀ b ob,b ≠ a → h.get? b = some ob → h'.get? b = some ob) → R (.ok (.ret .none)) ⟨h',g,d,t,os⟩) :
  codeAny (model prog w) A (.call (.builtin initId) ⟨[.ref a,v],[]⟩) R ⟨h,g,d,t,os⟩:=by
 refine codeAny_call_builtin F.init.plain F.initEntry (wpAny_check_init_sub F hC hx hc ?_)
 have h0 : (#[Value.ref t0,.none,.none,.none,.bool false,.none] : Array Value)[0]? = some (.ref t0):=rfl
 unfold Builtin.«BaseException.__init__» newTuple Builtin.BaseException.bexcPut
 have hsz : 0 < (#[Value.ref t0,.none,.none,.none,.bool false,.none] : Array Value).size:=(by show 0 < 6; decide)
 have hx1:=Heap.get?_push_of_some (h:=h) { cls:=.type "tuple",data:=.seq [v].toArray } hx
 repeat (any_goals (first | with_reducible refine wpAny_field hx1 hd h0 ?_ | with_reducible refine wpAny_setField hx1 hd hsz ?_ | wp_step))
 refine hq _ h.objs.size (Obj.mapFields (·.setIfInBounds 0 (.ref h.objs.size)) o) ?_ (Obj.cls_mapFields _ _) (dict_mapFields _ _) ?_ fun b ob hb z=>?_
 ·exact Heap.get?_update_self _ hx1 (Obj.isFreed_of_fields (Obj.data_mapFields hd _))
 ·rw [Obj.data_mapFields hd]
  rfl
 ·rw [Heap.get?_update_other _ _ (Ne.symm hb)]
  exact Heap.get?_push_of_some _ z
end
section
variable {X : Cx} {e1 e2 : Expr} {pos apos p : Pos} {t : TA}
theorem boot_Exception : bootBuiltins "Exception" = some (.type "Exception"):=by decide +kernel
theorem ty_Exception : typeOf (.type "Exception") = pure (.type "type"):=by kernel_rfl
theorem stub_Exception : Manifest.isStub "Exception" = false:=by decide +kernel
theorem vals2 {x y : V} {us : List Value} (r : Vals [x,y] us) : ∃ u1 u2,us = [u1,u2] ∧ RelV x u1 ∧ RelV y u2:=by
 cases r with
 | cons r1 r2 =>
  cases r2 with
  | cons r2 r3 =>
   cases r3
   exact ⟨_,_,rfl,r1,r2⟩
def XLook (K : PySem.W.Frag) : Prop:=PySem.W.findCls K (.type "Exception") (.type "type") "__init__" = some (.val (.builtin "Exception.__init__"))
theorem pe_xinitG {x n : Str} {T I' : String} {pl : Sem Bool} (hbt : bootBuiltins x = some (.type T)) (hn : x ≠ "__name__") (hdb : (x == ("__debug__" : Str)) = false) (hty : typeOf (.type T) = pure (.type "type")) (hsb : Manifest.isStub T = false) (hF : ExcBaseFacts "Exception" "Exception.__new__" I' bmX)
  (hhd : PySem.W.handedIn (.builtin I') = true) (hK : PySem.W.findCls X.K (.type T) (.type "type") n = some (.val (.builtin I'))) (hg : Gl X x) (hm : X.mg x = none) (ha : PA X [e1,e2] t)
  (hst : starEach [e1,e2] X.env = (false,eval e1 X.env) :: starEach [e2] X.env:=by rfl) (hpl : (backTo pos (starEach [e2] X.env)).any (·.1) = false:=by rfl)
  (ht : eval (.Call (.Attribute (.Name x p) n apos) [e1,e2] [] pos) X.env = (do
   let ov ← eval (.Name x p) X.env
   standAt apos.atName
   let (f,first) ← holding [ov] (getMethod ov n pl)
   callWith pos f first (backTo pos (starEach [e1,e2] X.env)) (backToKw pos (keywordEach [] X.env))):=by rfl) :
  PE X (.Call (.Attribute (.Name x p) n apos) [e1,e2] [] pos) (tXInit X.K t):=by
 intro pins s σ H Q I h
 obtain ⟨m,Fm⟩:=I.fr
 refine PySem.W.methodCall_KW (pl:=pl) (ld_blt I hg hm hbt ?_ hn hdb) ht
 refine PySem.W.method_type Fm I.ok.mod.kin hty hsb hK hhd ?_
 have I0:=I.tok (s.toks + 1)
 refine PyProof.Rows.callWith_builtin1 (thn (ha pos pins _ σ H _ I0 h) fun us s1 ⟨vs,H1,I1,r,a,C,N,fI,v,ev,ea,hC,q⟩=>?_) hst hpl
 subst ev
 obtain ⟨u1,u,rfl,r1,r2⟩:=vals2 r
 ·obtain rfl : u1 = Value.ref a:=r1
  obtain ⟨oe,t0,p1,p2,p3,p4⟩:=exN_get I1.hok ea
  obtain ⟨nm,qn,bs,sn,sub,ab,col,dd,k0,k1,k2,k3,k5,lk⟩:=hC.obj
  have KX:=I1.kIn
  obtain ⟨hp,g,d,tk,os⟩:=s1
  refine wpAny_call (xinit_call hF (KX _ _ lk) p1 p2 p4 fun h' t1 o1 w1 w2 w3 w4 w5=>?_)
  refine ⟨.non,H1,?_,rfl,q⟩
  have mu : Mut (H1 a):=by rw [ea]; exact True.intro
  have e : upd H1 a (exN a C) = H1:=by
   funext b
   by_cases hb : b = a
   ·rw [hb,upd_same,ea]
   ·rw [upd_ne hb]
  have J:=I1.write (x:=a) (e:=a) (o:=exN a C) (h':=h') (t':=tk) mu (.inl rfl) (fun b u hb z=>w5 b u hb z) ⟨_,w1⟩ (exN_ok w1 (w2.trans p2) (w3.trans p3) w4)
  rw [e] at J
  exact J
end
end XL
namespace XL
open PySem PySem.Spec PyProof.Rows L2
section
variable {X : Cx} {pins : List (Addr × Obj)} {σ : L2.St} {H : Hp} {s : Shared} {a dx C : Addr} {T0 : Option Addr}
theorem noted_here {S : List Addr} {T' : Addr} {h' : Heap} {tb : Value} (ok : HOk X.prog X.w H s.heap) (he : H a = some (exD a C dx tb)) (hT0 : ∀ T,T0 = some T → H T = some (tbO T))
  (N : Noted S a T0 T' .none s.heap h') : Un S [] H (notedH H a dx C T') s.heap h':=by
 have nT : H T' = none:=ok.fresh N.new
 have ne : ∀ b,H b = none → b ≠ a ∧ T0 ≠ some b:=fun b n=>⟨fun z=>(by rw [z,he] at n; cases n),fun z=>(by rw [hT0 b z] at n; cases n)⟩
 have stays : ∀ (u : HO),(∀ φ,u ≠ .ext φ) → ∀ b,H b = some u → notedH H a dx C T' b = some u:=fun u hu b q=>by
  have n1 : b ≠ a:=fun z=>by rw [z,he] at q; cases q; exact hu _ rfl
  unfold notedH
  rw [upd_ne n1,upd_ne (ne_of_none q nT)]
  exact q
 refine ⟨fun b o e n hf _=>N.keep b o (ne b n).1 (ne b n).2 hf e,fun b o e n hf _=>N.slot b o (ne b n).1 (ne b n).2 e,fun b o e n _=>?_,fun b o e _=>?_,fun b xs q=>stays _ (fun φ z=>by cases z) b q,fun b o u q=>stays _ (fun φ z=>by cases z) b q,fun b ps q=>⟨#[],?_⟩⟩
 ·unfold notedH
  rw [upd_ne (ne b n).1,upd_ne (Nat.ne_of_lt (Nat.lt_of_lt_of_le (Heap.lt_size e) N.new))]
  exact n
 ·by_cases n1 : b = a
  ·subst n1
   obtain ⟨oe,vs,e1,_,_,f1,_⟩:=exD_get ok he
   obtain ⟨oe',_,e2,_⟩:=N.ex oe vs e1 f1
   exact ⟨oe',e2⟩
  ·by_cases n2 : T0 = some b
   ·obtain ⟨o4,_,e4,_⟩:=N.old b n2
    exact ⟨o4,e4⟩
   ·obtain ⟨sl,q⟩:=N.slot b o n1 n2 e
    exact ⟨_,q⟩
 ·rw [stays _ (fun φ z=>by cases z) b q]
  simp
theorem inv_noted {T' : Addr} {h' : Heap} {tb : Value} (I : Inv X pins σ H s) (he : H a = some (exD a C dx tb)) (hT0 : ∀ T,T0 = some T → H T = some (tbO T)) (N : Noted (frs X.stack) a T0 T' .none s.heap h') :
  Inv X pins σ (notedH H a dx C T') { s with heap:=h' } :=
 I.call' (ch:=[]) rfl (noted_here I.hok he hT0 N) (noted_hok (X:=X) I.hok he hT0 I.stkFree N) I.bare fun b hb=>absurd hb (by simp)
theorem inv_lost {h' : Heap} {t' : Nat} {m' : Str → Option Value} (I : Inv X pins σ H s) (hn : h'.Ns X.env.locals m') (sb : Heap.SameBut X.env.locals s.heap h') : Inv X pins (σ.map fun _=>none) H { s with heap:=h',toks:=t' }:=by
 have neL : ∀ b o,X.s_0.heap.get? b = some o → b ≠ X.env.locals:=fun b o e=>Nat.ne_of_lt (Nat.lt_of_lt_of_le (Heap.lt_size e) I.ok.above)
 have k : ∀ b o,b ≠ X.env.locals → s.heap.get? b = some o → h'.get? b = some o:=fun b o n e=>(sb.2 b n).trans e
 refine ⟨I.ok,I.os,I.bare,⟨fun b o e n hf hx=>k b o (neL b o e) (I.base.keep b o e n hf hx),fun b o e n hf hx=>?_,I.base.free,fun b o e hx=>?_,I.base.tups,I.base.frzs,I.base.tbls⟩,⟨m',hn,fun i x v _ e2 _=>?_⟩,fun x c e=>?_,I.free,I.freeC,fun p hp=>?_,fun b u e=>?_,by rw [List.length_map]; exact I.len⟩
 ·obtain ⟨sl,q⟩:=I.base.slot b o e n hf hx
  exact ⟨sl,k b _ (neL b o e) q⟩
 ·obtain ⟨o',q⟩:=I.base.there b o e hx
  exact ⟨o',k b _ (neL b o e) q⟩
 ·rw [List.getElem?_map] at e2
  cases q : σ[i]? with
  | none=>rw [q] at e2; cases e2
  | some z=>rw [q] at e2; cases e2
 ·obtain ⟨v,o,ho,hd⟩:=I.cell x c e
  exact ⟨v,o,k c o (I.cne x c e) ho,hd⟩
 ·obtain ⟨e,n,ne,r⟩:=I.pin p hp
  exact ⟨k _ _ ne e,n,ne,r⟩
 ·have nL : ∀ c v,H c = some v → c ≠ X.env.locals:=fun c v q z=>by rw [z,I.free] at q; cases q
  refine (I.hok b u e).stay (fun c v hc q=>k c v ?_ q) (fun _ q=>q) fun _ _ q=>q
  rcases hc with rfl | hc
  ·exact nL c _ e
  ·exact nL c _ hc
end
abbrev caught (X : Cx) (a : Addr) : Cx:={ X with A:=X.A.mark (some (.ref a)),calm:=false,xe:=fun _ _=>False }
theorem inv_caught {X : Cx} {pins : List (Addr × Obj)} {σ : L2.St} {H : Hp} {s : Shared} (I : Inv X pins σ H s) (a : Addr) : Inv (caught X a) pins σ H s :=
 ⟨⟨I.ok.mod,I.ok.kind,I.ok.glob,I.ok.blt,I.ok.above,I.ok.inj,I.ok.has,I.ok.cab,fun z=>Bool.noConfusion z,I.ok.frames,I.ok.stk,I.ok.exf,I.ok.bs,I.ok.bsz,I.ok.noex,I.ok.exfs,I.ok.funs,I.ok.frf⟩,I.os,I.bare,I.base,I.loc,I.cell,I.free,I.freeC,I.pin,I.hok,I.len⟩
theorem inv_uncaught {X : Cx} {pins : List (Addr × Obj)} {σ : L2.St} {H : Hp} {s : Shared} {a : Addr} (I : Inv (caught X a) pins σ H s) (ok : X.Ok) : Inv X pins σ H s :=
 ⟨ok,I.os,I.bare,I.base,I.loc,I.cell,I.free,I.freeC,I.pin,I.hok,I.len⟩
def tTry (C : Addr) (i j : Nat) (sp : Sp) (t : TA) (ts : TS) : TS:=fun D σ H=>t σ H fun vs H1=>sp (vs ++ []) H1 (fun v H2=>D.nx (σ.set i (some v)) H2)
 fun Cv dxo H2=>Cv = .ref C ∧ ∃ dx,dxo = some dx ∧ ∀ a tb,H2 a = some (exD a C dx tb) → ts { nx:=fun _ _=>False,rt:=D.rt } (σ.set j (some (.ref a))) H2
section
variable {X : Cx} {C N fI f : Addr} {fd : FuncData} {ps : List Str} {sp : Sp} {k i j : Nat} {y n x c : Str} {py fp cp cpos apos hpos pos : Pos} {e : Expr} {es : List Expr} {b0 : Stmt} {suite : List Stmt} {t : TA} {ts : TS}
theorem ps_try (F : FnOk X.prog X.w X.K X.mg X.base (CX1 X.prog X.w) k f fd ps sp) (hr : Room k X.A) (hg : Gl X x) (hm : X.mg x = some (.ref f)) (hk : PySem.W.keepIn X.K (.ref f) = true) (hb : Binds X.K fd ps []) (ha : PA X.nox (e :: es) t)
  (hC : XCls X.K C N fI) (hgc : Gl X c) (hmc : X.mg c = some (.ref C)) (hN : X.N.Nodup) (hi : X.N[i]? = some y) (hy : Loc X.env.scope y) (hj : X.N[j]? = some n) (hn : X.env.scope.names.lookup n = some .local)
  (hst : X.stack = X.env :: X.outer) (hfe : X.env.frame = some X.env.locals) (hS : ∀ a,PSs (caught X a) (b0 :: suite) ts)
  (hdb : (x == ("__debug__" : Str)) = false:=by decide) (hdc : (c == ("__debug__" : Str)) = false:=by decide) (he : starEach (e :: es) X.env = (false,eval e X.env) :: starEach es X.env:=by rfl) (hpl : (backTo cpos (starEach es X.env)).any (·.1) = false:=by rfl)
  (hs : swapsWith (.Call (.Name x fp) (e :: es) [] cpos) (some (.Name y py)) apos.line X.env = pure false:=by rfl) (hfy : X.fn y = true ∨ X.env.scope.names.lookup y = some .local:=by first | exact .inl rfl | exact .inr rfl | assumption) :
  PS X (.Try [.Assign [.Name y py] (.Call (.Name x fp) (e :: es) [] cpos) apos] [.ExceptHandler (some (.Name c cp)) (some n) (b0 :: suite) hpos] [] [] pos) (tTry C i j sp t ts):=by
 intro pins s σ H D I h
 refine wpAny_Try_except (wpAny_execs_cons (wpAny_Assign_Name (wpAny_Call_Name_kw (ld_glob I hg hm (PySem.W.callWith_K (h₀:=X.base) I.ok.mod.kin hk (wpAny_mono (ha cpos pins s σ H _ (I.wish _) h) (fun us s1 ⟨vs,H1,I1',r,q⟩=>⟨I1'.kIn,?_⟩) fun _ _ z=>z.elim) he hpl) hdb)) hs))
 have I1 : Inv X pins σ H1 s1:=I1'.unwish
 have r2 : Vals (vs ++ []) (us ++ []):=r.append .nil
 have hl : (us ++ []).length = ps.length:=by rw [← r2.length]; exact F.len _ _ _ _ q
 refine wpAny_call (codeAny_mono (F.run X.A X.stack s1 H1 ⟨us,[]⟩ (us ++ []) (vs ++ []) _ _ hr I1.env0 (hb s1 us I1.kIn hl) r2 q) fun r' s' hq=>?_)
 cases r' with
 | ok fl =>
  cases fl with
  | ret u =>
   obtain ⟨v,H2,I2,rv,q2⟩:=I1.after hq
   refine store_ok I2 hN hi hy rv (fun s3 I3=>?_) hfy
   exact wpAny_execs_nil (wpAny_execs_nil ⟨_,H2,I3,q2⟩)
  | next=>exact False.elim hq
  | brk=>exact False.elim hq
  | cont=>exact False.elim hq
 | error ev =>
  obtain ⟨a,dx,C',T,fs,H',rfl,os,bare,un,hok,Fl,hE⟩:=hq
  obtain ⟨ec,dx',ed,hts⟩:=hE H' (Beside.refl a H')
  cases ec
  cases ed
  have J : Inv X pins σ H' s':=I1.call' (ch:=[]) os un hok bare fun b hb=>absurd hb (by simp)
  obtain ⟨oe,vs1,e1,c1,d1,f1,t1⟩:=exD_get J.hok Fl.ex
  obtain ⟨oT,ts1,e2,f2,t2⟩:=tbO_get J.hok Fl.tb
  have hT0 : ∀ T2,(some T : Option Addr) = some T2 → H' T2 = some (tbO T2):=fun T2 z=>by cases z; exact Fl.tb
  have fr:=J.ok.frames
  have stk:=J.stack
  rw [hst] at fr stk
  refine note_next (base:=X.base) (outer:=X.outer) (L:=X.env.locals) fr stk hfe e1 f1 t1 Fl.ne e2 f2 t2 fun h1 T' N1=>?_
  rw [← hst] at N1
  have nT : H' T' = none:=J.hok.fresh N1.new
  have nS : T' ∉ frs X.stack:=fun z=>by
   obtain ⟨_,o,ho',_⟩:=J.stack.mem z
   rw [N1.dead] at ho'; cases ho'
  refine Noted.land (s:={ s' with heap:=h1 }) N1 e1 f1 nS fun h2 N2=>?_
  have J2:=inv_noted J Fl.ex hT0 N2
  refine wpAny_handleBy_cons (codeAny_handlers_test ?_) (fun z=>by cases z)
  refine ld_glob (X:=caught X a) (inv_caught J2 a) hgc hmc ?_ hdc
  have Fl2 : Fly (notedH H' a dx C T') a dx C T' fs:=fly_noted nT N1.ne Fl.nd Fl.own
  obtain ⟨oe2,vs2,p1,p2,p3,p4,p5⟩:=exD_get J2.hok Fl2.ex
  obtain ⟨nm,qn,bs,sn,sub,ab,col,dd,k0,k1,k2,k3,k5,lk⟩:=hC.obj
  have KX:=J2.kIn
  refine wpAny_excMatches_sub_self (h:=h2) (KX _ _ lk) p1 p2 PySem.F.excBase_Exception.hasBase ?_
  refine codeAny_handlers_suite_as ?_
  refine Noted.land (s:={ s' with heap:=h2 }) N2 e1 f1 nS fun h3 N3=>?_
  have J3:=inv_noted J Fl.ex hT0 N3
  refine store_ok (X:=caught X a) (v:=.ref a) (inv_caught J3 a) hN hj (.inl hn) rfl (fun s4 J4=>?_) (.inr hn)
  refine wpAny_mono (hS a pins s4 _ _ _ J4 ((hE _ (notedH_beside nT)).2.elim fun d2 z=>by cases z.1; exact z.2 a (.ref T') Fl2.ex)) (fun fl s5 q5=>?_) fun _ _ z=>z.elim
  cases fl with
  | next=>obtain ⟨_,_,_,z⟩:=q5; exact z.elim
  | brk=>obtain ⟨_,_,_,z⟩:=q5; exact z.elim
  | cont=>obtain ⟨_,_,_,z⟩:=q5; exact z.elim
  | ret u =>
   obtain ⟨v,σ5,H5,J5,r5,q6⟩:=q5
   obtain ⟨m5,n5,_⟩:=J5.loc
   refine wpAny_nameGoes (env:=X.env) hn n5 (by rw [I.ok.kind]; rfl) fun h6 m6 n6 sb6=>?_
   exact ⟨v,_,H5,inv_lost (inv_uncaught J5 J.ok) n6 sb6,r5,q6⟩
end
end XL
section
set_option maxRecDepth 100000
set_option maxHeartbeats 2000000
namespace L2
open PySem PySem.Spec PyProof.Rows
open PySem.W (WData Codec OpenSpec Well WellAll ReadsW ReadsAllW)
mutual
inductive Dw (K : PySem.W.Frag) (H : Hp) : V → WData → Prop
 | non : Dw K H .non .none
 | bl (b : Bool) : Dw K H (.bl b) (.bool b)
 | int (i : Int) : Dw K H (.int i) (.int i)
 | str (x : Str) : Dw K H (.str x) (.str x)
 | byt (b : Array UInt8) : Dw K H (.byt b) (.bytes b.toList)
 | lst {a : Addr} {xs : List V} {ds : List WData} : SqL K H a xs → DwAll K H xs ds → Dw K H (.ref a) (.list ds)
 | tup {a : Addr} {xs : List V} {ds : List WData} : SqT K H a xs → DwAll K H xs ds → Dw K H (.ref a) (.tuple ds)
inductive DwAll (K : PySem.W.Frag) (H : Hp) : List V → List WData → Prop
 | nil : DwAll K H [] []
 | cons {v : V} {vs : List V} {d : WData} {ds : List WData} : Dw K H v d → DwAll K H vs ds → DwAll K H (v :: vs) (d :: ds)
end
theorem dw_ints {K : PySem.W.Frag} {H : Hp} : ∀ ns : List Int,DwAll K H (ns.map V.int) (ns.map WData.int)
 | []=>.nil
 | n :: r=>.cons (.int n) (dw_ints r)
theorem ints_dw {K : PySem.W.Frag} {H : Hp} : ∀ (ns : List Int) (xs : List V),DwAll K H xs (ns.map WData.int) → xs = ns.map V.int
 | [],xs,h=>by
  cases h
  rfl
 | n :: r,xs,h=>by
  cases h with
  | cons h1 h2 =>
   cases h1
   rw [ints_dw r _ h2] <;> rfl
section
variable {P : Program} {w : World} {K : PySem.W.Frag} {H : Hp} {h : Heap} {R : PySem.W.WRecords} {cl : Str → Option Addr}
theorem sqL_at {a : Addr} {xs : List V} (hok : HOk P w H h) (KX : K.In h) (q : SqL K H a xs) : ∃ (its : List Value) (o : Obj) (n : Nat),Vals xs its ∧ h.get? a = some o ∧ o.cls = .type "list" ∧ o.data = .seq its.toArray n:=by
 rcases q with q | ⟨o,its,n,e,hc,_,hd,_,hv⟩
 ·obtain ⟨_,its,n,hv,e⟩:=(show ObjOk P w H h a (.lst xs) from q.ok hok)
  exact ⟨its,_,n,hv,e,rfl,rfl⟩
 ·exact ⟨its.toList,o,n,hv,KX _ _ e,hc,by simp [hd]⟩
theorem sqT_at {a : Addr} {xs : List V} (hok : HOk P w H h) (KX : K.In h) (q : SqT K H a xs) : ∃ (its : List Value) (o : Obj) (n : Nat),Vals xs its ∧ h.get? a = some o ∧ o.cls = .type "tuple" ∧ o.data = .seq its.toArray n:=by
 rcases q with q | ⟨o,its,n,e,hc,hd,_,hv⟩
 ·obtain ⟨_,its,hv,o,e,hc,n,hd⟩:=(show ObjOk P w H h a (.tup xs) from q.ok hok)
  exact ⟨its,o,n,hv,e,hc,hd⟩
 ·exact ⟨its.toList,o,n,hv,KX _ _ e,hc,by simp [hd]⟩
mutual
theorem Dw.reads (hok : HOk P w H h) (KX : K.In h) : ∀ (d : WData) (v : V) (u : Value),Dw K H v d → RelV v u → ∃ as,ReadsW R cl h u d as
 | .none,_,_,x,r=>by
  cases x
  cases r
  exact ⟨_,ReadsW.none⟩
 | .bool b,_,_,x,r=>by
  cases x
  cases r
  exact ⟨_,ReadsW.bool b⟩
 | .int i,_,_,x,r=>by
  cases x
  obtain ⟨t,rfl⟩:=r
  exact ⟨_,ReadsW.int i t⟩
 | .str s,_,_,x,r=>by
  cases x
  obtain ⟨t,rfl⟩:=r
  exact ⟨_,ReadsW.str s t⟩
 | .bytes b,_,_,x,r=>by
  cases x
  obtain ⟨t,rfl⟩:=r
  exact ⟨_,ReadsW.bytes _ t⟩
 | .list ds,_,_,x,r=>by
  cases x with
  | lst hs ha =>
   cases r
   obtain ⟨its,o,n,rv,ho,hc,hd⟩:=sqL_at hok KX hs
   obtain ⟨as,hr⟩:=Dw.readsAll hok KX ds _ its ha rv
   exact ⟨_,ReadsW.list ho hc hd hr⟩
 | .tuple ds,_,_,x,r=>by
  cases x with
  | tup hs ha =>
   cases r
   obtain ⟨its,o,n,rv,ho,hc,hd⟩:=sqT_at hok KX hs
   obtain ⟨as,hr⟩:=Dw.readsAll hok KX ds _ its ha rv
   exact ⟨_,ReadsW.tuple ho hc hd hr⟩
 | .float _,_,_,x,_=>by cases x
 | .dict _,_,_,x,_=>by cases x
 | .bytearray _,_,_,x,_=>by cases x
 | .set _,_,_,x,_=>by cases x
 | .frozenset _,_,_,x,_=>by cases x
 | .obj _ _,_,_,x,_=>by cases x
theorem Dw.readsAll (hok : HOk P w H h) (KX : K.In h) : ∀ (ds : List WData) (vs : List V) (us : List Value),DwAll K H vs ds → Vals vs us → ∃ as,ReadsAllW R cl h us ds as
 | [],_,_,x,r=>by
  cases x
  cases r
  exact ⟨_,ReadsAllW.nil⟩
 | d :: ds,_,_,x,r=>by
  cases x with
  | cons h1 h2 =>
   cases r with
   | cons r1 r2 =>
    obtain ⟨as,q1⟩:=Dw.reads hok KX d _ _ h1 r1
    obtain ⟨bs,q2⟩:=Dw.readsAll hok KX ds _ _ h2 r2
    exact ⟨_,ReadsAllW.cons q1 q2⟩
end
end
mutual
def plW : WData → Bool
 | .none=>true
 | .bool _=>true
 | .int _=>true
 | .str _=>true
 | .bytes _=>true
 | .list xs=>plWs xs
 | .tuple xs=>plWs xs
 | _=>false
def plWs : List WData → Bool
 | []=>true
 | x :: r=>plW x && plWs r
end
theorem plWs_map {α : Type} {f : α → WData} (h : ∀ a,plW (f a) = true) : ∀ l : List α,plWs (l.map f) = true
 | []=>rfl
 | x :: r=>by
  show (plW (f x) && plWs (r.map f)) = true
  rw [h x,plWs_map h r] <;> rfl
theorem pl_enc : ∀ (c : Codec) (a : c.denote),plW (c.enc a) = true
 | .unit,_=>rfl
 | .bool,_=>rfl
 | .int _ _,_=>rfl
 | .nat _ _,_=>rfl
 | .u8,_=>rfl
 | .bytes _ _,_=>rfl
 | .text _ _ _ _,_=>rfl
 | .list _ _ c,a=>plWs_map (fun x=>pl_enc c x) a
 | .pair c d,a=>by
  show (plW (c.enc a.1) && (plW (d.enc a.2) && true)) = true
  rw [pl_enc c a.1,pl_enc d a.2] <;> rfl
 | .triple c d e,a=>by
  show (plW (c.enc a.1) && (plW (d.enc a.2.1) && (plW (e.enc a.2.2) && true))) = true
  rw [pl_enc c a.1,pl_enc d a.2.1,pl_enc e a.2.2] <;> rfl
 | .option c,none=>rfl
 | .option c,some x=>pl_enc c x
theorem pl_encAll : ∀ (cs : List Codec) (a : Codec.denoteAll cs),plWs (Codec.encAll cs a) = true
 | [],_=>rfl
 | c :: cs,a=>by
  show (plW (c.enc a.1) && plWs (Codec.encAll cs a.2)) = true
  rw [pl_enc c a.1,pl_encAll cs a.2] <;> rfl
theorem weight_mem : ∀ {xs : List WData} {d : WData},d ∈ xs → d.weight ≤ WData.weightAll xs
 | [],d,h=>absurd h (by simp)
 | x :: r,d,h=>by
  show d.weight ≤ x.weight + 1 + WData.weightAll r
  rcases List.mem_cons.mp h with e | m
  ·rw [e]
   omega
  ·have z:=weight_mem m
   omega
def toV : Value → V
 | .none=>.non
 | .bool b=>.bl b
 | .int i _=>.int i
 | .str x _=>.str x
 | .bytes b _=>.byt b
 | .ref a=>.ref a
 | _=>.non
def OkU (A : List Addr) : Value → Prop
 | .none=>True
 | .bool _=>True
 | .int _ _=>True
 | .str _ _=>True
 | .bytes _ _=>True
 | .ref a=>a ∈ A
 | _=>False
theorem OkU.mono {A B : List Addr} (h : ∀ a ∈ A,a ∈ B) : ∀ {u : Value},OkU A u → OkU B u:=fun {u} x=>by
 cases u with
 | ref a=>exact h a x
 | none=>trivial
 | bool b=>trivial
 | int i t=>trivial
 | str s t=>trivial
 | bytes b t=>trivial
 | _=>exact False.elim x
theorem relV_toV {A : List Addr} {u : Value} (x : OkU A u) : RelV (toV u) u:=by
 cases u with
 | ref a=>rfl
 | none=>rfl
 | bool b=>rfl
 | int i t=>exact ⟨t,rfl⟩
 | str s t=>exact ⟨t,rfl⟩
 | bytes b t=>exact ⟨t,rfl⟩
 | _=>exact False.elim x
theorem vals_toV {A : List Addr} : ∀ {vs : List Value},(∀ u ∈ vs,OkU A u) → Vals (vs.map toV) vs
 | [],_=>.nil
 | u :: r,h=>.cons (relV_toV (h u (List.mem_cons_self ..))) (vals_toV fun x hx=>h x (List.mem_cons_of_mem _ hx))
def ArgOb (h : Heap) (A : List Addr) (a : Addr) : Prop:=∃ vs : List Value,vs.length ≤ sizeLine ∧ (∀ u ∈ vs,OkU A u) ∧
 (h.get? a = some { cls:=.type "list",data:=.seq vs.toArray } ∨ h.get? a = some { cls:=.type "tuple",data:=.seq vs.toArray })
theorem ArgOb.mono {h : Heap} {A B : List Addr} {a : Addr} (k : ∀ a ∈ A,a ∈ B) (x : ArgOb h A a) : ArgOb h B a:=by
 obtain ⟨vs,h1,h2,h3⟩:=x
 exact ⟨vs,h1,fun u hu=>(h2 u hu).mono k,h3⟩
theorem wellAll_len {P : Params} {h : Heap} : ∀ {vs : List Value} {ds : List WData},WellAll P h vs ds → vs.length = ds.length
 | _,_,.nil=>rfl
 | _,_,.cons _ b=>by
  show _ + 1 = _ + 1
  rw [wellAll_len b]
theorem well_list {P : Params} {h : Heap} {v : Value} {ds : List WData} (x : Well P h v (.list ds)) : ∃ (a : Addr) (vs : List Value),v = .ref a ∧ h.get? a = some { cls:=.type "list",data:=.seq vs.toArray } ∧ WellAll P h vs ds:=by
 cases x with
 | list ho hall=>exact ⟨_,_,rfl,ho,hall⟩
theorem well_tuple {P : Params} {h : Heap} {v : Value} {ds : List WData} (x : Well P h v (.tuple ds)) : ∃ (a : Addr) (vs : List Value),v = .ref a ∧ h.get? a = some { cls:=.type "tuple",data:=.seq vs.toArray } ∧ WellAll P h vs ds:=by
 cases x with
 | tuple ho hall=>exact ⟨_,_,rfl,ho,hall⟩
theorem well_cons {P : Params} {h : Heap} {us : List Value} {d : WData} {ds : List WData} (x : WellAll P h us (d :: ds)) : ∃ (v : Value) (vs : List Value),us = v :: vs ∧ Well P h v d ∧ WellAll P h vs ds:=by
 cases x with
 | cons a b=>exact ⟨_,_,rfl,a,b⟩
theorem line_of {n : Nat} (h : n ≤ 1048576) : n ≤ sizeLine:=Nat.le_trans h (by decide)
section
variable {P : Params} {h : Heap}
mutual
theorem area_one : ∀ (d : WData) (v : Value),Well P h v d → plW d = true → d.weight ≤ 1048576 → ∃ A : List Addr,OkU A v ∧ ∀ a ∈ A,ArgOb h A a
 | .none,_,x,_,_=>by
  cases x
  exact ⟨[],trivial,fun a m=>absurd m (by simp)⟩
 | .bool b,_,x,_,_=>by
  cases x
  exact ⟨[],trivial,fun a m=>absurd m (by simp)⟩
 | .int i,_,x,_,_=>by
  cases x
  exact ⟨[],trivial,fun a m=>absurd m (by simp)⟩
 | .str s,_,x,_,_=>by
  cases x
  exact ⟨[],trivial,fun a m=>absurd m (by simp)⟩
 | .bytes b,_,x,_,_=>by
  cases x
  exact ⟨[],trivial,fun a m=>absurd m (by simp)⟩
 | .list ds,_,x,p,z=>by
  obtain ⟨a,vs,rfl,ho,hall⟩:=well_list x
  have z2 : WData.weightAll ds ≤ 1048576:=z
  obtain ⟨A,h1,h2⟩:=area_all ds _ hall p fun d hd=>Nat.le_trans (weight_mem hd) z2
  have k : ∀ b ∈ A,b ∈ a :: A:=fun b hb=>List.mem_cons_of_mem _ hb
  refine ⟨a :: A,List.mem_cons_self ..,fun b hb=>?_⟩
  rcases List.mem_cons.mp hb with e | m
  ·rw [e]
   exact ⟨vs,line_of (by rw [wellAll_len hall]; exact Nat.le_trans (PySem.W.length_le_weightAllW ds) z2),fun u hu=>(h1 u hu).mono k,.inl ho⟩
  ·exact (h2 b m).mono k
 | .tuple ds,_,x,p,z=>by
  obtain ⟨a,vs,rfl,ho,hall⟩:=well_tuple x
  have z2 : WData.weightAll ds ≤ 1048576:=z
  obtain ⟨A,h1,h2⟩:=area_all ds _ hall p fun d hd=>Nat.le_trans (weight_mem hd) z2
  have k : ∀ b ∈ A,b ∈ a :: A:=fun b hb=>List.mem_cons_of_mem _ hb
  refine ⟨a :: A,List.mem_cons_self ..,fun b hb=>?_⟩
  rcases List.mem_cons.mp hb with e | m
  ·rw [e]
   exact ⟨vs,line_of (by rw [wellAll_len hall]; exact Nat.le_trans (PySem.W.length_le_weightAllW ds) z2),fun u hu=>(h1 u hu).mono k,.inr ho⟩
  ·exact (h2 b m).mono k
 | .float _,_,_,p,_=>Bool.noConfusion (show false = true from p)
 | .dict _,_,_,p,_=>Bool.noConfusion (show false = true from p)
 | .bytearray _,_,_,p,_=>Bool.noConfusion (show false = true from p)
 | .set _,_,_,p,_=>Bool.noConfusion (show false = true from p)
 | .frozenset _,_,_,p,_=>Bool.noConfusion (show false = true from p)
 | .obj _ _,_,_,p,_=>Bool.noConfusion (show false = true from p)
theorem area_all : ∀ (ds : List WData) (vs : List Value),WellAll P h vs ds → plWs ds = true → (∀ d ∈ ds,d.weight ≤ 1048576) → ∃ A : List Addr,(∀ u ∈ vs,OkU A u) ∧ ∀ a ∈ A,ArgOb h A a
 | [],_,x,_,_=>by
  cases x
  exact ⟨[],fun u m=>absurd m (by simp),fun a m=>absurd m (by simp)⟩
 | d :: ds,_,x,p,z=>by
  obtain ⟨v,vs,rfl,x1,x2⟩:=well_cons x
  have q : plW d = true ∧ plWs ds = true:=Bool.and_eq_true_iff.mp p
  obtain ⟨A,a1,a2⟩:=area_one d v x1 q.1 (z d (List.mem_cons_self ..))
  obtain ⟨B,b1,b2⟩:=area_all ds vs x2 q.2 fun e he=>z e (List.mem_cons_of_mem _ he)
  have kA : ∀ b ∈ A,b ∈ A ++ B:=fun b hb=>List.mem_append.mpr (.inl hb)
  have kB : ∀ b ∈ B,b ∈ A ++ B:=fun b hb=>List.mem_append.mpr (.inr hb)
  refine ⟨A ++ B,fun u hu=>?_,fun b hb=>?_⟩
  ·rcases List.mem_cons.mp hu with e | m
   ·rw [e]
    exact a1.mono kA
   ·exact (b1 u m).mono kB
  ·rcases List.mem_append.mp hb with m | m
   ·exact (a2 b m).mono kA
   ·exact (b2 b m).mono kB
end
end
def hoOf (o : Obj) : Option HO:=match o.data with
 | .seq vs _=>if (o.cls == Value.type "list") = true then some (.frz o (.lst (vs.toList.map toV))) else some (.frz o (.tup (vs.toList.map toV)))
 | _=>none
def argH (K : PySem.W.Frag) (h : Heap) (A : List Addr) : Hp:=fun b=>if b ∈ A then (if (K.lookup b).isNone = true then (h.get? b).bind hoOf else none) else none
def OnlyF (H : Hp) : Prop:=∀ b,H b = none ∨ ∃ o u,H b = some (.frz o u)
theorem hoOf_lst (vs : List Value) : hoOf { cls:=.type "list",data:=.seq vs.toArray } = some (.frz { cls:=.type "list",data:=.seq vs.toArray } (.lst (vs.map toV))):=by
 show (if (Value.type "list" == Value.type "list") = true then some (HO.frz { cls:=.type "list",data:=.seq vs.toArray } (.lst (vs.toArray.toList.map toV))) else some (HO.frz { cls:=.type "list",data:=.seq vs.toArray } (.tup (vs.toArray.toList.map toV)))) = _
 rw [if_pos (beq_self_eq_true _)]
theorem hoOf_tup (vs : List Value) : hoOf { cls:=.type "tuple",data:=.seq vs.toArray } = some (.frz { cls:=.type "tuple",data:=.seq vs.toArray } (.tup (vs.map toV))):=by
 show (if (Value.type "tuple" == Value.type "list") = true then some (HO.frz { cls:=.type "tuple",data:=.seq vs.toArray } (.lst (vs.toArray.toList.map toV))) else some (HO.frz { cls:=.type "tuple",data:=.seq vs.toArray } (.tup (vs.toArray.toList.map toV)))) = _
 rw [if_neg (by decide)]
section
variable {P : Program} {w : World} {K : PySem.W.Frag} {h : Heap} {A : List Addr}
theorem argH_at {b : Addr} {o : Obj} (hb : b ∈ A) (hk : K.lookup b = none) (e : h.get? b = some o) : argH K h A b = hoOf o:=by
 unfold argH
 rw [if_pos hb,hk,if_pos (show (none : Option Obj).isNone = true from rfl),e] <;> rfl
theorem of_argH {b : Addr} {u : HO} (q : argH K h A b = some u) : b ∈ A ∧ K.lookup b = none:=by
 unfold argH at q
 by_cases hb : b ∈ A
 ·rw [if_pos hb] at q
  cases hk : K.lookup b with
  | none=>exact ⟨hb,rfl⟩
  | some o =>
   rw [hk,if_neg (by simp)] at q
   cases q
 ·rw [if_neg hb] at q
  cases q
theorem argH_is (ar : ∀ a ∈ A,ArgOb h A a) {b : Addr} {u : HO} (q : argH K h A b = some u) : K.lookup b = none ∧ ∃ vs : List Value,vs.length ≤ sizeLine ∧ (∀ u ∈ vs,OkU A u) ∧
  ((h.get? b = some { cls:=.type "list",data:=.seq vs.toArray } ∧ u = .frz { cls:=.type "list",data:=.seq vs.toArray } (.lst (vs.map toV))) ∨
   (h.get? b = some { cls:=.type "tuple",data:=.seq vs.toArray } ∧ u = .frz { cls:=.type "tuple",data:=.seq vs.toArray } (.tup (vs.map toV)))):=by
 obtain ⟨hb,hk⟩:=of_argH q
 obtain ⟨vs,h1,h2,h3⟩:=ar b hb
 refine ⟨hk,vs,h1,h2,?_⟩
 rcases h3 with e | e
 ·rw [argH_at hb hk e,hoOf_lst] at q
  exact .inl ⟨e,(Option.some.inj q).symm⟩
 ·rw [argH_at hb hk e,hoOf_tup] at q
  exact .inr ⟨e,(Option.some.inj q).symm⟩
theorem argH_only (ar : ∀ a ∈ A,ArgOb h A a) : OnlyF (argH K h A):=fun b=>by
 cases q : argH K h A b with
 | none=>exact .inl rfl
 | some u =>
  obtain ⟨_,vs,_,_,⟨_,e⟩ | ⟨_,e⟩⟩:=argH_is ar q
  ·exact .inr ⟨_,_,by rw [e]⟩
  ·exact .inr ⟨_,_,by rw [e]⟩
theorem argH_ok (ar : ∀ a ∈ A,ArgOb h A a) : HOk P w (argH K h A) h:=fun b u q=>by
 obtain ⟨_,vs,h1,h2,⟨e,rfl⟩ | ⟨e,rfl⟩⟩:=argH_is ar q
 ·exact ⟨e,by rw [List.length_map]; exact h1,vs,_,vals_toV h2,e⟩
 ·exact ⟨e,by rw [List.length_map]; exact h1,vs,vals_toV h2,_,e,rfl,_,rfl⟩
theorem seq_inj {c c' : Value} {vs us : List Value} (e : (some { cls:=c,data:=.seq vs.toArray } : Option Obj) = some { cls:=c',data:=.seq us.toArray }) : c = c' ∧ vs = us:=by
 have e1:=Option.some.inj e
 have e2 : c = c':=congrArg Obj.cls e1
 have e3 : Data.seq vs.toArray = Data.seq us.toArray:=congrArg Obj.data e1
 injection e3 with e4
 refine ⟨e2,?_⟩
 have e5:=congrArg Array.toList e4
 simpa using e5
theorem argL (KX : K.In h) (ar : ∀ a ∈ A,ArgOb h A a) {a : Addr} {vs : List Value} (ha : a ∈ A) (e : h.get? a = some { cls:=.type "list",data:=.seq vs.toArray }) : (∀ u ∈ vs,OkU A u) ∧ SqL K (argH K h A) a (vs.map toV):=by
 obtain ⟨us,h1,h2,h3⟩:=ar a ha
 have hu : us = vs:=by
  rcases h3 with q | q
  ·rw [e] at q
   exact (seq_inj q).2.symm
  ·rw [e] at q
   exact absurd (Value.type.inj (seq_inj q).1) (by decide)
 subst hu
 refine ⟨h2,?_⟩
 cases hk : K.lookup a with
 | none=>exact .inl (.inr ⟨_,by rw [argH_at ha hk e,hoOf_lst]⟩)
 | some o =>
  have e2:=KX a o hk
  rw [e] at e2
  obtain rfl:=Option.some.inj e2
  exact .inr ⟨_,us.toArray,_,hk,rfl,rfl,rfl,by rw [List.size_toArray]; exact h1,by simpa using vals_toV h2⟩
theorem argT (KX : K.In h) (ar : ∀ a ∈ A,ArgOb h A a) {a : Addr} {vs : List Value} (ha : a ∈ A) (e : h.get? a = some { cls:=.type "tuple",data:=.seq vs.toArray }) : (∀ u ∈ vs,OkU A u) ∧ SqT K (argH K h A) a (vs.map toV):=by
 obtain ⟨us,h1,h2,h3⟩:=ar a ha
 have hu : us = vs:=by
  rcases h3 with q | q
  ·rw [e] at q
   exact absurd (Value.type.inj (seq_inj q).1) (by decide)
  ·rw [e] at q
   exact (seq_inj q).2.symm
 subst hu
 refine ⟨h2,?_⟩
 cases hk : K.lookup a with
 | none=>exact .inl (.inr ⟨_,by rw [argH_at ha hk e,hoOf_tup]⟩)
 | some o =>
  have e2:=KX a o hk
  rw [e] at e2
  obtain rfl:=Option.some.inj e2
  exact .inr ⟨_,us.toArray,_,hk,rfl,rfl,by rw [List.size_toArray]; exact h1,by simpa using vals_toV h2⟩
mutual
theorem dw_one {Pm : Params} (KX : K.In h) (ar : ∀ a ∈ A,ArgOb h A a) : ∀ (d : WData) (v : Value),Well Pm h v d → plW d = true → OkU A v → Dw K (argH K h A) (toV v) d
 | .none,_,x,_,_=>by
  cases x
  exact .non
 | .bool b,_,x,_,_=>by
  cases x
  exact .bl b
 | .int i,_,x,_,_=>by
  cases x
  exact .int i
 | .str s,_,x,_,_=>by
  cases x
  exact .str s
 | .bytes b,_,x,_,_=>by
  cases x
  have z:=Dw.byt (K:=K) (H:=argH K h A) b.toArray
  exact z
 | .list ds,_,x,p,hu=>by
  obtain ⟨a,vs,rfl,ho,hall⟩:=well_list x
  obtain ⟨h2,hs⟩:=argL KX ar hu ho
  exact .lst hs (dw_all KX ar ds _ hall p h2)
 | .tuple ds,_,x,p,hu=>by
  obtain ⟨a,vs,rfl,ho,hall⟩:=well_tuple x
  obtain ⟨h2,hs⟩:=argT KX ar hu ho
  exact .tup hs (dw_all KX ar ds _ hall p h2)
 | .float _,_,_,p,_=>Bool.noConfusion (show false = true from p)
 | .dict _,_,_,p,_=>Bool.noConfusion (show false = true from p)
 | .bytearray _,_,_,p,_=>Bool.noConfusion (show false = true from p)
 | .set _,_,_,p,_=>Bool.noConfusion (show false = true from p)
 | .frozenset _,_,_,p,_=>Bool.noConfusion (show false = true from p)
 | .obj _ _,_,_,p,_=>Bool.noConfusion (show false = true from p)
theorem dw_all {Pm : Params} (KX : K.In h) (ar : ∀ a ∈ A,ArgOb h A a) : ∀ (ds : List WData) (vs : List Value),WellAll Pm h vs ds → plWs ds = true → (∀ u ∈ vs,OkU A u) → DwAll K (argH K h A) (vs.map toV) ds
 | [],_,x,_,_=>by
  cases x
  exact .nil
 | d :: ds,_,x,p,hu=>by
  obtain ⟨v,vs,rfl,x1,x2⟩:=well_cons x
  have q : plW d = true ∧ plWs ds = true:=Bool.and_eq_true_iff.mp p
  exact .cons (dw_one KX ar d v x1 q.1 (hu _ (List.mem_cons_self ..))) (dw_all KX ar ds vs x2 q.2 fun u m=>hu u (List.mem_cons_of_mem _ m))
end
end
theorem spec_call {P : Program} {w : World} {K : PySem.W.Frag} {mg mb : Str → Option Value} {CX : CXT} {k : Nat} {fa : Addr} {fd : FuncData} {ps : List Str} {sp : Sp} {s₁ : Shared} {vals : List Value} {ds : List WData} {R : PySem.W.WRecords} {cl : Str → Option Addr} {d0 : WData}
  (KX : K.In s₁.heap) (hns : s₁.heap.Ns mainGlobals mg) (hb : s₁.heap.Ns builtinsNs mb) (hbb : ∀ x : Str,x ≠ "__name__" → mb x = bootBuiltins x) (hlim : s₁.heap.NoLimit) (hg : s₁.gens = #[])
  (hwl : WellAll w.params s₁.heap vals ds) (hpl : plWs ds = true) (hwt : ∀ d ∈ ds,d.weight ≤ 1048576) (hr : Room k callerA)
  (F : ∀ base : Heap,K.In base → base.Ns mainGlobals mg → FnOk P w K mg base CX k fa fd ps sp) (hbind : ∀ (s : Shared) (us : List Value),us.length = ps.length → BindsTo s fd ⟨us,[]⟩ (ps.zip us)) (hlen : ds.length = ps.length)
  (hsp : ∀ (H : Hp) (xs : List V),OnlyF H → DwAll K H xs ds → sp xs H (fun v H'=>Dw K H' v d0) fun _ _ _=>False)
  (hCX : ∀ H e s',CX [] H s₁ (fun _ _ _=>False) e s' → False) :
  codeAny (model P w) callerA (.call (.ref fa) ⟨vals,[]⟩) (fun r s'=>∃ u as,r = .ok (.ret u) ∧ ReadsW R cl s'.heap u d0 as ∧ OldK s₁.heap s'.heap ∧ s'.os = s₁.os ∧ AllBare s'.gens) s₁:=by
 obtain ⟨A,ho,ar⟩:=area_all ds vals hwl hpl hwt
 have hO : OnlyF (argH K s₁.heap A):=argH_only ar
 have hok : HOk P w (argH K s₁.heap A) s₁.heap:=argH_ok ar
 have hS:=dw_all KX ar ds vals hwl hpl ho
 have hV:=vals_toV ho
 have hK : ∀ b u,argH K s₁.heap A b = some u → K.lookup b = none:=fun b u q=>(argH_is ar q).1
 have noA : ∀ {b : Addr} {o : Obj} {es : Array DictEntry} {ep : Nat},s₁.heap.get? b = some o → o.data = .dict es ep → argH K s₁.heap A b = none:=fun {b o es ep} e d=>by
  cases q : argH K s₁.heap A b with
  | none=>rfl
  | some u =>
   obtain ⟨_,vs,_,_,⟨e2,_⟩ | ⟨e2,_⟩⟩:=argH_is ar q
   ·rw [e2] at e
    cases e
    have d' : Data.seq vs.toArray _ = Data.dict es ep:=d
    cases d'
   ·rw [e2] at e
    cases e
    have d' : Data.seq vs.toArray _ = Data.dict es ep:=d
    cases d'
 generalize argH K s₁.heap A = H at hO hok hS hK noA
 have base_of : ∀ {b : Addr} {o : Obj},s₁.heap.get? b = some o → H b = none → (hidT s₁.heap H).get? b = some o:=fun e n=>hidT_get e n
 have nsK : ∀ {b : Addr} {m : Str → Option Value},s₁.heap.Ns b m → (hidT s₁.heap H).Ns b m:=fun {b m} ⟨o,es,ep,e,d,r⟩=>⟨o,es,ep,base_of e (noA e d),d,r⟩
 have nK : ∀ b o,K.lookup b = some o → H b = none:=fun b o e=>by
  cases q : H b with
  | none=>rfl
  | some u =>
   rw [hK b u q] at e
   cases e
 have hKb : K.In (hidT s₁.heap H):=fun b o e=>base_of (KX b o e) (nK b o e)
 have hM : Mod K mg (hidT s₁.heap H):=⟨hKb,nsK hns,⟨mb,nsK hb,hbb⟩,let ⟨mc,h1,h2⟩:=hlim; ⟨mc,nsK h1,h2⟩⟩
 have e0 : Env0 P w K mg (hidT s₁.heap H) callerA [] s₁ H:=⟨rfl,hM,fun b o e=>of_hidT e,Nat.le_of_eq (hidT_size _ _),trivial,fun b hb=>absurd (show b ∈ ([] : List Addr) from hb) (by simp),hok,.of_eq hg⟩
 have hl : vals.length = ps.length:=by rw [wellAll_len hwl]; exact hlen
 refine codeAny_mono ((F _ hKb (nsK hns)).run callerA [] s₁ H ⟨vals,[]⟩ vals (vals.map toV) _ _ hr e0 (hbind s₁ vals hl) hV (hsp H _ hO hS)) fun r s' x=>?_
 cases r with
 | error e=>exact (hCX H e s' x).elim
 | ok fl =>
  cases fl with
  | next=>exact False.elim x
  | brk=>exact False.elim x
  | cont=>exact False.elim x
  | ret u =>
   obtain ⟨v,H',os,bare,un,hok',r',q⟩:=x
   have kept : ∀ b o,s₁.heap.get? b = some o → s'.heap.get? b = some o:=fun b o e=>by
    cases q2 : H b with
    | none=>exact un.keep b o e q2 (by intro z; exact absurd (show b ∈ ([] : List Addr) from z) (by simp)) (by simp)
    | some u2 =>
     rcases hO b with z | ⟨ob,u3,z⟩
     ·rw [q2] at z
      cases z
     ·have z2:=un.frzs b ob _ z
      obtain ⟨e1,_⟩:=hok b _ z
      obtain ⟨e2,_⟩:=hok' b _ z2
      rw [e] at e1
      cases e1
      exact e2
   have KX' : K.In s'.heap:=fun b o e=>kept b o (KX b o e)
   obtain ⟨as,hrd⟩:=Dw.reads (R:=R) (cl:=cl) hok' KX' d0 v u q r'
   exact ⟨u,as,rfl,hrd,OldK.of_keep kept,os,bare⟩
theorem layable_weight {ds : List WData} (h : WData.layableAll ds = true) : ∀ d ∈ ds,d.weight ≤ 1048576:=fun d hd =>
 (PySem.W.layableW_iff.mp (List.all_eq_true.mp h d hd)).2.2
theorem encAll_len : ∀ (cs : List Codec) (a : Codec.denoteAll cs),(Codec.encAll cs a).length = cs.length
 | [],_=>rfl
 | c :: cs,a=>by
  show (Codec.encAll cs a.2).length + 1 = cs.length + 1
  rw [encAll_len cs a.2]
theorem walk_spec {r : OpenSpec} {k : Nat} {q : Program} {loose : List Str} {XP : (Str → Option Value) → Heap → Prop} {YP : World → Heap → Prop} {d : DefRec} {K : Params → PySem.W.Frag} {CX : World → CXT} {ps : List Str} {sp : World → Sp}
  (hwell : r.wellSaid = true) (hdf : d.params.defaults = []) (hlen : r.args.length = ps.length) (hr : Room k callerA)
  (hY : ∀ (w : World) (h : Heap),YP w h → (K w.params).In h)
  (F : ∀ (w : World) (mg : Str → Option Value) (fa : Addr) (h : Heap),YP w h → (K w.params).In h → h.Ns mainGlobals mg → mg d.name = some (.ref fa) →
   ∃ fd : FuncData,(∀ (s : Shared) (us : List Value),us.length = ps.length → BindsTo s fd ⟨us,[]⟩ (ps.zip us)) ∧
    ∀ base : Heap,(K w.params).In base → base.Ns mainGlobals mg → FnOk r.prog w (K w.params) mg base (CX w) k fa fd ps (sp w))
  (hsp : ∀ (w : World) (H : Hp) (xs : List V) (a : Codec.denoteAll r.args),OnlyF H → Codec.withinAll r.args a = true → Codec.app r.args r.asked a = true → DwAll (K w.params) H xs (Codec.encAll r.args a) →
   sp w xs H (fun v H'=>Dw (K w.params) H' v (r.ret.enc (Codec.app r.args r.f a))) fun _ _ _=>False)
  (hCX : ∀ (w : World) (H : Hp) (s : Shared) (e : Value) (s' : Shared),CX w [] H s (fun _ _ _=>False) e s' → False) :
  PySem.W.WalkOS q loose XP YP r d [] (fun f vs=>PySem.call f vs):=by
 intro w s_0 s₁ mg mb G Y fa o pm cd doc dV kV ho hd hcd hD hmg hg args vals as hpre hlay hrd hwl hlo
 obtain ⟨a,e1,e2⟩:=PySem.W.os_pre_some hpre
 obtain ⟨e3,hwi⟩:=Codec.encAll_of_decAll r.args args a e1
 subst e3
 have KX:=hY w _ Y
 obtain ⟨fd,hb,hF⟩:=F w mg fa _ Y KX G.T.g hmg
 refine PySem.W.enter_call (codeAny_mono (spec_call (R:=[]) (cl:=classAt s_0.heap) (d0:=r.ret.enc (Codec.app r.args r.f a)) KX G.T.g G.T.b G.T.builtins G.T.nolimit hg hwl (pl_encAll _ _) (layable_weight hlay) hr hF hb (by rw [encAll_len]; exact hlen)
  (fun H xs hO hS=>hsp w H xs a hO hwi e2 hS) fun H e s'=>hCX w H s₁ e s') fun r' s' hq=>?_)
 obtain ⟨u,as',rfl,h1,h2,h3,h4⟩:=hq
 exact ⟨.inl ⟨u,_,as',rfl,fun _=>rfl,h1,(OpenSpec.post_iff hwell hwi _ _).mpr rfl,fun z=>Bool.noConfusion (show false = true from z)⟩,h2,h3,h4⟩
theorem walk_specK {r : OpenSpec} {k : Nat} {q : Program} {loose : List Str} {XP : (Str → Option Value) → Heap → Prop} {YP : World → Heap → Prop} {d : DefRec} {K : Params → PySem.W.Frag} {CX : CXT} {ps : List Str} {sp : PySem.W.Frag → Sp}
  (hwell : r.wellSaid = true) (hdf : d.params.defaults = []) (hlen : r.args.length = ps.length) (hr : Room k callerA)
  (hY : ∀ (w : World) (h : Heap),YP w h → (K w.params).In h)
  (F : ∀ (w : World) (mg : Str → Option Value) (fa : Addr) (h : Heap),YP w h → (K w.params).In h → h.Ns mainGlobals mg → mg d.name = some (.ref fa) →
   ∃ fd : FuncData,(∀ (s : Shared) (us : List Value),us.length = ps.length → BindsTo s fd ⟨us,[]⟩ (ps.zip us)) ∧
    ∀ base : Heap,(K w.params).In base → base.Ns mainGlobals mg → FnOk r.prog w (K w.params) mg base CX k fa fd ps (sp (K w.params)))
  (hsp : ∀ (K : PySem.W.Frag) (H : Hp) (xs : List V) (a : Codec.denoteAll r.args),OnlyF H → Codec.withinAll r.args a = true → Codec.app r.args r.asked a = true → DwAll K H xs (Codec.encAll r.args a) →
   sp K xs H (fun v H'=>Dw K H' v (r.ret.enc (Codec.app r.args r.f a))) fun _ _ _=>False)
  (hCX : ∀ (H : Hp) (s : Shared) (e : Value) (s' : Shared),CX [] H s (fun _ _ _=>False) e s' → False) :
  PySem.W.WalkOS q loose XP YP r d [] (fun f vs=>PySem.call f vs) :=
 walk_spec (K:=K) (CX:=fun _=>CX) (sp:=fun w=>sp (K w.params)) hwell hdf hlen hr hY F (fun w H xs a h1 h2 h3 h4=>hsp (K w.params) H xs a h1 h2 h3 h4) fun _ H s e s'=>hCX H s e s'
end L2
end
namespace VM
open Vbchai
theorem total_acc (l : List Int) : ∀ a : Int,l.foldl (fun a b=>a + b) a = a + l.sum:=by
 induction l with
 | nil=>intro a; simp
 | cons x r ih=>intro a; rw [List.foldl_cons,ih,List.sum_cons]; omega
theorem total_eq (l : List Int) : total l = l.sum:=by unfold total; rw [total_acc]; omega
theorem sum_app (a b : List Int) : (a ++ b).sum = a.sum + b.sum:=by
 induction a with
 | nil=>simp
 | cons x r ih=>rw [List.cons_append,List.sum_cons,List.sum_cons,ih]; omega
theorem sum_perm {a b : List Int} (h : a.Perm b) : a.sum = b.sum:=by
 induction h with
 | nil=>rfl
 | cons x _ ih=>rw [List.sum_cons,List.sum_cons,ih]
 | swap x y l=>simp only [List.sum_cons]; omega
 | trans _ _ h1 h2=>exact h1.trans h2
def LeastArg (F : Int → Int) (lo hi p : Int) : Prop:=lo ≤ p ∧ p ≤ hi ∧ ∀ q,lo ≤ q → q ≤ hi → F p ≤ F q ∧ (q < p → F p < F q)
theorem LeastArg.unique {F : Int → Int} {lo hi p q : Int} (a : LeastArg F lo hi p) (b : LeastArg F lo hi q) : p = q:=by
 obtain ⟨a1,a2,a3⟩:=a
 obtain ⟨b1,b2,b3⟩:=b
 have h1:=a3 q b1 b2
 have h2:=b3 p a1 a2
 rcases Int.lt_trichotomy p q with h | h | h
 ·have:=h2.2 h; omega
 ·exact h
 ·have:=h1.2 h; omega
theorem LeastArg.congr {F F' : Int → Int} {lo hi p c : Int} (e : ∀ x,lo ≤ x → x ≤ hi → F' x = F x + c) (a : LeastArg F lo hi p) : LeastArg F' lo hi p:=by
 obtain ⟨a1,a2,a3⟩:=a
 refine ⟨a1,a2,fun q h1 h2=>?_⟩
 rw [e p a1 a2,e q h1 h2]
 have:=a3 q h1 h2
 exact ⟨by omega,fun h=>by have:=this.2 h; omega⟩
theorem LeastArg.one (F : Int → Int) (a : Int) : LeastArg F a a a:=⟨Int.le_refl _,Int.le_refl _,fun q h1 h2=>by
 have : q = a:=by omega
 subst this
 exact ⟨Int.le_refl _,fun h=>by omega⟩⟩
theorem LeastArg.step {F : Int → Int} {lo a b p d : Int} (h : LeastArg F lo a p) (hab : a ≤ b) (hd : ∀ x,a ≤ x → x ≤ b → F x = F a + d * (x - a)) :
  LeastArg F lo b (if F b < F p then b else p):=by
 obtain ⟨h1,h2,h3⟩:=h
 have ha:=(h3 a (by omega) (by omega)).1
 have hb:=hd b hab (Int.le_refl _)
 by_cases c : F b < F p
 ·rw [if_pos c]
  refine ⟨by omega,Int.le_refl _,fun q q1 q2=>?_⟩
  by_cases hq : q ≤ a
  ·have:=(h3 q q1 hq).1
   exact ⟨by omega,fun _=>by omega⟩
  ·have hq':=hd q (by omega) q2
   have hdn : d < 0:=by
    rcases Int.lt_or_le d 0 with z | z
    ·exact z
    ·have:=Int.mul_nonneg z (show 0 ≤ b - a by omega)
     omega
   rcases Int.lt_or_le q b with z | z
   ·have e1 : d * (b - a) = d * (q - a) + d * (b - q):=by rw [← Int.mul_add]; congr 1; omega
    have e2:=Int.mul_neg_of_neg_of_pos hdn (show 0 < b - q by omega)
    exact ⟨by omega,fun _=>by omega⟩
   ·have : q = b:=by omega
    subst this
    exact ⟨Int.le_refl _,fun h=>by omega⟩
 ·rw [if_neg c]
  refine ⟨h1,by omega,fun q q1 q2=>?_⟩
  by_cases hq : q ≤ a
  ·exact h3 q q1 hq
  ·have hq':=hd q (by omega) q2
   refine ⟨?_,fun h=>by omega⟩
   rcases Int.lt_or_le d 0 with z | z
   ·have e1 : d * (b - a) = d * (q - a) + d * (b - q):=by rw [← Int.mul_add]; congr 1; omega
    have e2:=Int.mul_nonneg (show 0 ≤ -d by omega) (show 0 ≤ b - q by omega)
    rw [Int.neg_mul] at e2
    omega
   ·have:=Int.mul_nonneg z (show 0 ≤ q - a by omega)
    omega
def G (s : Int) (bs : List (Int × Int)) (p : Int) : Int:=s * p + (bs.map fun x=>x.2 * max (p - x.1) 0).sum
def dsum (bs : List (Int × Int)) : Int:=(bs.map fun x=>x.2).sum
theorem G_nil (s p : Int) : G s [] p = s * p:=by simp [G]
theorem G_cons (s p : Int) (x : Int × Int) (bs : List (Int × Int)) : G s (x :: bs) p = G s bs p + x.2 * max (p - x.1) 0:=by
 simp only [G,List.map_cons,List.sum_cons]; omega
theorem G_app (s p : Int) (a b : List (Int × Int)) : G s (a ++ b) p = G s a p + G 0 b p:=by
 simp only [G,List.map_append,sum_app]; omega
theorem G_perm {a b : List (Int × Int)} (h : a.Perm b) (s p : Int) : G s a p = G s b p:=by
 unfold G; rw [sum_perm (h.map _)]
theorem G_done {s a x : Int} : ∀ {bs : List (Int × Int)},(∀ y ∈ bs,y.1 ≤ a) → a ≤ x → G s bs x = G s bs a + (s + dsum bs) * (x - a)
 | [],_,_=>by simp only [G_nil,dsum,List.map_nil,List.sum_nil]; grind
 | y :: r,h,hx=>by
  rw [G_cons,G_cons,G_done (fun z hz=>h z (List.mem_cons_of_mem _ hz)) hx]
  have h1:=h y List.mem_cons_self
  rw [Int.max_eq_left (show (0 : Int) ≤ x - y.1 by omega),Int.max_eq_left (show (0 : Int) ≤ a - y.1 by omega)]
  simp only [dsum,List.map_cons,List.sum_cons]
  grind
theorem G_todo {a : Int} : ∀ {bs : List (Int × Int)},(∀ y ∈ bs,a ≤ y.1) → G 0 bs a = 0
 | [],_=>by rw [G_nil]; omega
 | y :: r,h=>by
  have h1:=h y List.mem_cons_self
  rw [G_cons,G_todo (fun z hz=>h z (List.mem_cons_of_mem _ hz)),Int.max_eq_right (show a - y.1 ≤ 0 by omega)]; omega
theorem G_step {s a x : Int} {D T : List (Int × Int)} (hd : ∀ y ∈ D,y.1 ≤ a) (ht : ∀ y ∈ T,x ≤ y.1) (hx : a ≤ x) : G s (D ++ T) x = G s (D ++ T) a + (s + dsum D) * (x - a):=by
 rw [G_app,G_app,G_done hd hx,G_todo ht,G_todo (a:=a) fun y hy=>by have:=ht y hy; omega]; omega
abbrev Rise (bs : List (Int × Int)) : Prop:=bs.Pairwise fun x y=>x.1 ≤ y.1
def inB (lo hi : Int) (x : Int × Int) : Bool:=decide (lo < x.1) && decide (x.1 < hi)
theorem parts {lo hi : Int} (hlh : lo ≤ hi) : ∀ {bs : List (Int × Int)},Rise bs → ∃ A C,bs = A ++ (bs.filter (inB lo hi) ++ C) ∧ (∀ y ∈ A,y.1 ≤ lo) ∧ (∀ y ∈ C,hi ≤ y.1 ∧ lo < y.1)
   ∧ (∀ y ∈ bs.filter (inB lo hi),lo < y.1 ∧ y.1 < hi):=by
 intro bs hb
 have hB : ∀ y ∈ bs.filter (inB lo hi),lo < y.1 ∧ y.1 < hi:=fun y hy=>by
  have:=(List.mem_filter.mp hy).2
  simpa [inB] using this
 suffices h : ∃ A C,bs = A ++ (bs.filter (inB lo hi) ++ C) ∧ (∀ y ∈ A,y.1 ≤ lo) ∧ (∀ y ∈ C,hi ≤ y.1 ∧ lo < y.1) by
  obtain ⟨A,C,h1,h2,h3⟩:=h
  exact ⟨A,C,h1,h2,h3,hB⟩
 clear hB
 induction bs with
 | nil=>exact ⟨[],[],rfl,(fun _ h=>by cases h),(fun _ h=>by cases h)⟩
 | cons x r ih =>
  obtain ⟨hx,hr⟩:=List.pairwise_cons.mp hb
  obtain ⟨A,C,e,hA,hC⟩:=ih hr
  by_cases h1 : x.1 ≤ lo
  ·have : inB lo hi x = false:=by simp [inB]; omega
   rw [List.filter_cons,if_neg (by simp [this])]
   refine ⟨x :: A,C,by rw [List.cons_append,← e],fun y hy=>?_,hC⟩
   rcases List.mem_cons.mp hy with rfl | hy
   ·exact h1
   ·exact hA y hy
  ·by_cases h2 : x.1 < hi
   ·have : inB lo hi x = true:=by simp [inB]; omega
    rw [List.filter_cons,if_pos this]
    have hA0 : A = []:=by
     cases A with
     | nil=>rfl
     | cons a A =>
      have m : a ∈ r:=by rw [e]; simp
      have:=hx a m
      have:=hA a List.mem_cons_self
      omega
    subst hA0
    exact ⟨[],C,by rw [List.nil_append] at e ⊢; rw [List.cons_append,← e],(fun _ h=>by cases h),hC⟩
   ·have : inB lo hi x = false:=by simp [inB]; omega
    have hF : r.filter (inB lo hi) = []:=by
     rw [List.filter_eq_nil_iff]
     intro y hy
     have:=hx y hy
     simp [inB]; omega
    rw [List.filter_cons,if_neg (by simp [this]),hF]
    refine ⟨[],x :: r,rfl,(fun _ h=>by cases h),fun y hy=>?_⟩
    rcases List.mem_cons.mp hy with rfl | hy
    ·omega
    ·have:=hx y hy; omega
def pre1 (lo : Int) : Int → Int → List (Int × Int) → Int × Int
 | s,g,[]=>(s,g)
 | s,g,x :: r=>if lo < x.1 then (s,g) else pre1 lo (s + x.2) (g + x.2 * (lo - x.1)) r
def run2 : Int → Int → Int → Int → Int → List (Int × Int) → Int × Int
 | _,_,_,wg,wp,[]=>(wg,wp)
 | g,s,p,wg,wp,x :: r=>if g + s * (x.1 - p) < wg then run2 (g + s * (x.1 - p)) (s + x.2) x.1 (g + s * (x.1 - p)) x.1 r else run2 (g + s * (x.1 - p)) (s + x.2) x.1 wg wp r
def worstP (s : Int) (bs : List (Int × Int)) (lo hi : Int) : Int × Int :=
 run2 (pre1 lo s (s * lo) bs).2 (pre1 lo s (s * lo) bs).1 lo (pre1 lo s (s * lo) bs).2 lo (bs.filter (inB lo hi) ++ [(hi,0)])
theorem pre1_eq {lo : Int} : ∀ (A : List (Int × Int)) {T : List (Int × Int)} {s g : Int},(∀ y ∈ A,y.1 ≤ lo) → (∀ y ∈ T,lo < y.1) →
  pre1 lo s g (A ++ T) = (s + dsum A,g + (A.map fun x=>x.2 * max (lo - x.1) 0).sum)
 | [],T,s,g,_,hT=>by
  cases T with
  | nil=>simp [pre1,dsum]
  | cons y r =>
   have:=hT y List.mem_cons_self
   rw [List.nil_append,pre1,if_pos this]; simp [dsum]
 | x :: A,T,s,g,hA,hT=>by
  have h1:=hA x List.mem_cons_self
  rw [List.cons_append,pre1,if_neg (by omega),pre1_eq A (fun y hy=>hA y (List.mem_cons_of_mem _ hy)) hT]
  simp only [dsum,List.map_cons,List.sum_cons,Int.max_eq_left (show (0 : Int) ≤ lo - x.1 by omega)]
  refine Prod.ext ?_ ?_
  ·show s + x.2 + _ = _; omega
  ·show g + x.2 * (lo - x.1) + _ = _; omega
theorem run2_ok {s lo hi : Int} : ∀ (B : List (Int × Int)) {D C : List (Int × Int)} {a wp : Int},(∀ y ∈ D,y.1 ≤ a) → (∀ y ∈ B,a ≤ y.1 ∧ y.1 < hi) → Rise B → (∀ y ∈ C,hi ≤ y.1) → a ≤ hi → LeastArg (G s (D ++ (B ++ C))) lo a wp →
  ∃ p,run2 (G s (D ++ (B ++ C)) a) (s + dsum D) a (G s (D ++ (B ++ C)) wp) wp (B ++ [(hi,0)]) = (G s (D ++ (B ++ C)) p,p) ∧ LeastArg (G s (D ++ (B ++ C))) lo hi p
 | [],D,C,a,wp,hD,_,_,hC,hah,L=>by
  rw [List.nil_append] at L ⊢
  have e:=G_step (s:=s) hD hC hah
  have L2:=L.step hah (d:=s + dsum D) fun x h1 h2=>G_step hD (fun y hy=>by have:=hC y hy; omega) h1
  simp only [List.nil_append,run2]
  rw [← e]
  by_cases c : G s (D ++ C) hi < G s (D ++ C) wp
  ·rw [if_pos c] at L2 ⊢
   exact ⟨hi,rfl,L2⟩
  ·rw [if_neg c] at L2 ⊢
   exact ⟨wp,rfl,L2⟩
 | x :: B,D,C,a,wp,hD,hB,hR,hC,hah,L=>by
  obtain ⟨h1,h2⟩:=hB x List.mem_cons_self
  obtain ⟨hx,hR'⟩:=List.pairwise_cons.mp hR
  have ht : ∀ y ∈ x :: B ++ C,x.1 ≤ y.1:=fun y hy=>by
   rcases List.mem_append.mp hy with hy | hy
   ·rcases List.mem_cons.mp hy with rfl | hy
    ·exact Int.le_refl _
    ·exact hx y hy
   ·have:=hC y hy; omega
  have e:=G_step (s:=s) hD ht h1
  have L2:=L.step h1 (d:=s + dsum D) fun z z1 z2=>G_step hD (fun y hy=>by have:=ht y hy; omega) z1
  have ea : D ++ (x :: B ++ C) = (D ++ [x]) ++ (B ++ C):=by simp
  have ed : s + dsum D + x.2 = s + dsum (D ++ [x]):=by simp [dsum,sum_app]; omega
  simp only [List.cons_append,run2]
  rw [List.cons_append] at e L L2 ea
  rw [← e]
  have hD' : ∀ y ∈ D ++ [x],y.1 ≤ x.1:=fun y hy=>by
   rcases List.mem_append.mp hy with hy | hy
   ·have:=hD y hy; omega
   ·rw [List.mem_singleton] at hy; subst hy; exact Int.le_refl _
  have hB' : ∀ y ∈ B,x.1 ≤ y.1 ∧ y.1 < hi:=fun y hy=>⟨hx y hy,(hB y (List.mem_cons_of_mem _ hy)).2⟩
  rw [ea] at L2 ⊢
  by_cases c : G s (D ++ [x] ++ (B ++ C)) x.1 < G s (D ++ [x] ++ (B ++ C)) wp
  ·rw [if_pos c] at L2 ⊢
   rw [ed]
   exact run2_ok B hD' hB' hR' hC (by omega) L2
  ·rw [if_neg c] at L2 ⊢
   rw [ed]
   exact run2_ok B hD' hB' hR' hC (by omega) L2
theorem worstP_ok {s lo hi : Int} {bs : List (Int × Int)} (hlh : lo ≤ hi) (hR : Rise bs) : ∃ p,worstP s bs lo hi = (G s bs p,p) ∧ LeastArg (G s bs) lo hi p:=by
 obtain ⟨A,C,e,hA,hC,hB⟩:=parts hlh hR
 have hp:=pre1_eq (lo:=lo) A (T:=bs.filter (inB lo hi) ++ C) (s:=s) (g:=s * lo) hA (fun y hy=>by
  rcases List.mem_append.mp hy with hy | hy
  ·exact (hB y hy).1
  ·exact (hC y hy).2)
 rw [← e] at hp
 have hg : s * lo + (A.map fun x=>x.2 * max (lo - x.1) 0).sum = G s bs lo:=by
  have : G s bs lo = G s A lo + G 0 (bs.filter (inB lo hi) ++ C) lo:=by
   rw [← G_app,← e]
  rw [this,G_todo (a:=lo) fun y hy=>by
   rcases List.mem_append.mp hy with hy | hy
   ·have:=(hB y hy).1; omega
   ·have:=(hC y hy).2; omega]
  unfold G; omega
 unfold worstP
 rw [hp]
 show ∃ p,run2 (s * lo + (A.map fun x=>x.2 * max (lo - x.1) 0).sum) (s + dsum A) lo (s * lo + (A.map fun x=>x.2 * max (lo - x.1) 0).sum) lo _ = _ ∧ _
 rw [hg]
 have:=run2_ok (s:=s) (lo:=lo) (hi:=hi) (bs.filter (inB lo hi)) (D:=A) (C:=C) (a:=lo) (wp:=lo) hA (fun y hy=>by have:=hB y hy; omega) (hR.filter _) (fun y hy=>(hC y hy).1) hlh (LeastArg.one _ _)
 rw [← e] at this
 exact this
def castK (l : List (Nat × Int)) : List (Int × Int):=l.map fun x=>((x.1 : Int),x.2)
theorem natmax (p k : Nat) : ((p - k : Nat) : Int) = max ((p : Int) - k) 0:=by omega
theorem formWorth_eq (f : Form) (p : Nat) : formWorth f p = f.at0 + G f.slope (castK f.kinks) p:=by
 unfold formWorth G castK
 rw [total_eq,List.map_map]
 have : (f.kinks.map fun x=>x.2 * ((p - x.1 : Nat) : Int)) = f.kinks.map ((fun x=>x.2 * max ((p : Int) - x.1) 0) ∘ fun x : Nat × Int=>((x.1 : Int),x.2)):=by
  apply List.map_congr_left
  intro x _
  simp [natmax]
 rw [this]; omega
theorem mem_bend {k : Nat} {d : Int} : ∀ {ks : List (Nat × Int)} {y : Nat × Int},y ∈ bend k d ks → y.1 = k ∨ ∃ z ∈ ks,z.1 = y.1
 | [],y,h=>by
  unfold bend at h
  split at h
  ·cases h
  ·rw [List.mem_singleton] at h; subst h; exact .inl rfl
 | x :: r,y,h=>by
  unfold bend at h
  split at h
  ·split at h
   ·exact .inr ⟨y,h,rfl⟩
   ·rcases List.mem_cons.mp h with rfl | h
    ·exact .inl rfl
    ·exact .inr ⟨y,h,rfl⟩
  ·split at h
   ·split at h
    ·exact .inr ⟨y,List.mem_cons_of_mem _ h,rfl⟩
    ·rcases List.mem_cons.mp h with rfl | h
     ·exact .inl rfl
     ·exact .inr ⟨y,List.mem_cons_of_mem _ h,rfl⟩
   ·rcases List.mem_cons.mp h with rfl | h
    ·exact .inr ⟨_,List.mem_cons_self,rfl⟩
    ·rcases mem_bend h with h | ⟨z,hz,e⟩
     ·exact .inl h
     ·exact .inr ⟨z,List.mem_cons_of_mem _ hz,e⟩
abbrev RiseN (l : List (Nat × Int)) : Prop:=l.Pairwise fun x y=>x.1 ≤ y.1
theorem bend_rise {k : Nat} {d : Int} : ∀ {ks : List (Nat × Int)},RiseN ks → RiseN (bend k d ks)
 | [],_=>by unfold bend; split <;> simp [RiseN]
 | x :: r,h=>by
  obtain ⟨hx,hr⟩:=List.pairwise_cons.mp h
  unfold bend
  split
  ·split
   ·exact h
   ·refine List.pairwise_cons.mpr ⟨fun y hy=>?_,h⟩
    rcases List.mem_cons.mp hy with rfl | hy
    ·show k ≤ _; omega
    ·have:=hx y hy; show k ≤ _; omega
  ·split
   ·split
    ·exact hr
    ·refine List.pairwise_cons.mpr ⟨fun y hy=>?_,hr⟩
     have:=hx y hy; show k ≤ _; omega
   ·refine List.pairwise_cons.mpr ⟨fun y hy=>?_,bend_rise hr⟩
    rcases mem_bend hy with e | ⟨z,hz,e⟩
    ·omega
    ·have:=hx z hz; omega
theorem bend_G {k : Nat} {d s p : Int} : ∀ {ks : List (Nat × Int)},G s (castK (bend k d ks)) p = G s (castK ks) p + d * max (p - k) 0
 | []=>by
  unfold bend
  split
  ·rename_i h; subst h; simp
  ·show G s [((k : Int),d)] p = G s [] p + _
   rw [G_cons]
 | x :: r=>by
  have ec : ∀ (y : Nat × Int) (l : List (Nat × Int)),castK (y :: l) = ((y.1 : Int),y.2) :: castK l:=fun _ _=>rfl
  unfold bend
  split
  ·split
   ·rename_i h; subst h; omega
   ·rw [ec,G_cons]
  ·split
   ·rename_i h1 h2
    split
    ·rename_i h3
     rw [ec,G_cons]
     have : x.2 = -d:=by omega
     show _ = G s (castK r) p + x.2 * max (p - ((x.1 : Nat) : Int)) 0 + d * max (p - (k : Int)) 0
     rw [this,h2,Int.neg_mul]; omega
    ·rw [ec,ec,G_cons,G_cons]
     show G s (castK r) p + (d + x.2) * max (p - (k : Int)) 0 = G s (castK r) p + x.2 * max (p - ((x.1 : Nat) : Int)) 0 + d * max (p - (k : Int)) 0
     rw [← h2,Int.add_mul]; omega
   ·rw [ec,ec,G_cons,G_cons,bend_G]; omega
def W (legs : List Leg) (p : Nat) : Int:=(legs.map fun l=>l.qty * pays l.kind l.strike p).sum
theorem W_cons (l : Leg) (r : List Leg) (p : Nat) : W (l :: r) p = l.qty * pays l.kind l.strike p + W r p:=by simp [W]
theorem legIn_ok {f : Form} {l : Leg} (hk : l.kind ≠ 0) (hR : RiseN f.kinks) : RiseN (legIn f l).kinks ∧ ∀ p,p ≤ TOP → formWorth (legIn f l) p = formWorth f p + l.qty * pays l.kind l.strike p:=by
 obtain ⟨q,kd,u,k⟩:=l
 have hb : ∀ (f : Form),RiseN f.kinks → RiseN (bendIn f k q).kinks ∧ ∀ p,p ≤ TOP → formWorth (bendIn f k q) p = formWorth f p + q * max ((p : Int) - k) 0:=fun f hR=>by
  unfold bendIn
  split
  ·refine ⟨bend_rise hR,fun p _=>?_⟩
   rw [formWorth_eq,formWorth_eq]
   show f.at0 + G f.slope (castK (bend k q f.kinks)) p = _
   rw [bend_G]; omega
  ·refine ⟨hR,fun p hp=>?_⟩
   rw [Int.max_eq_right (by omega)]; omega
 match kd,hk with
 | 0,hk=>exact absurd rfl hk
 | 1,_ =>
  refine ⟨hR,fun p _=>?_⟩
  rw [formWorth_eq,formWorth_eq]
  show f.at0 - q * (k : Int) + G (f.slope + q) (castK f.kinks) p = f.at0 + G f.slope (castK f.kinks) p + q * ((p : Int) - (k : Int))
  unfold G
  grind
 | 2,_ =>
  show RiseN (if k = 0 then { f with slope:=f.slope + q } else bendIn f k q).kinks ∧ ∀ p,p ≤ TOP → formWorth (if k = 0 then { f with slope:=f.slope + q } else bendIn f k q) p = formWorth f p + q * ((p - k : Nat) : Int)
  split
  ·rename_i h
   subst h
   refine ⟨hR,fun p _=>?_⟩
   rw [formWorth_eq,formWorth_eq]
   show f.at0 + G (f.slope + q) (castK f.kinks) p = f.at0 + G f.slope (castK f.kinks) p + q * ((p - 0 : Nat) : Int)
   unfold G
   rw [Nat.sub_zero]
   grind
  ·refine ⟨(hb f hR).1,fun p hp=>?_⟩
   rw [(hb f hR).2 p hp,natmax]
 | n + 3,_ =>
  show RiseN (if k = 0 then f else bendIn { f with at0:=f.at0 + q * (k : Int),slope:=f.slope - q } k q).kinks ∧ ∀ p,p ≤ TOP → formWorth (if k = 0 then f else bendIn { f with at0:=f.at0 + q * (k : Int),slope:=f.slope - q } k q) p = formWorth f p + q * ((k - p : Nat) : Int)
  split
  ·rename_i h
   subst h
   refine ⟨hR,fun p _=>?_⟩
   rw [Nat.zero_sub]
   show _ = formWorth f p + q * 0
   omega
  ·have h3:=hb { f with at0:=f.at0 + q * (k : Int),slope:=f.slope - q } hR
   refine ⟨h3.1,fun p hp=>?_⟩
   rw [h3.2 p hp,formWorth_eq,formWorth_eq]
   show f.at0 + q * (k : Int) + G (f.slope - q) (castK f.kinks) p + q * max ((p : Int) - k) 0 = f.at0 + G f.slope (castK f.kinks) p + q * ((k - p : Nat) : Int)
   have e : ((k - p : Nat) : Int) = (k : Int) - p + max ((p : Int) - k) 0:=by omega
   rw [e]
   unfold G
   grind
theorem fold_ok : ∀ {legs : List Leg} {f : Form},(∀ l ∈ legs,l.kind ≠ 0) → RiseN f.kinks → RiseN (legs.foldl legIn f).kinks ∧ ∀ p,p ≤ TOP → formWorth (legs.foldl legIn f) p = formWorth f p + W legs p
 | [],f,_,hR=>⟨hR,fun p _=>by simp [W]⟩
 | l :: r,f,hk,hR=>by
  have h1:=legIn_ok (hk l List.mem_cons_self) hR
  have h2:=fold_ok (legs:=r) (f:=legIn f l) (fun x hx=>hk x (List.mem_cons_of_mem _ hx)) h1.1
  refine ⟨h2.1,fun p hp=>?_⟩
  rw [List.foldl_cons,h2.2 p hp,h1.2 p hp,W_cons]; omega
def on (b : Book) (u : Nat) : Book:=b.filter fun l=>l.kind != 0 && l.under == u
theorem on_kind {b : Book} {u : Nat} : ∀ l ∈ on b u,l.kind ≠ 0:=fun l hl=>by
 have:=(List.mem_filter.mp hl).2
 simp at this
 exact this.1
theorem formOf_ok (b : Book) (u : Nat) : RiseN (formOf b u).kinks ∧ ∀ p,p ≤ TOP → formWorth (formOf b u) p = W (on b u) p:=by
 have h:=fold_ok (legs:=on b u) (f:=flat) on_kind (by simp [RiseN,flat])
 refine ⟨h.1,fun p hp=>?_⟩
 have:=h.2 p hp
 rw [show formWorth flat p = 0 by simp [formWorth,flat,total]] at this
 rw [show formOf b u = (on b u).foldl legIn flat from rfl,this]; omega
theorem least_ok {f : Form} {lo hi : Nat} : ∀ (B : List (Nat × Int)) {D C : List (Nat × Int)} {a p : Nat},f.kinks = D ++ (B ++ C) → (∀ y ∈ D,y.1 ≤ a) → (∀ y ∈ B,a ≤ y.1 ∧ y.1 < hi) → RiseN B → (∀ y ∈ C,hi ≤ y.1) → a ≤ hi →
  LeastArg (G f.slope (castK f.kinks)) lo a p → LeastArg (G f.slope (castK f.kinks)) lo hi (least f p (B.map (fun x=>x.1) ++ (if lo < hi then [hi] else [])))
 | [],D,C,a,p,e,hD,_,_,hC,hah,L=>by
  have hd : ∀ y ∈ castK D,y.1 ≤ (a : Int):=fun y hy=>by
   obtain ⟨z,hz,rfl⟩:=List.mem_map.mp hy
   have:=hD z hz; show (z.1 : Int) ≤ a; omega
  have hc : ∀ y ∈ castK C,(hi : Int) ≤ y.1:=fun y hy=>by
   obtain ⟨z,hz,rfl⟩:=List.mem_map.mp hy
   have:=hC z hz; show (hi : Int) ≤ z.1; omega
  have ek : castK f.kinks = castK D ++ castK C:=by rw [e]; simp [castK]
  have L2:=L.step (b:=hi) (by omega) (d:=f.slope + dsum (castK D)) fun x h1 h2=>by rw [ek]; exact G_step hd (fun y hy=>by have:=hc y hy; omega) h1
  by_cases c : lo < hi
  ·rw [if_pos c]
   show LeastArg _ _ _ (least f p [hi] : Nat)
   simp only [least]
   rw [formWorth_eq,formWorth_eq]
   by_cases c2 : G f.slope (castK f.kinks) hi < G f.slope (castK f.kinks) p
   ·rw [if_pos c2] at L2
    rw [if_pos (by omega)]; exact L2
   ·rw [if_neg c2] at L2
    rw [if_neg (by omega)]; exact L2
  ·rw [if_neg c]
   show LeastArg _ _ _ (p : Nat)
   obtain ⟨l1,l2,l3⟩:=L
   have e1 : (lo : Int) = a:=by omega
   have e2 : (hi : Int) = a:=by omega
   rw [e1] at l1 l3 ⊢
   rw [e2]
   exact ⟨l1,l2,l3⟩
 | x :: B,D,C,a,p,e,hD,hB,hR,hC,hah,L=>by
  obtain ⟨h1,h2⟩:=hB x List.mem_cons_self
  obtain ⟨hx,hR'⟩:=List.pairwise_cons.mp hR
  have hd : ∀ y ∈ castK D,y.1 ≤ (a : Int):=fun y hy=>by
   obtain ⟨z,hz,rfl⟩:=List.mem_map.mp hy
   have:=hD z hz; show (z.1 : Int) ≤ a; omega
  have hc : ∀ y ∈ castK (x :: B ++ C),((x.1 : Nat) : Int) ≤ y.1:=fun y hy=>by
   obtain ⟨z,hz,rfl⟩:=List.mem_map.mp hy
   show ((x.1 : Nat) : Int) ≤ z.1
   rcases List.mem_append.mp hz with hz | hz
   ·rcases List.mem_cons.mp hz with rfl | hz
    ·exact Int.le_refl _
    ·have:=hx z hz; omega
   ·have:=hC z hz; omega
  have ek : castK f.kinks = castK D ++ castK (x :: B ++ C):=by rw [e]; simp [castK]
  have L2:=L.step (b:=(x.1 : Nat)) (by omega) (d:=f.slope + dsum (castK D)) fun z z1 z2=>by rw [ek]; exact G_step hd (fun y hy=>by have:=hc y hy; omega) z1
  have hD' : ∀ y ∈ D ++ [x],y.1 ≤ x.1:=fun y hy=>by
   rcases List.mem_append.mp hy with hy | hy
   ·have:=hD y hy; omega
   ·rw [List.mem_singleton] at hy; subst hy; exact Nat.le_refl _
  have hB' : ∀ y ∈ B,x.1 ≤ y.1 ∧ y.1 < hi:=fun y hy=>⟨hx y hy,(hB y (List.mem_cons_of_mem _ hy)).2⟩
  have e' : f.kinks = (D ++ [x]) ++ (B ++ C):=by rw [e]; simp
  rw [List.map_cons,List.cons_append]
  simp only [least]
  rw [formWorth_eq,formWorth_eq]
  by_cases c2 : G f.slope (castK f.kinks) (x.1 : Nat) < G f.slope (castK f.kinks) p
  ·rw [if_pos c2] at L2
   rw [if_pos (by omega)]
   exact least_ok B e' hD' hB' hR' hC (by omega) L2
  ·rw [if_neg c2] at L2
   rw [if_neg (by omega)]
   exact least_ok B e' hD' hB' hR' hC (by omega) L2
theorem partsN {lo hi : Nat} (hlh : lo ≤ hi) : ∀ {bs : List (Nat × Int)},RiseN bs → ∃ A B C,bs = A ++ (B ++ C) ∧ B.map (fun x=>x.1) = (bs.map fun x=>x.1).filter (fun k=>decide (lo < k) && decide (k < hi)) ∧ (∀ y ∈ A,y.1 ≤ lo) ∧ (∀ y ∈ C,hi ≤ y.1 ∧ lo < y.1)
   ∧ (∀ y ∈ B,lo < y.1 ∧ y.1 < hi) ∧ RiseN B
 | [],_=>⟨[],[],[],rfl,rfl,(fun _ h=>by cases h),(fun _ h=>by cases h),(fun _ h=>by cases h),by simp [RiseN]⟩
 | x :: r,hb=>by
  obtain ⟨hx,hr⟩:=List.pairwise_cons.mp hb
  obtain ⟨A,B,C,e,eB,hA,hC,hB,hRB⟩:=partsN hlh hr
  rw [List.map_cons,List.filter_cons]
  by_cases h1 : x.1 ≤ lo
  ·rw [if_neg (by simp; omega)]
   refine ⟨x :: A,B,C,by rw [List.cons_append,← e],eB,fun y hy=>?_,hC,hB,hRB⟩
   rcases List.mem_cons.mp hy with rfl | hy
   ·exact h1
   ·exact hA y hy
  ·have hA0 : A = []:=by
    cases A with
    | nil=>rfl
    | cons a A =>
     have m : a ∈ r:=by rw [e]; simp
     have:=hx a m
     have:=hA a List.mem_cons_self
     omega
   subst hA0
   by_cases h2 : x.1 < hi
   ·rw [if_pos (by simp; omega)]
    refine ⟨[],x :: B,C,by rw [List.nil_append] at e ⊢; rw [List.cons_append,← e],by rw [List.map_cons,eB],(fun _ h=>by cases h),hC,fun y hy=>?_,List.pairwise_cons.mpr ⟨fun y hy=>hx y (by rw [e]; simp [hy]),hRB⟩⟩
    rcases List.mem_cons.mp hy with rfl | hy
    ·omega
    ·exact hB y hy
   ·rw [if_neg (by simp; omega)]
    have hB0 : B = []:=by
     cases B with
     | nil=>rfl
     | cons a B =>
      have m : a ∈ r:=by rw [e]; simp
      have:=hx a m
      have:=hB a List.mem_cons_self
      omega
    subst hB0
    refine ⟨[],[],x :: C,by rw [e]; simp,eB,(fun _ h=>by cases h),fun y hy=>?_,(fun _ h=>by cases h),by simp [RiseN]⟩
    rcases List.mem_cons.mp hy with rfl | hy
    ·omega
    ·exact hC y hy
theorem leastIn_ok {f : Form} {lo hi : Nat} (hlh : lo ≤ hi) (hR : RiseN f.kinks) : LeastArg (G f.slope (castK f.kinks)) lo hi (leastIn f lo hi):=by
 obtain ⟨A,B,C,e,eB,hA,hC,hB,hRB⟩:=partsN hlh hR
 unfold leastIn deciding
 rw [← eB,List.cons_append]
 simp only [least]
 rw [if_neg (by omega)]
 exact least_ok B e hA (fun y hy=>by have:=hB y hy; omega) hRB (fun y hy=>(hC y hy).1) hlh (LeastArg.one _ _)
def slopeOf (l : Leg) : Int:=if l.kind = 1 then l.qty else if l.kind = 2 then 0 else -l.qty
def bendsOf (legs : List Leg) : List (Int × Int):=(legs.filter fun l=>l.kind != 1).map fun l=>((l.strike : Int),l.qty)
structure CurveOf (legs : List Leg) (s : Int) (bs : List (Int × Int)) : Prop where
 slope : s = (legs.map slopeOf).sum
 bends : bs.Perm (bendsOf legs)
 rise : Rise bs
theorem G_legs : ∀ {legs : List Leg},(∀ l ∈ legs,l.kind ≠ 0) → ∀ p : Nat,G ((legs.map slopeOf).sum) (bendsOf legs) p = W legs p - W legs 0
 | [],_,p=>by simp [bendsOf,G,W]
 | ⟨q,kd,u,k⟩ :: r,h,p=>by
  have ih:=G_legs (legs:=r) (fun l hl=>h l (List.mem_cons_of_mem _ hl)) p
  have hk:=h _ List.mem_cons_self
  rw [W_cons,W_cons,List.map_cons,List.sum_cons]
  have gs : ∀ (a s : Int) (bs : List (Int × Int)),G (a + s) bs p = a * p + G s bs p:=fun a s bs=>by unfold G; grind
  rw [gs]
  match kd,hk with
  | 0,hk=>exact absurd rfl hk
  | 1,_ =>
   show q * (p : Int) + G _ (bendsOf r) p = q * ((p : Int) - (k : Int)) + W r p - (q * (((0 : Nat) : Int) - (k : Int)) + W r 0)
   rw [ih]; grind
  | 2,_ =>
   show (0 : Int) * (p : Int) + G _ (((k : Int),q) :: bendsOf r) p = q * ((p - k : Nat) : Int) + W r p - (q * ((0 - k : Nat) : Int) + W r 0)
   rw [G_cons,ih,natmax,Nat.zero_sub]; grind
  | n + 3,_ =>
   show (-q) * (p : Int) + G _ (((k : Int),q) :: bendsOf r) p = q * ((k - p : Nat) : Int) + W r p - (q * ((k - 0 : Nat) : Int) + W r 0)
   rw [G_cons,ih]
   have e : ((k - p : Nat) : Int) = (k : Int) - p + max ((p : Int) - k) 0:=by omega
   rw [e,Nat.sub_zero]; grind
theorem worst_ok {b : Book} {u : Nat} {s : Int} {bs : List (Int × Int)} (h : CurveOf (on b u) s bs) {lo hi : Nat} (hlh : lo ≤ hi) (ht : hi ≤ TOP) :
  worstP s bs lo hi = (W (on b u) (leastIn (formOf b u) lo hi) - W (on b u) 0,((leastIn (formOf b u) lo hi : Nat) : Int)):=by
 obtain ⟨p,e,L⟩:=worstP_ok (s:=s) (lo:=lo) (hi:=hi) (by omega) h.rise
 have hF:=formOf_ok b u
 have L2:=leastIn_ok hlh hF.1
 have hG : ∀ x : Nat,G s bs x = W (on b u) x - W (on b u) 0:=fun x=>by rw [G_perm h.bends,h.slope,G_legs on_kind]
 have ep : p = ((leastIn (formOf b u) lo hi : Nat) : Int):=by
  refine LeastArg.unique L (LeastArg.congr (c:=(formOf b u).at0 - W (on b u) 0) (fun x h1 h2=>?_) L2)
  obtain ⟨n,rfl⟩ : ∃ n : Nat,x = n:=⟨x.toNat,by omega⟩
  have:=hF.2 n (by omega)
  rw [formWorth_eq] at this
  rw [hG]; omega
 rw [e,ep,hG]
end VM
namespace VM
open Vbchai
inductive All2 {α β : Type} (R : α → β → Prop) : List α → List β → Prop
 | nil : All2 R [] []
 | cons {a : α} {b : β} {l : List α} {m : List β} (h : R a b) (t : All2 R l m) : All2 R (a :: l) (b :: m)
namespace All2
variable {α β : Type} {R : α → β → Prop}
theorem length {l : List α} {m : List β} (h : All2 R l m) : l.length = m.length:=by
 induction h with
 | nil=>rfl
 | cons _ _ ih=>simp [ih]
theorem get {l : List α} {m : List β} (h : All2 R l m) : ∀ {i : Nat} {a : α},l[i]? = some a → ∃ b,m[i]? = some b ∧ R a b:=by
 induction h with
 | nil=>intro i a e; simp at e
 | cons h t ih =>
  intro i a e
  cases i with
  | zero=>simp at e; subst e; exact ⟨_,rfl,h⟩
  | succ i=>exact ih (by simpa using e)
theorem getR {l : List α} {m : List β} (h : All2 R l m) : ∀ {i : Nat} {b : β},m[i]? = some b → ∃ a,l[i]? = some a ∧ R a b:=by
 induction h with
 | nil=>intro i a e; simp at e
 | cons h t ih =>
  intro i a e
  cases i with
  | zero=>simp at e; subst e; exact ⟨_,rfl,h⟩
  | succ i=>exact ih (by simpa using e)
theorem append {l l' : List α} {m m' : List β} (h : All2 R l m) (h' : All2 R l' m') : All2 R (l ++ l') (m ++ m'):=by
 induction h with
 | nil=>exact h'
 | cons h _ ih=>exact .cons h ih
theorem imp {S : α → β → Prop} {l : List α} {m : List β} (h : All2 R l m) (k : ∀ a b,R a b → S a b) : All2 S l m:=by
 induction h with
 | nil=>exact .nil
 | cons h _ ih=>exact .cons (k _ _ h) ih
end All2
structure LegOk (l : Leg) : Prop where
 kind : l.kind ≤ 3
 cash : l.kind = 0 → l.under = 0 ∧ l.strike = 0
 under : l.kind ≠ 0 → 1 ≤ l.under ∧ l.under ≤ 4
 strike : l.strike ≤ TOP
 qlo : -1000000000000000 ≤ l.qty
 qhi : l.qty ≤ 1000000000000000
structure BoxOk (x : Box) : Prop where
 len : x.length = 4
 at_ : ∀ y ∈ x,y.1 ≤ y.2 ∧ y.2 ≤ TOP
theorem BoxOk.range {x : Box} (h : BoxOk x) {u : Nat} (hu : u < 4) : (rangeOf x (u + 1)).1 ≤ (rangeOf x (u + 1)).2 ∧ (rangeOf x (u + 1)).2 ≤ TOP:=by
 have hl:=h.len
 have e : rangeOf x (u + 1) = x[u]'(by omega):=by
  unfold rangeOf
  rw [Nat.add_sub_cancel,List.getD_eq_getElem?_getD,List.getElem?_eq_getElem (by omega)]; rfl
 rw [e]
 exact h.at_ _ (List.getElem_mem _)
def cashOf (b : Book) : Int:=((b.filter fun l=>l.kind == 0).map fun l=>l.qty).sum
theorem worth_sum (b : Book) (p : Prices) : worth b p = (b.map (legWorth p)).sum:=by unfold worth; rw [total_eq]
theorem on_cons (l : Leg) (r : Book) (u : Nat) : on (l :: r) u = if (l.kind != 0 && l.under == u) = true then l :: on r u else on r u:=by
 unfold on; rw [List.filter_cons]
theorem worth_parts : ∀ {b : Book},(∀ l ∈ b,LegOk l) → ∀ p : Prices,worth b p = cashOf b + (W (on b 1) (priceOf p 1) + W (on b 2) (priceOf p 2) + W (on b 3) (priceOf p 3) + W (on b 4) (priceOf p 4))
 | [],_,p=>by simp [worth,total,cashOf,W,on]
 | l :: r,h,p=>by
  have ih:=worth_parts (b:=r) (fun x hx=>h x (List.mem_cons_of_mem _ hx)) p
  have hl:=h l List.mem_cons_self
  rw [worth_sum] at ih ⊢
  rw [List.map_cons,List.sum_cons,ih]
  obtain ⟨q,kd,u,k⟩:=l
  by_cases hk : kd = 0
  ·subst hk
   have e : ∀ v,on (⟨q,0,u,k⟩ :: r) v = on r v:=fun v=>by rw [on_cons]; simp
   rw [e,e,e,e]
   have e2 : cashOf (⟨q,0,u,k⟩ :: r) = q + cashOf r:=by simp [cashOf]
   rw [e2]
   show q * 1 + _ = _
   omega
  ·have e2 : cashOf (⟨q,kd,u,k⟩ :: r) = cashOf r:=by simp [cashOf,hk]
   obtain ⟨h1,h4⟩:=hl.under hk
   simp only at h1 h4
   have ep : ∀ v,v ≠ u → on (⟨q,kd,u,k⟩ :: r) v = on r v:=fun v hv=>by rw [on_cons]; simp [Ne.symm hv]
   have eu : on (⟨q,kd,u,k⟩ :: r) u = ⟨q,kd,u,k⟩ :: on r u:=by rw [on_cons]; simp [hk]
   have ew : legWorth p ⟨q,kd,u,k⟩ + W (on r u) (priceOf p u) = W (on (⟨q,kd,u,k⟩ :: r) u) (priceOf p u):=by rw [eu,W_cons]; rfl
   rw [e2]
   rcases (show u = 1 ∨ u = 2 ∨ u = 3 ∨ u = 4 by omega) with rfl | rfl | rfl | rfl
   ·rw [← ew,ep 2 (by decide),ep 3 (by decide),ep 4 (by decide)]; omega
   ·rw [← ew,ep 1 (by decide),ep 3 (by decide),ep 4 (by decide)]; omega
   ·rw [← ew,ep 1 (by decide),ep 2 (by decide),ep 4 (by decide)]; omega
   ·rw [← ew,ep 1 (by decide),ep 2 (by decide),ep 3 (by decide)]; omega
theorem worth_app (a b : Book) (p : Prices) : worth (a ++ b) p = worth a p + worth b p:=by simp only [worth_sum,List.map_append,sum_app]
theorem loss_one (now : Prices) (m : Member) (p : Prices) : lossAt now [m] p = worth m.book now - worth m.book p - m.margin:=by
 simp [lossAt,together,margins,total]
theorem loss_cons (now : Prices) (m : Member) (r : List Member) (p : Prices) : lossAt now (m :: r) p = lossAt now [m] p + lossAt now r p:=by
 rw [loss_one]
 unfold lossAt
 have e1 : together (m :: r) = m.book ++ together r:=rfl
 have e2 : margins (m :: r) = m.margin + margins r:=by unfold margins; rw [total_eq,total_eq,List.map_cons,List.sum_cons]
 rw [e1,e2,worth_app,worth_app]; omega
theorem loss_nil (now : Prices) (p : Prices) : lossAt now [] p = 0:=by simp [lossAt,together,margins,total,worth]
theorem loss_app (now : Prices) (a b : List Member) (p : Prices) : lossAt now (a ++ b) p = lossAt now a p + lossAt now b p:=by
 induction a with
 | nil=>rw [loss_nil,List.nil_append]; omega
 | cons m r ih=>rw [List.cons_append,loss_cons,ih,loss_cons now m r]; omega
structure StandOf (now : Prices) (ms : List Member) (l0 : Int) (cs : List (Int × List (Int × Int))) : Prop where
 loss : l0 = lossAt now ms [0,0,0,0]
 len : cs.length = 4
 curve : ∀ (u : Nat) (c : Int × List (Int × Int)),cs[u]? = some c → CurveOf (on (together ms) (u + 1)) c.1 c.2
def cAt (cs : List (Int × List (Int × Int))) (u : Nat) : Int × List (Int × Int):=cs.getD u (0,[])
def wbox (cs : List (Int × List (Int × Int))) (x : Box) (u : Nat) : Int × Int:=worstP (cAt cs u).1 (cAt cs u).2 (rangeOf x (u + 1)).1 (rangeOf x (u + 1)).2
theorem StandOf.at_ {now : Prices} {ms : List Member} {l0 : Int} {cs : List (Int × List (Int × Int))} (S : StandOf now ms l0 cs) {u : Nat} (hu : u < 4) : CurveOf (on (together ms) (u + 1)) (cAt cs u).1 (cAt cs u).2:=by
 have hl:=S.len
 refine S.curve u _ ?_
 unfold cAt
 rw [List.getD_eq_getElem?_getD,List.getElem?_eq_getElem (by omega)]; rfl
theorem wbox_ok {now : Prices} {ms : List Member} {l0 : Int} {cs : List (Int × List (Int × Int))} (S : StandOf now ms l0 cs) {x : Box} (hx : BoxOk x) {u : Nat} (hu : u < 4) :
  wbox cs x u = (W (on (together ms) (u + 1)) (priceOf (worstAt (together ms) x) (u + 1)) - W (on (together ms) (u + 1)) 0,((priceOf (worstAt (together ms) x) (u + 1) : Nat) : Int)):=by
 have hr:=hx.range hu
 have e : priceOf (worstAt (together ms) x) (u + 1) = leastIn (formOf (together ms) (u + 1)) (rangeOf x (u + 1)).1 (rangeOf x (u + 1)).2:=by
  match u,hu with
  | 0,_=>rfl
  | 1,_=>rfl
  | 2,_=>rfl
  | 3,_=>rfl
 rw [e]
 exact worst_ok (S.at_ hu) hr.1 hr.2
theorem need_ok {now : Prices} {ms : List Member} {l0 : Int} {cs : List (Int × List (Int × Int))} (S : StandOf now ms l0 cs) (hl : ∀ l ∈ together ms,LegOk l) {x : Box} (hx : BoxOk x) :
  l0 - ((List.range 4).map fun u=>(wbox cs x u).1).sum = lossAt now ms (worstAt (together ms) x) ∧ ((List.range 4).map fun u=>(wbox cs x u).2) = Vbchai.ints (worstAt (together ms) x):=by
 have er : List.range 4 = [0,1,2,3]:=rfl
 rw [er]
 simp only [List.map_cons,List.map_nil,List.sum_cons,List.sum_nil]
 rw [wbox_ok S hx (show 0 < 4 by decide),wbox_ok S hx (show 1 < 4 by decide),wbox_ok S hx (show 2 < 4 by decide),wbox_ok S hx (show 3 < 4 by decide)]
 refine ⟨?_,rfl⟩
 rw [S.loss]
 unfold lossAt
 rw [worth_parts hl [0,0,0,0],worth_parts hl (worstAt (together ms) x)]
 have z : ∀ u,1 ≤ u → u ≤ 4 → priceOf [0,0,0,0] u = 0:=fun u h1 h2=>by
  rcases (show u = 1 ∨ u = 2 ∨ u = 3 ∨ u = 4 by omega) with rfl | rfl | rfl | rfl <;> rfl
 rw [z 1 (by decide) (by decide),z 2 (by decide) (by decide),z 3 (by decide) (by decide),z 4 (by decide) (by decide)]
 simp only [Nat.reduceAdd]
 omega
theorem on_app (a b : Book) (u : Nat) : on (a ++ b) u = on a u ++ on b u:=by simp [on]
theorem bendsOf_app (a b : List Leg) : bendsOf (a ++ b) = bendsOf a ++ bendsOf b:=by simp [bendsOf]
theorem join_curve {now : Prices} {u : Nat} (hu : u < 4) {ms : List Member} {ss : List (Int × List (Int × List (Int × Int)))} (h : All2 (fun m s=>StandOf now [m] s.1 s.2) ms ss) :
  (ss.map fun s=>(cAt s.2 u).1).sum = ((on (together ms) (u + 1)).map slopeOf).sum ∧ (ss.flatMap fun s=>(cAt s.2 u).2).Perm (bendsOf (on (together ms) (u + 1))):=by
 induction h with
 | nil=>exact ⟨rfl,.refl _⟩
 | cons h t ih =>
  rename_i m s r ss
  have hc:=h.at_ hu
  have e0 : together [m] = m.book:=by simp [together]
  rw [e0] at hc
  have e1 : together (m :: r) = m.book ++ together r:=rfl
  rw [e1,on_app,List.map_append,sum_app,List.map_cons,List.sum_cons,ih.1,hc.slope,List.flatMap_cons,bendsOf_app]
  exact ⟨rfl,hc.bends.append ih.2⟩
theorem join_loss {now : Prices} {ms : List Member} {ss : List (Int × List (Int × List (Int × Int)))} (h : All2 (fun m s=>StandOf now [m] s.1 s.2) ms ss) : (ss.map fun s=>s.1).sum = lossAt now ms [0,0,0,0]:=by
 induction h with
 | nil=>rw [loss_nil]; rfl
 | cons h t ih=>rw [loss_cons,List.map_cons,List.sum_cons,ih,h.loss]
theorem join_ok {now : Prices} {ms : List Member} {ss : List (Int × List (Int × List (Int × Int)))} (h : All2 (fun m s=>StandOf now [m] s.1 s.2) ms ss) {cs : List (Int × List (Int × Int))} (hl : cs.length = 4)
  (hc : ∀ u c,cs[u]? = some c → c.1 = (ss.map fun s=>(cAt s.2 u).1).sum ∧ c.2.Perm (ss.flatMap fun s=>(cAt s.2 u).2) ∧ Rise c.2) : StandOf now ms (ss.map fun s=>s.1).sum cs:=by
 refine ⟨join_loss h,hl,fun u c e=>?_⟩
 have hu : u < 4:=by
  have:=(List.getElem?_eq_some_iff.mp e).1
  omega
 obtain ⟨h1,h2,h3⟩:=hc u c e
 obtain ⟨j1,j2⟩:=join_curve hu h
 exact ⟨by rw [h1,j1],h2.trans j2,h3⟩
theorem one_ok {now : Prices} {m : Member} {cs : List (Int × List (Int × Int))} (hl : cs.length = 4) (hc : ∀ u c,cs[u]? = some c → CurveOf (on m.book (u + 1)) c.1 c.2) : StandOf now [m] (lossAt now [m] [0,0,0,0]) cs :=
 ⟨rfl,hl,fun u c e=>by rw [show together [m] = m.book by simp [together]]; exact hc u c e⟩
def toldMost (ms : List Member) (r : Int × Option Scene) : List Int:=r.1 :: whereTold ms r.2
theorem most_snoc (now : Prices) (ms : List Member) (x : Scene) : ∀ (pre : List Scene) (m : Int) (s : Option Scene),most now ms m s (pre ++ [x]) =
  (if (most now ms m s pre).1 < lossAt now ms (worstAt (together ms) x.box) then (lossAt now ms (worstAt (together ms) x.box),some x) else most now ms m s pre)
 | [],m,s=>by
  simp only [List.nil_append,most]
  rfl
 | y :: r,m,s=>by
  simp only [List.cons_append,most]
  split
  ·exact most_snoc now ms x r _ _
  ·exact most_snoc now ms x r _ _
theorem toldMost_snoc (now : Prices) (ms : List Member) (x : Scene) (pre : List Scene) : toldMost ms (most now ms 0 none (pre ++ [x])) =
  (if (most now ms 0 none pre).1 < lossAt now ms (worstAt (together ms) x.box) then lossAt now ms (worstAt (together ms) x.box) :: (x.key : Int) :: Vbchai.ints (worstAt (together ms) x.box) else toldMost ms (most now ms 0 none pre)):=by
 rw [most_snoc]
 split <;> rfl
theorem worstSet_snoc (s : State) (l : List Member) : ∀ (pre : List (List Member)) (n : Need),worstSet s n (pre ++ [l]) =
  (if (worstSet s n pre).amount < (uncovered s l).1 then { amount:=(uncovered s l).1,who:=l,scene:=(uncovered s l).2 } else worstSet s n pre)
 | [],n=>by
  simp only [List.nil_append,worstSet]
  rfl
 | y :: r,n=>by
  simp only [List.cons_append,worstSet]
  split
  ·exact worstSet_snoc s l r _
  ·exact worstSet_snoc s l r _
def isAfter (c : List Member) (w : Member) : Bool:=match c.getLast? with
 | none=>true
 | some x=>decide (x.who < w.who)
def ext (l : List Member) (c : List Member) : List (List Member):=(l.filter (isAfter c)).map fun w=>c ++ [w]
abbrev Asc (l : List Member) : Prop:=l.Pairwise fun x y=>x.who < y.who
theorem sets_mem : ∀ {n : Nat} {l c : List Member},c ∈ sets n l → c.length = n ∧ ∀ x ∈ c,x ∈ l
 | 0,l,c,h=>by
  rw [sets,List.mem_singleton] at h
  subst h
  exact ⟨rfl,fun x hx=>by cases hx⟩
 | n + 1,[],c,h=>by rw [sets] at h; cases h
 | n + 1,m :: r,c,h=>by
  rw [sets] at h
  rcases List.mem_append.mp h with h | h
  ·obtain ⟨d,hd,rfl⟩:=List.mem_map.mp h
   obtain ⟨h1,h2⟩:=sets_mem hd
   refine ⟨by simp [h1],fun x hx=>?_⟩
   rcases List.mem_cons.mp hx with rfl | hx
   ·exact List.mem_cons_self
   ·exact List.mem_cons_of_mem _ (h2 x hx)
  ·obtain ⟨h1,h2⟩:=sets_mem h
   exact ⟨h1,fun x hx=>List.mem_cons_of_mem _ (h2 x hx)⟩
theorem ext_cons_skip {m : Member} {r c : List Member} (h : isAfter c m = false) : ext (m :: r) c = ext r c:=by
 unfold ext; rw [List.filter_cons,if_neg (by simp [h])]
theorem ext_head {m : Member} {r c : List Member} (hm : ∀ x ∈ r,m.who < x.who) (hc : ∀ x ∈ c,x ∈ r) : ext (m :: r) (m :: c) = (ext r c).map fun l=>m :: l:=by
 have e1 : isAfter (m :: c) m = false:=by
  unfold isAfter
  cases h : c.getLast? with
  | none =>
   rw [List.getLast?_eq_none_iff] at h
   subst h
   simp
  | some x =>
   have hx : x ∈ c:=List.mem_of_getLast? h
   have:=hm x (hc x hx)
   rw [List.getLast?_cons,h]
   simp; omega
 rw [ext_cons_skip e1]
 unfold ext
 rw [List.map_map]
 have e2 : r.filter (isAfter (m :: c)) = r.filter (isAfter c):=by
  apply List.filter_congr
  intro x hx
  unfold isAfter
  cases h : c.getLast? with
  | none =>
   rw [List.getLast?_eq_none_iff] at h
   subst h
   have:=hm x hx
   simpa using this
  | some y=>rw [List.getLast?_cons,h]; simp
 rw [e2]
 apply List.map_congr_left
 intro x _
 rfl
theorem flatMap_congr' {α β : Type} {f g : α → List β} : ∀ {l : List α},(∀ x ∈ l,f x = g x) → l.flatMap f = l.flatMap g
 | [],_=>rfl
 | x :: r,h=>by rw [List.flatMap_cons,List.flatMap_cons,h x List.mem_cons_self,flatMap_congr' fun y hy=>h y (List.mem_cons_of_mem _ hy)]
theorem sets_succ : ∀ {l : List Member},Asc l → ∀ n,sets (n + 1) l = (sets n l).flatMap (ext l)
 | [],_,n=>by
  cases n with
  | zero=>simp [sets,ext]
  | succ n=>simp [sets]
 | m :: r,h,n=>by
  obtain ⟨hm,hr⟩:=List.pairwise_cons.mp h
  have ih:=sets_succ hr
  cases n with
  | zero =>
   have i0:=ih 0
   have e0 : sets (0 + 1) (m :: r) = (sets 0 r).map (fun l=>m :: l) ++ sets (0 + 1) r:=by conv=>{ lhs; rw [sets] }
   rw [e0,i0,sets,sets]
   simp only [List.flatMap_cons,List.flatMap_nil,List.append_nil]
   have e : ext (m :: r) [] = [m] :: ext r []:=by
    unfold ext
    rw [List.filter_cons,if_pos (by simp [isAfter])]
    rfl
   rw [e]; simp
  | succ n =>
   have e9 : sets (n + 1 + 1) (m :: r) = (sets (n + 1) r).map (fun l=>m :: l) ++ sets (n + 1 + 1) r:=by rw [sets]
   rw [e9,ih (n + 1)]
   have e0 : sets (n + 1) (m :: r) = (sets n r).map (fun l=>m :: l) ++ sets (n + 1) r:=by rw [sets]
   rw [e0,List.flatMap_append]
   have e1 : ((sets n r).map fun l=>m :: l).flatMap (ext (m :: r)) = ((sets n r).flatMap (ext r)).map fun l=>m :: l:=by
    rw [List.flatMap_map,List.map_flatMap]
    apply flatMap_congr'
    intro c hc
    exact ext_head hm (sets_mem hc).2
   have e2 : (sets (n + 1) r).flatMap (ext (m :: r)) = (sets (n + 1) r).flatMap (ext r):=by
    apply flatMap_congr'
    intro c hc
    obtain ⟨h1,h2⟩:=sets_mem hc
    apply ext_cons_skip
    unfold isAfter
    cases hl : c.getLast? with
    | none =>
     rw [List.getLast?_eq_none_iff] at hl
     subst hl
     simp at h1
    | some x =>
     have:=hm x (h2 x (List.mem_of_getLast? hl))
     simp; omega
   rw [e1,e2,ih n]
theorem setsTo_succ (k : Nat) (l : List Member) : setsTo (k + 1) l = setsTo k l ++ sets (k + 1) l:=by
 unfold setsTo
 rw [List.range_succ,List.flatMap_append]
 simp
end VM
namespace VM
open Vbchai
def byteAt (t : List Nat) (i : Nat) : Nat:=(t[i]?).getD 256
theorem drop_some {t : List Nat} {i c : Nat} (h : t[i]? = some c) : t.drop i = c :: t.drop (i + 1):=by
 obtain ⟨h1,h2⟩:=List.getElem?_eq_some_iff.mp h
 rw [List.drop_eq_getElem_cons h1,h2]
theorem drop_none {t : List Nat} {i : Nat} (h : t[i]? = none) : t.drop i = []:=by
 rw [List.drop_eq_nil_iff]
 exact List.getElem?_eq_none_iff.mp h
theorem byteAt_some {t : List Nat} {i c : Nat} (h : t[i]? = some c) : byteAt t i = c:=by simp [byteAt,h]
theorem byteAt_none {t : List Nat} {i : Nat} (h : t[i]? = none) : byteAt t i = 256:=by simp [byteAt,h]
theorem byteAt_cases (t : List Nat) (i : Nat) : (∃ c,t[i]? = some c ∧ byteAt t i = c ∧ t.drop i = c :: t.drop (i + 1)) ∨ (t[i]? = none ∧ byteAt t i = 256 ∧ t.drop i = []):=by
 cases h : t[i]? with
 | none=>exact .inr ⟨rfl,byteAt_none h,drop_none h⟩
 | some c=>exact .inl ⟨c,rfl,byteAt_some h,drop_some h⟩
def tkD (t : List Nat) (most : Nat) : Nat → Nat → Nat → Nat ⊕ (Nat × Nat)
 | 0,n,i=>.inr (n,i)
 | f + 1,n,i=>if 48 ≤ byteAt t i ∧ byteAt t i ≤ 57 then (if most < 10 * n + (byteAt t i - 48) then .inl i else tkD t most f (10 * n + (byteAt t i - 48)) (i + 1)) else .inr (n,i)
def tkN (t : List Nat) (most i : Nat) : Nat ⊕ (Nat × Nat):=if 49 ≤ byteAt t i ∧ byteAt t i ≤ 57 then tkD t most (t.length + 1 - i) (byteAt t i - 48) (i + 1) else .inl i
theorem isDigit_iff (c : Nat) : isDigit c = true ↔ 48 ≤ c ∧ c ≤ 57:=by simp [isDigit]
theorem tkD_end {t : List Nat} {most : Nat} : ∀ {f n i m j : Nat},t.length < i + f → n ≤ most → tkD t most f n i = .inr (m,j) → ¬ (48 ≤ byteAt t j ∧ byteAt t j ≤ 57) ∧ m ≤ most ∧ i ≤ j
 | 0,n,i,m,j,hf,hn,h=>by
  rw [tkD] at h
  cases h
  refine ⟨?_,hn,Nat.le_refl _⟩
  rw [byteAt_none (List.getElem?_eq_none_iff.mpr (by omega))]; omega
 | f + 1,n,i,m,j,hf,hn,h=>by
  rw [tkD] at h
  split at h
  ·split at h
   ·cases h
   ·have:=tkD_end (by omega) (by omega) h
    exact ⟨this.1,this.2.1,by omega⟩
  ·cases h
   rename_i h1
   exact ⟨h1,hn,Nat.le_refl _⟩
theorem lots_run {t : List Nat} {legs : Book} {neg : Bool} : ∀ {f n i : Nat},t.length < i + f → readFrom i ⟨legs,.lots neg n⟩ (t.drop i) =
  (match tkD t CASH f n i with | .inl j=>.inl j | .inr (m,j)=>readFrom j ⟨legs,.lots neg m⟩ (t.drop j))
 | 0,n,i,hf=>rfl
 | f + 1,n,i,hf=>by
  rw [tkD]
  by_cases h : 48 ≤ byteAt t i ∧ byteAt t i ≤ 57
  ·rw [if_pos h]
   rcases byteAt_cases t i with ⟨c,e1,e2,e3⟩ | ⟨e1,e2,e3⟩
   ·rw [e2] at h ⊢
    rw [e3]
    have hne : c ≠ 32:=by omega
    by_cases h2 : CASH < 10 * n + (c - 48)
    ·rw [if_pos h2]
     simp only [readFrom,byte,if_neg hne]
     rw [if_neg (by intro z; have:=z.2; unfold digitOf at this; omega)]
    ·rw [if_neg h2]
     have ih:=lots_run (t:=t) (legs:=legs) (neg:=neg) (f:=f) (n:=10 * n + (c - 48)) (i:=i + 1) (by omega)
     rw [← ih]
     simp only [readFrom,byte,if_neg hne]
     rw [if_pos ⟨(isDigit_iff c).mpr h,by unfold digitOf; omega⟩]
     rfl
   ·rw [e2] at h; omega
  ·rw [if_neg h]
theorem strike_run {t : List Nat} {legs : Book} {neg : Bool} {kd u q : Nat} : ∀ {f n i : Nat},t.length < i + f → readFrom i ⟨legs,.digits neg q kd u n⟩ (t.drop i) =
  (match tkD t TOP f n i with | .inl j=>.inl j | .inr (m,j)=>readFrom j ⟨legs,.digits neg q kd u m⟩ (t.drop j))
 | 0,n,i,hf=>rfl
 | f + 1,n,i,hf=>by
  rw [tkD]
  by_cases h : 48 ≤ byteAt t i ∧ byteAt t i ≤ 57
  ·rw [if_pos h]
   rcases byteAt_cases t i with ⟨c,e1,e2,e3⟩ | ⟨e1,e2,e3⟩
   ·rw [e2] at h ⊢
    rw [e3]
    have hne : c ≠ 32:=by omega
    by_cases h2 : TOP < 10 * n + (c - 48)
    ·rw [if_pos h2]
     simp only [readFrom,byte,if_neg hne]
     rw [if_neg (by intro z; have:=z.2; unfold digitOf at this; omega)]
    ·rw [if_neg h2]
     have ih:=strike_run (t:=t) (legs:=legs) (neg:=neg) (kd:=kd) (u:=u) (q:=q) (f:=f) (n:=10 * n + (c - 48)) (i:=i + 1) (by omega)
     rw [← ih]
     simp only [readFrom,byte,if_neg hne]
     rw [if_pos ⟨(isDigit_iff c).mpr h,by unfold digitOf; omega⟩]
     rfl
   ·rw [e2] at h; omega
  ·rw [if_neg h]
def afterLeg (t : List Nat) (j : Nat) (legs : Book) : Nat ⊕ Book:=match t.drop j with
 | []=>.inr legs
 | c :: r=>if c = 32 then readFrom (j + 1) ⟨legs,.behind⟩ r else .inl j
theorem afterLeg_end {t : List Nat} {j : Nat} {legs : Book} (h : t[j]? = none) : afterLeg t j legs = .inr legs:=by unfold afterLeg; rw [drop_none h]
theorem afterLeg_some {t : List Nat} {j c : Nat} {legs : Book} (h : t[j]? = some c) : afterLeg t j legs = if c = 32 then readFrom (j + 1) ⟨legs,.behind⟩ (t.drop (j + 1)) else .inl j:=by unfold afterLeg; rw [drop_some h]
theorem behind_eq {t : List Nat} {i : Nat} {legs : Book} : readFrom i ⟨legs,.behind⟩ (t.drop i) = if byteAt t i = 43 ∨ byteAt t i = 45 then readFrom (i + 1) ⟨legs,.plus (byteAt t i == 45)⟩ (t.drop (i + 1)) else .inl i:=by
 rcases byteAt_cases t i with ⟨c,e1,e2,e3⟩ | ⟨e1,e2,e3⟩
 ·rw [e2,e3]
  simp only [readFrom,byte]
  split <;> rename_i h <;> split at h <;> simp_all
 ·rw [e2,e3]; rfl
theorem plus_eq {t : List Nat} {i : Nat} {legs : Book} {neg : Bool} : readFrom i ⟨legs,.plus neg⟩ (t.drop i) = if byteAt t i = 32 then readFrom (i + 1) ⟨legs,.next neg⟩ (t.drop (i + 1)) else .inl i:=by
 rcases byteAt_cases t i with ⟨c,e1,e2,e3⟩ | ⟨e1,e2,e3⟩
 ·rw [e2,e3]
  simp only [readFrom,byte]
  split <;> rename_i h <;> split at h <;> simp_all
 ·rw [e2,e3]; rfl
theorem next_eq {t : List Nat} {i : Nat} {legs : Book} {neg : Bool} : readFrom i ⟨legs,.next neg⟩ (t.drop i) = if 49 ≤ byteAt t i ∧ byteAt t i ≤ 57 then readFrom (i + 1) ⟨legs,.lots neg (byteAt t i - 48)⟩ (t.drop (i + 1)) else .inl i:=by
 rcases byteAt_cases t i with ⟨c,e1,e2,e3⟩ | ⟨e1,e2,e3⟩
 ·rw [e2,e3]
  simp only [readFrom,byte,begun]
  by_cases h : 49 ≤ c ∧ c ≤ 57
  ·rw [if_pos h,if_pos ⟨(isDigit_iff c).mpr (by omega),by omega⟩]; rfl
  ·rw [if_neg h,if_neg (by rw [isDigit_iff]; omega)]
 ·rw [e2,e3]; rfl
def tkJoint (t : List Nat) (i : Nat) : Nat ⊕ (Bool × Nat) :=
 if byteAt t i = 32 then (if byteAt t (i + 1) = 45 then (if byteAt t (i + 2) = 32 then .inr (true,i + 3) else .inl (i + 2)) else if byteAt t (i + 1) = 43 then (if byteAt t (i + 2) = 32 then .inr (false,i + 3) else .inl (i + 2)) else .inl (i + 1)) else .inl i
theorem joint_ok {t : List Nat} {i : Nat} {legs : Book} (hi : i < t.length) : afterLeg t i legs = (match tkJoint t i with | .inl e=>.inl e | .inr (neg,e)=>readFrom e ⟨legs,.next neg⟩ (t.drop e)):=by
 rcases byteAt_cases t i with ⟨c,e1,e2,e3⟩ | ⟨e1,e2,e3⟩
 ·rw [afterLeg_some e1]
  unfold tkJoint
  rw [e2,behind_eq]
  by_cases h1 : c = 32
  ·rw [if_pos h1,if_pos h1]
   by_cases h2 : byteAt t (i + 1) = 45
   ·rw [if_pos (.inr h2),if_pos h2,plus_eq,h2]
    split <;> rfl
   ·rw [if_neg h2]
    by_cases h3 : byteAt t (i + 1) = 43
    ·rw [if_pos (.inl h3),if_pos h3,plus_eq,h3]
     split <;> rfl
    ·rw [if_neg (by omega),if_neg h3]
  ·rw [if_neg h1,if_neg h1]
 ·rw [List.getElem?_eq_none_iff] at e1; omega
def tkS (t : List Nat) (i : Nat) : Nat ⊕ (Nat × Nat):=if byteAt t i = 48 then .inr (0,i + 1) else tkN t TOP i
def tkLeg (t : List Nat) (neg : Bool) (i : Nat) : Nat ⊕ (Leg × Nat):=match tkN t CASH i with
 | .inl j=>.inl j
 | .inr (n,j)=>if byteAt t j = 32 ∧ n ≤ LOTS ∧ kindOf (byteAt t (j + 1)) ≠ 0 then
   (if 49 ≤ byteAt t (j + 2) ∧ byteAt t (j + 2) ≤ 52 then
    (if byteAt t (j + 3) = 64 then (match tkS t (j + 4) with | .inl e=>.inl e | .inr (k,e)=>.inr (⟨signed neg n,kindOf (byteAt t (j + 1)),byteAt t (j + 2) - 48,k⟩,e))
    else .inl (j + 3))
   else .inl (j + 2))
  else .inr (⟨signed neg n,0,0,0⟩,j)
theorem kindOf_256 : kindOf 256 = 0:=rfl
theorem lots_cash {t : List Nat} {j n : Nat} {neg : Bool} {legs : Book} (hd : ¬ (48 ≤ byteAt t j ∧ byteAt t j ≤ 57)) (h : ¬ (byteAt t j = 32 ∧ n ≤ LOTS ∧ kindOf (byteAt t (j + 1)) ≠ 0)) :
  readFrom j ⟨legs,.lots neg n⟩ (t.drop j) = afterLeg t j (legs ++ [⟨signed neg n,0,0,0⟩]):=by
 rcases byteAt_cases t j with ⟨c,e1,e2,e3⟩ | ⟨e1,e2,e3⟩
 ·rw [afterLeg_some e1,e3]
  rw [e2] at hd h
  by_cases h1 : c = 32
  ·rw [if_pos h1,behind_eq]
   simp only [readFrom,byte,if_pos h1]
   rcases byteAt_cases t (j + 1) with ⟨d,f1,f2,f3⟩ | ⟨f1,f2,f3⟩
   ·rw [f3,f2]
    rw [f2] at h
    simp only [readFrom,byte]
    by_cases h2 : d = 43 ∨ d = 45
    ·rw [if_pos h2,if_pos h2]
    ·rw [if_neg h2,if_neg h2,if_neg (by intro z; exact h ⟨h1,z.2,z.1⟩)]
   ·rw [f3,f2]; rfl
  ·rw [if_neg h1]
   simp only [readFrom,byte,if_neg h1]
   rw [if_neg (by rw [isDigit_iff]; intro z; exact hd z.1)]
 ·rw [afterLeg_end e1,e3]; rfl
theorem strike_zero {t : List Nat} {j n kd u : Nat} {neg : Bool} {legs : Book} : readFrom j ⟨legs,.zeroStrike neg n kd u⟩ (t.drop j) = afterLeg t j (legs ++ [⟨signed neg n,kd,u,0⟩]):=by
 rcases byteAt_cases t j with ⟨c,e1,e2,e3⟩ | ⟨e1,e2,e3⟩
 ·rw [afterLeg_some e1,e3]
  simp only [readFrom,byte]
  by_cases h1 : c = 32
  ·rw [if_pos h1,if_pos h1]
  ·rw [if_neg h1,if_neg h1]
 ·rw [afterLeg_end e1,e3]; rfl
theorem strike_end {t : List Nat} {j n kd u k : Nat} {neg : Bool} {legs : Book} (hd : ¬ (48 ≤ byteAt t j ∧ byteAt t j ≤ 57)) : readFrom j ⟨legs,.digits neg n kd u k⟩ (t.drop j) = afterLeg t j (legs ++ [⟨signed neg n,kd,u,k⟩]):=by
 rcases byteAt_cases t j with ⟨c,e1,e2,e3⟩ | ⟨e1,e2,e3⟩
 ·rw [afterLeg_some e1,e3]
  rw [e2] at hd
  simp only [readFrom,byte]
  by_cases h1 : c = 32
  ·rw [if_pos h1,if_pos h1]
  ·rw [if_neg h1,if_neg h1,if_neg (by rw [isDigit_iff]; intro z; exact hd z.1)]
 ·rw [afterLeg_end e1,e3]; rfl
theorem le_of_drop {t : List Nat} {i : Nat} (h : byteAt t i ≠ 256) : i < t.length:=by
 rcases byteAt_cases t i with ⟨c,e1,e2,e3⟩ | ⟨e1,e2,e3⟩
 ·exact (List.getElem?_eq_some_iff.mp e1).1
 ·exact absurd e2 h
theorem strike_ok {t : List Nat} {i n kd u : Nat} {neg : Bool} {legs : Book} : readFrom i ⟨legs,.strike neg n kd u⟩ (t.drop i) =
  (match tkS t i with | .inl e=>.inl e | .inr (k,e)=>afterLeg t e (legs ++ [⟨signed neg n,kd,u,k⟩])):=by
 unfold tkS
 rcases byteAt_cases t i with ⟨c,e1,e2,e3⟩ | ⟨e1,e2,e3⟩
 ·rw [e2,e3]
  have hi:=(List.getElem?_eq_some_iff.mp e1).1
  by_cases h : c = 48
  ·rw [if_pos h]
   simp only [readFrom,byte,if_pos h]
   exact strike_zero
  ·rw [if_neg h]
   simp only [readFrom,byte,if_neg h]
   unfold tkN
   rw [e2]
   by_cases hc : 49 ≤ c ∧ c ≤ 57
   ·rw [if_pos hc,if_pos ((isDigit_iff c).mpr (by omega))]
    have hr:=strike_run (t:=t) (legs:=legs) (neg:=neg) (kd:=kd) (u:=u) (q:=n) (f:=t.length + 1 - i) (n:=c - 48) (i:=i + 1) (by omega)
    show readFrom (i + 1) ⟨legs,.digits neg n kd u (c - 48)⟩ (t.drop (i + 1)) = _
    rw [hr]
    cases hm : tkD t TOP (t.length + 1 - i) (c - 48) (i + 1) with
    | inl j=>rfl
    | inr x =>
     obtain ⟨m,j⟩:=x
     exact strike_end (tkD_end (by omega) (show c - 48 ≤ TOP by show _ ≤ 1000000; omega) hm).1
   ·rw [if_neg hc,if_neg (by rw [isDigit_iff]; omega)]
 ·rw [e2,e3,if_neg (by decide)]
  unfold tkN
  rw [e2]; rfl
theorem leg_ok {t : List Nat} {i : Nat} {neg : Bool} {legs : Book} : readFrom i ⟨legs,.next neg⟩ (t.drop i) =
  (match tkLeg t neg i with | .inl e=>.inl e | .inr (l,e)=>afterLeg t e (legs ++ [l])):=by
 rw [next_eq]
 unfold tkLeg tkN
 by_cases hc : 49 ≤ byteAt t i ∧ byteAt t i ≤ 57
 ·have hi : i < t.length:=le_of_drop (by omega)
  rw [if_pos hc,if_pos hc,lots_run (f:=t.length + 1 - i) (by omega)]
  cases hm : tkD t CASH (t.length + 1 - i) (byteAt t i - 48) (i + 1) with
  | inl j=>rfl
  | inr x =>
   obtain ⟨n,j⟩:=x
   have hd:=(tkD_end (by omega) (show byteAt t i - 48 ≤ CASH by show _ ≤ 1000000000000000; omega) hm).1
   show readFrom j ⟨legs,.lots neg n⟩ (t.drop j) = (match (if byteAt t j = 32 ∧ n ≤ LOTS ∧ kindOf (byteAt t (j + 1)) ≠ 0 then _ else _ : Nat ⊕ (Leg × Nat)) with | .inl e=>.inl e | .inr (l,e)=>afterLeg t e (legs ++ [l]))
   by_cases h : byteAt t j = 32 ∧ n ≤ LOTS ∧ kindOf (byteAt t (j + 1)) ≠ 0
   ·rw [if_pos h]
    obtain ⟨h1,h2,h3⟩:=h
    rcases byteAt_cases t j with ⟨c,e1,e2,e3⟩ | ⟨e1,e2,e3⟩
    ·rw [h1] at e2
     subst e2
     rcases byteAt_cases t (j + 1) with ⟨d,f1,f2,f3⟩ | ⟨f1,f2,f3⟩
     ·rw [f2] at h3 ⊢
      have hk : ¬ (d = 43 ∨ d = 45):=by
       intro z
       rcases z with z | z <;> (subst z; exact h3 rfl)
      have s1 : readFrom j ⟨legs,.lots neg n⟩ (t.drop j) = readFrom (j + 2) ⟨legs,.letter neg n (kindOf d)⟩ (t.drop (j + 2)):=by
       rw [e3,f3]
       simp only [readFrom,byte,if_true,if_neg hk]
       rw [if_pos ⟨h3,h2⟩]
      rw [s1]
      rcases byteAt_cases t (j + 2) with ⟨a,g1,g2,g3⟩ | ⟨g1,g2,g3⟩
      ·rw [g2]
       by_cases h4 : 49 ≤ a ∧ a ≤ 52
       ·rw [if_pos h4]
        have s2 : readFrom (j + 2) ⟨legs,.letter neg n (kindOf d)⟩ (t.drop (j + 2)) = readFrom (j + 3) ⟨legs,.under neg n (kindOf d) (a - 48)⟩ (t.drop (j + 3)):=by
         rw [g3]
         simp only [readFrom,byte,if_pos h4]
         rfl
        rw [s2]
        rcases byteAt_cases t (j + 3) with ⟨b,k1,k2,k3⟩ | ⟨k1,k2,k3⟩
        ·rw [k2]
         by_cases h5 : b = 64
         ·rw [if_pos h5]
          have s3 : readFrom (j + 3) ⟨legs,.under neg n (kindOf d) (a - 48)⟩ (t.drop (j + 3)) = readFrom (j + 4) ⟨legs,.strike neg n (kindOf d) (a - 48)⟩ (t.drop (j + 4)):=by
           rw [k3]
           simp only [readFrom,byte,if_pos h5]
          rw [s3,strike_ok]
          cases tkS t (j + 4) with
          | inl e=>rfl
          | inr x=>rfl
         ·rw [if_neg h5,k3]
          simp only [readFrom,byte,if_neg h5]
        ·rw [k2,k3,if_neg (by decide)]; rfl
       ·rw [if_neg h4,g3]
        simp only [readFrom,byte,if_neg h4]
      ·rw [g2,g3,if_neg (by decide)]; rfl
     ·rw [f2] at h3; exact absurd kindOf_256 h3
    ·rw [h1] at e2; cases e2
   ·rw [if_neg h]
    exact lots_cash hd h
 ·rw [if_neg hc,if_neg hc]
theorem kindOf_le (c : Nat) : kindOf c ≤ 3:=by unfold kindOf; repeat (split <;> try decide)
theorem tkN_le {t : List Nat} {most i n j : Nat} (hm : 9 ≤ most) (h : tkN t most i = .inr (n,j)) : n ≤ most ∧ i < j ∧ i < t.length:=by
 unfold tkN at h
 split at h
 ·rename_i hc
  have:=tkD_end (f:=t.length + 1 - i) (by have:=le_of_drop (t:=t) (i:=i) (by omega); omega) (by omega) h
  exact ⟨this.2.1,by omega,le_of_drop (by omega)⟩
 ·cases h
theorem tkLeg_ok {t : List Nat} {neg : Bool} {i e : Nat} {l : Leg} (h : tkLeg t neg i = .inr (l,e)) : LegOk l ∧ i < e:=by
 unfold tkLeg at h
 cases hn : tkN t CASH i with
 | inl j=>rw [hn] at h; cases h
 | inr x =>
  obtain ⟨n,j⟩:=x
  rw [hn] at h
  have h0:=tkN_le (show 9 ≤ CASH by decide) hn
  have hs : -1000000000000000 ≤ signed neg n ∧ signed neg n ≤ 1000000000000000:=by
   have : n ≤ 1000000000000000:=h0.1
   unfold signed
   split <;> omega
  dsimp only at h
  split at h
  ·rename_i hc
   split at h
   ·rename_i hu
    split at h
    ·cases hk : tkS t (j + 4) with
     | inl e=>rw [hk] at h; cases h
     | inr y =>
      obtain ⟨k,e'⟩:=y
      rw [hk] at h
      cases h
      have hk2 : k ≤ TOP ∧ j + 4 ≤ e:=by
       unfold tkS at hk
       split at hk
       ·cases hk; exact ⟨Nat.zero_le _,by omega⟩
       ·have:=tkN_le (show 9 ≤ TOP by decide) hk
        exact ⟨this.1,by omega⟩
      exact ⟨⟨kindOf_le _,fun z=>absurd z hc.2.2,fun _=>⟨by show 1 ≤ _ - 48; omega,by show _ - 48 ≤ 4; omega⟩,hk2.1,hs.1,hs.2⟩,by omega⟩
    ·cases h
   ·cases h
  ·cases h
   exact ⟨⟨Nat.zero_le _,fun _=>⟨rfl,rfl⟩,fun z=>absurd rfl z,Nat.zero_le _,hs.1,hs.2⟩,h0.2.1⟩
theorem tkD_len {t : List Nat} {most : Nat} : ∀ {f n i m j : Nat},i ≤ t.length → tkD t most f n i = .inr (m,j) → j ≤ t.length
 | 0,n,i,m,j,hi,h=>by rw [tkD] at h; cases h; exact hi
 | f + 1,n,i,m,j,hi,h=>by
  rw [tkD] at h
  split at h
  ·rename_i hd
   split at h
   ·cases h
   ·exact tkD_len (Nat.succ_le_of_lt (le_of_drop (by omega))) h
  ·cases h; exact hi
theorem tkN_len {t : List Nat} {most i n j : Nat} (h : tkN t most i = .inr (n,j)) : j ≤ t.length:=by
 unfold tkN at h
 split at h
 ·exact tkD_len (Nat.succ_le_of_lt (le_of_drop (by omega))) h
 ·cases h
theorem tkLeg_len {t : List Nat} {neg : Bool} {i e : Nat} {l : Leg} (h : tkLeg t neg i = .inr (l,e)) : e ≤ t.length:=by
 unfold tkLeg at h
 cases hn : tkN t CASH i with
 | inl j=>rw [hn] at h; cases h
 | inr x =>
  obtain ⟨n,j⟩:=x
  rw [hn] at h
  have h0:=tkN_len hn
  dsimp only at h
  split at h
  ·split at h
   ·split at h
    ·cases hk : tkS t (j + 4) with
     | inl e=>rw [hk] at h; cases h
     | inr y =>
      obtain ⟨k,e'⟩:=y
      rw [hk] at h
      cases h
      unfold tkS at hk
      split at hk
      ·rename_i h48
       cases hk
       exact Nat.succ_le_of_lt (le_of_drop (by omega))
      ·exact tkN_len hk
    ·cases h
   ·cases h
  ·cases h; exact h0
theorem read_zero {t : List Nat} (h0 : byteAt t 0 = 48) (h : t ≠ [48]) : Vbchai.read t = .inl 1:=by
 cases t with
 | nil=>cases h0
 | cons c r =>
  have : c = 48:=h0
  subst this
  cases r with
  | nil=>exact absurd rfl h
  | cons d r=>rfl
theorem read_first {t : List Nat} (h0 : byteAt t 0 ≠ 48) : Vbchai.read t = if byteAt t 0 = 45 then readFrom 1 ⟨[],.next true⟩ (t.drop 1) else readFrom 0 ⟨[],.next false⟩ (t.drop 0):=by
 unfold Vbchai.read
 rcases byteAt_cases t 0 with ⟨c,e1,e2,e3⟩ | ⟨e1,e2,e3⟩
 ·rw [e2] at h0 ⊢
  rw [show t.drop 0 = t from rfl] at e3
  rw [show t.drop 0 = t from rfl,e3]
  by_cases h : c = 45
  ·rw [if_pos h]
   simp only [readFrom,byte,if_neg h0,if_pos h]
   show readFrom 1 ⟨[],.sign⟩ (t.drop (0 + 1)) = readFrom 1 ⟨[],.next true⟩ (t.drop (0 + 1))
   rcases byteAt_cases t (0 + 1) with ⟨d,f1,f2,f3⟩ | ⟨f1,f2,f3⟩
   ·rw [f3]; simp only [readFrom,byte]
   ·rw [f3]; rfl
  ·rw [if_neg h]
   simp only [readFrom,byte,if_neg h0,if_neg h]
 ·rw [e2,if_neg (by decide)]
  rw [show t.drop 0 = t from rfl] at e3 ⊢
  rw [e3]; rfl
end VM
namespace VM
open Vbchai
section
variable {α : Type} (key : α → Nat)
abbrev Up (l : List α) : Prop:=l.Pairwise fun x y=>key x < key y
def putBy (x : α) : List α → List α
 | []=>[x]
 | y :: r=>if key x < key y then x :: y :: r else if key x = key y then x :: r else y :: putBy x r
theorem mem_putBy {x : α} : ∀ {l : List α},Up key l → ∀ y,y ∈ putBy key x l ↔ y = x ∨ (y ∈ l ∧ key y ≠ key x)
 | [],_,y=>by simp [putBy]
 | z :: r,h,y=>by
  obtain ⟨hz,hr⟩:=List.pairwise_cons.mp h
  have ih:=mem_putBy (x:=x) hr y
  unfold putBy
  split
  ·rename_i h1
   constructor
   ·intro m
    rcases List.mem_cons.mp m with rfl | m
    ·exact .inl rfl
    ·refine .inr ⟨m,?_⟩
     rcases List.mem_cons.mp m with rfl | m
     ·omega
     ·have:=hz y m; omega
   ·rintro (rfl | ⟨m,_⟩)
    ·exact List.mem_cons_self
    ·exact List.mem_cons_of_mem _ m
  ·split
   ·rename_i h1 h2
    constructor
    ·intro m
     rcases List.mem_cons.mp m with rfl | m
     ·exact .inl rfl
     ·refine .inr ⟨List.mem_cons_of_mem _ m,?_⟩
      have:=hz y m; omega
    ·rintro (rfl | ⟨m,hn⟩)
     ·exact List.mem_cons_self
     ·rcases List.mem_cons.mp m with rfl | m
      ·omega
      ·exact List.mem_cons_of_mem _ m
   ·rename_i h1 h2
    rw [List.mem_cons,ih,List.mem_cons]
    constructor
    ·rintro (rfl | rfl | ⟨m,hn⟩)
     ·exact .inr ⟨.inl rfl,by omega⟩
     ·exact .inl rfl
     ·exact .inr ⟨.inr m,hn⟩
    ·rintro (rfl | ⟨rfl | m,hn⟩)
     ·exact .inr (.inl rfl)
     ·exact .inl rfl
     ·exact .inr (.inr ⟨m,hn⟩)
theorem up_putBy {x : α} : ∀ {l : List α},Up key l → Up key (putBy key x l)
 | [],_=>by simp [putBy,Up]
 | z :: r,h=>by
  obtain ⟨hz,hr⟩:=List.pairwise_cons.mp h
  unfold putBy
  split
  ·rename_i h1
   refine List.pairwise_cons.mpr ⟨fun y hy=>?_,h⟩
   rcases List.mem_cons.mp hy with rfl | hy
   ·exact h1
   ·have:=hz y hy; omega
  ·split
   ·refine List.pairwise_cons.mpr ⟨fun y hy=>?_,hr⟩
    have:=hz y hy; omega
   ·refine List.pairwise_cons.mpr ⟨fun y hy=>?_,up_putBy hr⟩
    rcases (mem_putBy key hr y).mp hy with rfl | ⟨m,_⟩
    ·omega
    ·exact hz y m
theorem up_unique {l : List α} (h : Up key l) {x y : α} (hx : x ∈ l) (hy : y ∈ l) (e : key x = key y) : x = y:=by
 induction l with
 | nil=>cases hx
 | cons z r ih =>
  obtain ⟨hz,hr⟩:=List.pairwise_cons.mp h
  rcases List.mem_cons.mp hx with hx | hx <;> rcases List.mem_cons.mp hy with hy | hy
  ·rw [hx,hy]
  ·have:=hz y hy; rw [hx] at e; omega
  ·have:=hz x hx; rw [hy] at e; omega
  ·exact ih hr hx hy
end
theorem putMember_eq (x : Member) : ∀ l,putMember x l = putBy Member.who x l
 | []=>rfl
 | y :: r=>by unfold putMember putBy; rw [putMember_eq x r]
theorem putScene_eq (x : Scene) : ∀ l,putScene x l = putBy Scene.key x l
 | []=>rfl
 | y :: r=>by unfold putScene putBy; rw [putScene_eq x r]
theorem sorted_same {a b : List Int} (p : a.Perm b) (ha : a.Pairwise (· ≤ ·)) (hb : b.Pairwise (· ≤ ·)) : a = b:=by
 induction a generalizing b with
 | nil=>exact p.nil_eq
 | cons x r ih =>
  cases b with
  | nil=>exact absurd p.length_eq (by simp)
  | cons y q =>
   obtain ⟨hx,hr⟩:=List.pairwise_cons.mp ha
   obtain ⟨hy,hq⟩:=List.pairwise_cons.mp hb
   have e : x = y:=by
    have m1 : x ∈ y :: q:=p.mem_iff.mp List.mem_cons_self
    have m2 : y ∈ x :: r:=p.mem_iff.mpr List.mem_cons_self
    rcases List.mem_cons.mp m1 with e | m1
    ·exact e
    ·rcases List.mem_cons.mp m2 with e | m2
     ·exact e.symm
     ·have:=hx y m2
      have:=hy x m1
      omega
   subst e
   rw [ih (List.Perm.cons_inv p) hr hq]
theorem sorted_same_down {a b : List Int} (p : a.Perm b) (ha : a.Pairwise (fun x y=>y ≤ x)) (hb : b.Pairwise (fun x y=>y ≤ x)) : a = b:=by
 induction a generalizing b with
 | nil=>exact p.nil_eq
 | cons x r ih =>
  cases b with
  | nil=>exact absurd p.length_eq (by simp)
  | cons y q =>
   obtain ⟨hx,hr⟩:=List.pairwise_cons.mp ha
   obtain ⟨hy,hq⟩:=List.pairwise_cons.mp hb
   have e : x = y:=by
    have m1 : x ∈ y :: q:=p.mem_iff.mp List.mem_cons_self
    have m2 : y ∈ x :: r:=p.mem_iff.mpr List.mem_cons_self
    rcases List.mem_cons.mp m1 with e | m1
    ·exact e
    ·rcases List.mem_cons.mp m2 with e | m2
     ·exact e.symm
     ·have:=hx y m2
      have:=hy x m1
      omega
   subst e
   rw [ih (List.Perm.cons_inv p) hr hq]
theorem rising_ext {a b : List Int} (ha : a.Pairwise (· < ·)) (hb : b.Pairwise (· < ·)) (h : ∀ x,x ∈ a ↔ x ∈ b) : a = b:=by
 have na : a.Nodup:=ha.imp fun h=>by omega
 have nb : b.Nodup:=hb.imp fun h=>by omega
 exact sorted_same ((List.perm_ext_iff_of_nodup na nb).mpr h) (ha.imp fun h=>by omega) (hb.imp fun h=>by omega)
structure MemOk (m : Member) : Prop where
 lo : 1 ≤ m.who
 hi : m.who ≤ 8
 margin : m.margin ≤ CASH
 len : m.book.length ≤ 24
 legs : ∀ l ∈ m.book,LegOk l
structure Good (s : State) : Prop where
 now : s.now.length = 4
 nowT : ∀ p ∈ s.now,p ≤ TOP
 asc : Up Member.who s.members
 mem : ∀ m ∈ s.members,MemOk m
 sasc : Up Scene.key s.scenes
 scn : ∀ x ∈ s.scenes,BoxOk x.box ∧ 1 ≤ x.key ∧ x.key ≤ KEYS
 slen : s.scenes.length ≤ 6
theorem start_good : Good start:=⟨rfl,by simp [start],by simp [start,Up],by simp [start],by simp [start,Up],by simp [start],by simp [start]⟩
theorem up_len {α : Type} {key : α → Nat} : ∀ {l : List α} {a n : Nat},Up key l → (∀ x ∈ l,a ≤ key x ∧ key x < a + n) → l.length ≤ n
 | [],_,_,_,_=>Nat.zero_le _
 | x :: r,a,n,h,hb=>by
  obtain ⟨hx,hr⟩:=List.pairwise_cons.mp h
  have h1:=hb x List.mem_cons_self
  have:=up_len (a:=key x + 1) (n:=a + n - (key x + 1)) hr fun y hy=>by
   have:=hx y hy
   have:=hb y (List.mem_cons_of_mem _ hy)
   omega
  rw [List.length_cons]; omega
theorem Good.len {s : State} (g : Good s) : s.members.length ≤ 8:=up_len (a:=1) (n:=8) g.asc fun m hm=>by
 have:=g.mem m hm
 have:=this.lo; have:=(g.mem m hm).hi
 omega
theorem mem_of {s : State} {w : Int} {m : Member} (h : memberOf s w = some m) : m ∈ s.members ∧ (m.who : Int) = w:=by
 unfold memberOf at h
 exact ⟨List.mem_of_find?_eq_some h,by have:=List.find?_some h; simpa using this⟩
theorem of_mem {s : State} (g : Up Member.who s.members) {m : Member} (h : m ∈ s.members) : memberOf s (m.who : Int) = some m:=by
 cases e : memberOf s (m.who : Int) with
 | none =>
  unfold memberOf at e
  have:=List.find?_eq_none.mp e m h
  simp at this
 | some x =>
  have:=mem_of e
  rw [up_unique Member.who g this.1 h (by omega)]
theorem not_mem {s : State} {w : Int} (h : memberOf s w = none) : ∀ m ∈ s.members,(m.who : Int) ≠ w:=fun m hm e=>by
 unfold memberOf at h
 have:=List.find?_eq_none.mp h m hm
 simp at this
 exact this e
def risFrom (mem : Int → Bool) : Int → List Int → Bool
 | _,[]=>true
 | b,w :: r=>if w ≤ b then false else if mem w = true then risFrom mem w r else false
theorem ris_iff {mem : Int → Bool} : ∀ {l : List Int} {b : Int},risFrom mem b l = true ↔ (b :: l).Pairwise (· < ·) ∧ ∀ w ∈ l,mem w = true
 | [],b=>by simp [risFrom]
 | w :: r,b=>by
  have ih:=ris_iff (mem:=mem) (l:=r) (b:=w)
  unfold risFrom
  split
  ·rename_i h
   refine ⟨(fun z=>by cases z),fun ⟨z,_⟩=>?_⟩
   have:=(List.pairwise_cons.mp z).1 w List.mem_cons_self
   omega
  ·rename_i h
   split
   ·rename_i hm
    rw [ih]
    constructor
    ·rintro ⟨z1,z2⟩
     refine ⟨List.pairwise_cons.mpr ⟨fun y hy=>?_,z1⟩,fun y hy=>?_⟩
     ·rcases List.mem_cons.mp hy with rfl | hy
      ·omega
      ·have:=(List.pairwise_cons.mp z1).1 y hy; omega
     ·rcases List.mem_cons.mp hy with rfl | hy
      ·exact hm
      ·exact z2 y hy
    ·rintro ⟨z1,z2⟩
     exact ⟨(List.pairwise_cons.mp z1).2,fun y hy=>z2 y (List.mem_cons_of_mem _ hy)⟩
   ·rename_i hm
    exact ⟨(fun z=>by cases z),fun ⟨_,z⟩=>absurd (z w List.mem_cons_self) hm⟩
theorem rising_iff : ∀ {l : List Int},rising l = true ↔ l.Pairwise (· < ·)
 | []=>by simp [rising]
 | [a]=>by simp [rising]
 | a :: b :: r=>by
  have ih:=rising_iff (l:=b :: r)
  rw [rising,Bool.and_eq_true,ih]
  constructor
  ·rintro ⟨h1,h2⟩
   have h1:=of_decide_eq_true h1
   refine List.pairwise_cons.mpr ⟨fun y hy=>?_,h2⟩
   rcases List.mem_cons.mp hy with rfl | hy
   ·exact h1
   ·have:=(List.pairwise_cons.mp h2).1 y hy; omega
  ·intro h
   exact ⟨decide_eq_true ((List.pairwise_cons.mp h).1 b List.mem_cons_self),(List.pairwise_cons.mp h).2⟩
def isMem (s : State) (w : Int) : Bool:=(memberOf s w).isSome
def whos (ms : List Member) : List Int:=ms.map fun m=>(m.who : Int)
theorem up_whos {ms : List Member} (h : Up Member.who ms) : (whos ms).Pairwise (· < ·):=by
 unfold whos
 rw [List.pairwise_map]
 exact h.imp fun h=>by omega
theorem named_ok {s : State} (g : Good s) (l : List Int) : (risFrom (isMem s) 0 l = true ∧ ∃ ms,named s l = some ms ∧ l = whos ms ∧ ∀ m ∈ ms,m ∈ s.members) ∨ (risFrom (isMem s) 0 l = false ∧ named s l = none):=by
 have hp : ∀ w,isMem s w = true → 0 < w:=fun w hw=>by
  obtain ⟨m,e⟩:=Option.isSome_iff_exists.mp hw
  have:=mem_of e
  have:=(g.mem m this.1).lo
  omega
 have key : risFrom (isMem s) 0 l = true ↔ (rising l = true ∧ (l.all fun w=>(memberOf s w).isSome) = true):=by
  rw [ris_iff,rising_iff,List.all_eq_true]
  constructor
  ·rintro ⟨h1,h2⟩
   exact ⟨(List.pairwise_cons.mp h1).2,h2⟩
  ·rintro ⟨h1,h2⟩
   exact ⟨List.pairwise_cons.mpr ⟨fun w hw=>hp w (h2 w hw),h1⟩,h2⟩
 by_cases h : risFrom (isMem s) 0 l = true
 ·have h':=key.mp h
  refine .inl ⟨h,s.members.filter (fun m=>l.contains (m.who : Int)),by unfold named; rw [if_pos h'],?_,fun m hm=>(List.mem_filter.mp hm).1⟩
  rw [rising_iff,List.all_eq_true] at h'
  refine rising_ext h'.1 (up_whos (g.asc.filter _)) fun w=>?_
  unfold whos
  rw [List.mem_map]
  constructor
  ·intro hw
   obtain ⟨m,e⟩:=Option.isSome_iff_exists.mp (h'.2 w hw)
   have:=mem_of e
   exact ⟨m,List.mem_filter.mpr ⟨this.1,by rw [this.2]; simpa using hw⟩,this.2⟩
  ·rintro ⟨m,hm,rfl⟩
   simpa using (List.mem_filter.mp hm).2
 ·refine .inr ⟨by simpa using h,?_⟩
  unfold named
  rw [if_neg fun z=>h (key.mpr z)]
theorem down_ins (x : Int) : ∀ {l : List Int},(insertDown x l).Perm (x :: l) ∧ (l.Pairwise (fun a b=>b ≤ a) → (insertDown x l).Pairwise fun a b=>b ≤ a)
 | []=>by simp [insertDown]
 | y :: r=>by
  have ih:=down_ins x (l:=r)
  unfold insertDown
  split
  ·rename_i h
   refine ⟨.refl _,fun hp=>List.pairwise_cons.mpr ⟨fun z hz=>?_,hp⟩⟩
   rcases List.mem_cons.mp hz with rfl | hz
   ·omega
   ·have:=(List.pairwise_cons.mp hp).1 z hz; omega
  ·rename_i h
   refine ⟨(ih.1.cons y).trans (.swap x y r),fun hp=>List.pairwise_cons.mpr ⟨fun z hz=>?_,ih.2 (List.pairwise_cons.mp hp).2⟩⟩
   rcases List.mem_cons.mp (ih.1.mem_iff.mp hz) with rfl | hz
   ·omega
   ·exact (List.pairwise_cons.mp hp).1 z hz
theorem down_all : ∀ l : List Int,(l.foldr insertDown []).Perm l ∧ (l.foldr insertDown []).Pairwise fun a b=>b ≤ a
 | []=>by simp
 | x :: r=>by
  have ih:=down_all r
  rw [List.foldr_cons]
  exact ⟨(down_ins x).1.trans (ih.1.cons x),(down_ins x).2 ih.2⟩
theorem apart_ok {s : State} {k : Nat} {d : List Int} (p : d.Perm (s.members.map fun m=>(uncovered s [m]).1)) (h : d.Pairwise fun a b=>b ≤ a) : apartOf s k = (d.take k).sum:=by
 unfold apartOf
 have:=down_all (s.members.map fun m=>(uncovered s [m]).1)
 rw [total_eq,sorted_same_down (p.trans this.1.symm) h this.2]
def after (s : State) (cs : List (List (List Int))) : State:=cs.foldl (fun s c=>(VbchaiNeutral.step s c).1) s
theorem played_snoc (c : List (List Int)) : ∀ (cs : List (List (List Int))) (s : State),PyFlat.played VbchaiNeutral.step s (cs ++ [c]) = PyFlat.played VbchaiNeutral.step s cs ++ [(VbchaiNeutral.step (after s cs) c).2]
 | [],s=>rfl
 | d :: r,s=>by
  show (VbchaiNeutral.step s d).2 :: PyFlat.played _ _ (r ++ [c]) = _
  rw [played_snoc c r]; rfl
theorem after_snoc (c : List (List Int)) (cs : List (List (List Int))) (s : State) : after s (cs ++ [c]) = (VbchaiNeutral.step (after s cs) c).1:=by unfold after; rw [List.foldl_append]; rfl
theorem told_snoc (l : List (List Int)) (a : List Int) : PyFlat.told (l ++ [a]) = PyFlat.told l ++ ((a.length : Int) :: a):=by unfold PyFlat.told; rw [List.flatMap_append]; simp
inductive Shaped : List (List Int) → Prop
 | c0 (p : List Int) : Shaped [[0],p]
 | c1 (x m : Int) (t : List Int) : Shaped [[1,x,m],t]
 | c2 (x : Int) : Shaped [[2,x]]
 | c3 (x m : Int) : Shaped [[3,x,m]]
 | c4 (x y : Int) (t : List Int) : Shaped [[4,x,y],t]
 | c5 (k : Int) (p : List Int) : Shaped [[5,k],p]
 | c6 (k : Int) : Shaped [[6,k]]
 | c7 (p : List Int) : Shaped [[7],p]
 | c8 (k : Int) : Shaped [[8,k]]
 | c9 (k x : Int) : Shaped [[9,k,x]]
 | c10 (k x y : Int) (t : List Int) : Shaped [[10,k,x,y],t]
 | c11 (k f : Int) : Shaped [[11,k,f]]
 | c12 (l p : List Int) : Shaped [[12],l,p]
 | c13 (k : Int) : Shaped [[13,k]]
 | c14 : Shaped [[14]]
 | c15 (x : Int) : Shaped [[15,x]]
theorem ifx {P : Prop} {α : Type} {p j : Int} {u v e : α} (h : (if p = j then u else v) = e) (h1 : p = j → u = e → P) (h2 : v = e → P) : P:=by
 by_cases z : p = j
 ·rw [if_pos z] at h; exact h1 z h
 ·rw [if_neg z] at h; exact h2 h
theorem ln0 {α : Type} {l : List α} (h : 0 = l.length) : l = []:=List.eq_nil_of_length_eq_zero h.symm
theorem ln1 {α : Type} {l : List α} {n : Nat} (h : n + 1 = l.length) : ∃ x t,l = x :: t ∧ n = t.length:=by
 cases l with
 | nil=>cases h
 | cons x t=>exact ⟨x,t,rfl,Nat.succ.inj h⟩
theorem ln_1 {α : Type} {l : List α} (h : 1 = l.length) : ∃ x,l = [x]:=by
 obtain ⟨x,t,rfl,q⟩:=ln1 h
 exact ⟨x,by rw [ln0 q]⟩
theorem ln_2 {α : Type} {l : List α} (h : 2 = l.length) : ∃ x y,l = [x,y]:=by
 obtain ⟨x,t,rfl,q⟩:=ln1 h
 obtain ⟨y,rfl⟩:=ln_1 q
 exact ⟨x,y,rfl⟩
theorem ln_3 {α : Type} {l : List α} (h : 3 = l.length) : ∃ x y z,l = [x,y,z]:=by
 obtain ⟨x,t,rfl,q⟩:=ln1 h
 obtain ⟨y,z,rfl⟩:=ln_2 q
 exact ⟨x,y,z,rfl⟩
section
variable {a : List Int} {xs : List (List Int)} {P : Prop}
theorem sh01 (h : some (0,1) = some (a.length,xs.length)) : ∃ r,a = [] ∧ xs = [r]:=by
 obtain ⟨h1,h2⟩:=Prod.mk.inj (Option.some.inj h)
 obtain ⟨r,e⟩:=ln_1 h2
 exact ⟨r,ln0 h1,e⟩
theorem sh11 (h : some (1,1) = some (a.length,xs.length)) : ∃ x r,a = [x] ∧ xs = [r]:=by
 obtain ⟨h1,h2⟩:=Prod.mk.inj (Option.some.inj h)
 obtain ⟨r,e⟩:=ln_1 h2
 obtain ⟨x,e1⟩:=ln_1 h1
 exact ⟨x,r,e1,e⟩
theorem sh21 (h : some (2,1) = some (a.length,xs.length)) : ∃ x y r,a = [x,y] ∧ xs = [r]:=by
 obtain ⟨h1,h2⟩:=Prod.mk.inj (Option.some.inj h)
 obtain ⟨r,e⟩:=ln_1 h2
 obtain ⟨x,y,e1⟩:=ln_2 h1
 exact ⟨x,y,r,e1,e⟩
theorem sh31 (h : some (3,1) = some (a.length,xs.length)) : ∃ x y z r,a = [x,y,z] ∧ xs = [r]:=by
 obtain ⟨h1,h2⟩:=Prod.mk.inj (Option.some.inj h)
 obtain ⟨r,e⟩:=ln_1 h2
 obtain ⟨x,y,z,e1⟩:=ln_3 h1
 exact ⟨x,y,z,r,e1,e⟩
theorem sh10 (h : some (1,0) = some (a.length,xs.length)) : ∃ x,a = [x] ∧ xs = []:=by
 obtain ⟨h1,h2⟩:=Prod.mk.inj (Option.some.inj h)
 obtain ⟨x,e1⟩:=ln_1 h1
 exact ⟨x,e1,ln0 h2⟩
theorem sh20 (h : some (2,0) = some (a.length,xs.length)) : ∃ x y,a = [x,y] ∧ xs = []:=by
 obtain ⟨h1,h2⟩:=Prod.mk.inj (Option.some.inj h)
 obtain ⟨x,y,e1⟩:=ln_2 h1
 exact ⟨x,y,e1,ln0 h2⟩
theorem sh02 (h : some (0,2) = some (a.length,xs.length)) : ∃ x y,a = [] ∧ xs = [x,y]:=by
 obtain ⟨h1,h2⟩:=Prod.mk.inj (Option.some.inj h)
 obtain ⟨x,y,e1⟩:=ln_2 h2
 exact ⟨x,y,ln0 h1,e1⟩
theorem sh00 (h : some (0,0) = some (a.length,xs.length)) : a = [] ∧ xs = []:=by
 obtain ⟨h1,h2⟩:=Prod.mk.inj (Option.some.inj h)
 exact ⟨ln0 h1,ln0 h2⟩
end
theorem shaped_of {c : List (List Int)} (h : PyFlat.okCall PyVbchai.shape c) : Shaped c:=by
 obtain ⟨p,a,xs,rfl,hs⟩:=h
 unfold PyVbchai.shape at hs
 refine ifx hs (fun e h=>?_) fun hs=>ifx hs (fun e h=>?_) fun hs=>ifx hs (fun e h=>?_) fun hs=>ifx hs (fun e h=>?_) fun hs=>ifx hs (fun e h=>?_) fun hs=>ifx hs (fun e h=>?_) fun hs=>ifx hs (fun e h=>?_) fun hs=>ifx hs (fun e h=>?_) fun hs=>ifx hs (fun e h=>?_) fun hs=>ifx hs (fun e h=>?_) fun hs=>ifx hs (fun e h=>?_) fun hs=>ifx hs (fun e h=>?_) fun hs=>ifx hs (fun e h=>?_) fun hs=>ifx hs (fun e h=>?_) fun hs=>ifx hs (fun e h=>?_) fun hs=>ifx hs (fun e h=>?_) fun hs=>nomatch hs
 all_goals subst e
 ·obtain ⟨_,rfl,rfl⟩:=sh01 h; constructor
 ·obtain ⟨_,_,_,rfl,rfl⟩:=sh21 h; constructor
 ·obtain ⟨_,rfl,rfl⟩:=sh10 h; constructor
 ·obtain ⟨_,_,rfl,rfl⟩:=sh20 h; constructor
 ·obtain ⟨_,_,_,rfl,rfl⟩:=sh21 h; constructor
 ·obtain ⟨_,_,rfl,rfl⟩:=sh11 h; constructor
 ·obtain ⟨_,rfl,rfl⟩:=sh10 h; constructor
 ·obtain ⟨_,rfl,rfl⟩:=sh01 h; constructor
 ·obtain ⟨_,rfl,rfl⟩:=sh10 h; constructor
 ·obtain ⟨_,_,rfl,rfl⟩:=sh20 h; constructor
 ·obtain ⟨_,_,_,_,rfl,rfl⟩:=sh31 h; constructor
 ·obtain ⟨_,_,rfl,rfl⟩:=sh20 h; constructor
 ·obtain ⟨_,_,rfl,rfl⟩:=sh02 h; constructor
 ·obtain ⟨_,rfl,rfl⟩:=sh10 h; constructor
 ·obtain ⟨rfl,rfl⟩:=sh00 h; constructor
 ·obtain ⟨_,rfl,rfl⟩:=sh10 h; constructor
theorem whole_id {c : List (List Int)} (h : Shaped c) : PyVbchai.whole c = c:=by cases h <;> rfl
theorem calls_ok {l : List Int} (h : PyVbchai.answers_asked l = true) : ∃ cs,l = PyFlat.put cs ∧ (∀ c ∈ cs,PyFlat.okCall PyVbchai.shape c) ∧ PyVbchai.answers l = PyFlat.told (PyFlat.played VbchaiNeutral.step start cs) ∧ cs.length ≤ 400 ∧ ∀ c ∈ cs,VbchaiNeutral.asked1 c = true:=by
 unfold PyVbchai.answers_asked at h
 cases e : PyFlat.calls PyVbchai.shape l.length l with
 | none=>rw [PyVbchai.calls,e] at h; cases h
 | some cs =>
  obtain ⟨e1,e2⟩:=PyFlat.put_calls _ _ _ e
  have hm : cs.map PyVbchai.whole = cs:=(List.map_congr_left fun c hc=>whole_id (shaped_of (e2 c hc))).trans (List.map_id' cs)
  have hc : PyVbchai.calls l = some cs:=by rw [PyVbchai.calls,e]; exact congrArg some hm
  rw [hc] at h
  obtain ⟨h1,h2⟩:=Bool.and_eq_true_iff.mp h
  unfold VbchaiNeutral.asked at h2
  obtain ⟨h3,h4⟩:=Bool.and_eq_true_iff.mp h2
  refine ⟨cs,e1,e2,by rw [PyVbchai.answers,hc]; rfl,by simpa [PyFlat.atMost] using h1,List.all_eq_true.mp h3⟩
def wr (b : Book) : List Nat:=match b with
 | []=>[]
 | l :: r=>(if l.qty < 0 then [45] else []) ++ (legText l ++ moreText r)
theorem wr_write {b : Book} (h : b ≠ []) : write b = wr b:=by
 cases b with
 | nil=>exact absurd rfl h
 | cons l r=>rfl
theorem more_snoc (l : Leg) : ∀ b : Book,moreText (b ++ [l]) = moreText b ++ ((if l.qty < 0 then ascii " - " else ascii " + ") ++ legText l)
 | []=>by simp [moreText]
 | x :: r=>by
  rw [List.cons_append,moreText,moreText,more_snoc l r]; simp
theorem wr_snoc (l : Leg) {b : Book} (h : b ≠ []) : wr (b ++ [l]) = wr b ++ ((if l.qty < 0 then [32,45,32] else [32,43,32]) ++ legText l):=by
 cases b with
 | nil=>exact absurd rfl h
 | cons x r =>
  show (if x.qty < 0 then [45] else []) ++ (legText x ++ moreText (r ++ [l])) = ((if x.qty < 0 then [45] else []) ++ (legText x ++ moreText r)) ++ _
  rw [more_snoc]
  have e1 : ascii " - " = [32,45,32]:=rfl
  have e2 : ascii " + " = [32,43,32]:=rfl
  rw [e1,e2]
  simp
theorem wr_one (l : Leg) : wr [l] = (if l.qty < 0 then [45] else []) ++ legText l:=by simp [wr,moreText]
theorem decimal_ne (n : Nat) : decimal n ≠ []:=by
 unfold decimal ascii
 intro h
 have h2 : (toString n).toList = []:=by simpa using h
 have : toString n = "":=String.toList_eq_nil_iff.mp h2
 exact Nat.repr_ne_empty this
end VM
set_option maxRecDepth 100000
namespace VX
open PySem PySem.Spec PySem.Calls PyProof.Rows PyProof.V L2 VM
abbrev TupAt (H : Hp) (p : Addr) (x : Int × Int) : Prop:=H p = some (.tup [.int x.1,.int x.2])
theorem vals_pair {x y : Int} {us : List Value} (r : Vals [.int x,.int y] us) : ∃ t u,us = [.int x t,.int y u]:=by
 cases r with
 | cons r1 r2 =>
  cases r2 with
  | cons r2 r3 =>
   cases r3
   obtain ⟨t,rfl⟩:=r1
   obtain ⟨u,rfl⟩:=r2
   exact ⟨t,u,rfl⟩
theorem vals_refs : ∀ {ps : List Addr} {us : List Value},Vals (ps.map V.ref) us → us = ps.map Value.ref
 | [],us,r=>by cases r; rfl
 | p :: ps,us,r=>by
  cases r with
  | cons r1 r2 =>
   have:=vals_refs r2
   subst this
   cases r1
   rfl
theorem refs_vals : ∀ ps : List Addr,Vals (ps.map V.ref) (ps.map Value.ref)
 | []=>.nil
 | p :: ps=>.cons rfl (refs_vals ps)
theorem tup_key {P : Program} {w : World} {H : Hp} {h : Heap} {p : Addr} {x : Int × Int} (ok : HOk P w H h) (e : TupAt H p x) :
  ∃ f,PyProof.Rows.TupOf h (fun _=>false) (.ref p) f ∧ PyProof.Rows.G.tupKeyC h (fun _=>false) (.ref p) = some [Sum.inl x.1,Sum.inl x.2]:=by
 obtain ⟨_,its,rv,o,ho,hc,n,hd⟩:=ok p _ e
 obtain ⟨t,u,rfl⟩:=vals_pair rv
 refine ⟨.int x.1 t,⟨p,o,_,n,rfl,ho,hc,hd,rfl,fun _=>⟨_,_,rfl⟩,fun z=>by cases z⟩,?_⟩
 unfold PyProof.Rows.G.tupKeyC
 have e1 : PyProof.Rows.G.isTupObj h (.ref p) = true:=by simp [PyProof.Rows.G.isTupObj,ho,hc]
 rw [if_pos e1]
 simp only [PyProof.Rows.tupKey,ho,hd]
 rfl
theorem tups_of {P : Program} {w : World} {H : Hp} {h : Heap} (ok : HOk P w H h) : ∀ {ps : List Addr} {bs : List (Int × Int)},All2 (TupAt H) ps bs → ∃ fs,PyProof.Rows.TupsOf h (fun _=>false) (ps.map Value.ref) fs
 | _,_,.nil=>⟨[],.nil⟩
 | _,_,.cons e t=>by
  obtain ⟨f,h1,_⟩:=tup_key ok e
  obtain ⟨fs,h2⟩:=tups_of ok t
  exact ⟨f :: fs,.cons h1 h2⟩
def tupOf (H : Hp) (p : Addr) : Int × Int:=match H p with
 | some (.tup [.int a,.int b])=>(a,b)
 | _=>(0,0)
theorem tupOf_eq {H : Hp} {p : Addr} {x : Int × Int} (e : TupAt H p x) : tupOf H p = x:=by unfold tupOf; rw [e]
theorem all2_map {H : Hp} : ∀ {ps : List Addr} {bs : List (Int × Int)},All2 (TupAt H) ps bs → bs = ps.map (tupOf H)
 | _,_,.nil=>rfl
 | _,_,.cons e t=>by rw [List.map_cons,← all2_map t,tupOf_eq e]
theorem all2_of {H : Hp} : ∀ {ps : List Addr},(∀ p ∈ ps,TupAt H p (tupOf H p)) → All2 (TupAt H) ps (ps.map (tupOf H))
 | [],_=>.nil
 | p :: ps,h=>.cons (h p List.mem_cons_self) (all2_of fun q hq=>h q (List.mem_cons_of_mem _ hq))
theorem all2_mem {H : Hp} : ∀ {ps : List Addr} {bs : List (Int × Int)},All2 (TupAt H) ps bs → ∀ p ∈ ps,TupAt H p (tupOf H p)
 | _,_,.nil,p,hp=>by cases hp
 | _,_,.cons e t,p,hp=>by
  rcases List.mem_cons.mp hp with rfl | hp
  ·rw [tupOf_eq e]; exact e
  ·exact all2_mem t p hp
theorem lex_fst {a b c d : Int} (h : PyProof.Rows.lexLt PyProof.Rows.itemOrd [Sum.inl c,Sum.inl d] [Sum.inl a,Sum.inl b] = false) : a ≤ c:=by
 rw [PyProof.Rows.lex_cons] at h
 have h1:=(Bool.or_eq_false_iff.mp h).1
 have h2 : decide (c < a) = false:=h1
 have:=of_decide_eq_false h2
 omega
section
variable {X : Cx}
def rSortedT (K : PySem.W.Frag) : List V → Hp → VK → Prop:=fun vs H Q=>∃ (a : Addr) (ps : List Addr) (bs : List (Int × Int)),vs = [V.ref a] ∧ SqL K H a (ps.map V.ref) ∧ All2 (TupAt H) ps bs ∧
 ∀ (ps' : List Addr) (bs' : List (Int × Int)) (p : Addr),All2 (TupAt H) ps' bs' → bs'.Perm bs → Rise bs' → ps'.Perm ps → H p = none → Q (.ref p) (upd H p (.lst (ps'.map V.ref)))
def unref : Value → Addr
 | .ref a=>a
 | _=>0
theorem zip_self {α : Type} : ∀ l : List α,l.zip l = l.map fun x=>(x,x)
 | []=>rfl
 | x :: r=>by rw [List.zip_cons_cons,zip_self r,List.map_cons]
theorem cr_sortedT : CallR X (.builtin "sorted") (rSortedT X.K):=by
 intro pins s σ H vs us Q I r h
 obtain ⟨a,ps,bs,rfl,hs,hb,q⟩:=h
 obtain ⟨its,rv,hl,hlen⟩:=I.list hs
 rw [Vals.ref1 r]
 have ei:=vals_refs rv
 subst ei
 obtain ⟨fs,hT⟩:=tups_of I.hok hb
 have hm:=all2_mem hb
 rw [List.length_map] at hlen
 refine PyProof.Rows.G.sorted_tups (vs:=ps.map Value.ref) hl.isList hT (fun v hv=>?_) (by rw [List.length_map]; exact hlen) fun st' hp hst _=>?_
 ·obtain ⟨p,hp,rfl⟩:=List.mem_map.mp hv
  obtain ⟨_,_,e⟩:=tup_key I.hok (hm p hp)
  exact ⟨_,e⟩
 ·have hl1:=Array.perm_iff_toList_perm.mp hp
  rw [pairsOf_toList,zip_self,List.map_map] at hl1
  have hall : ∀ y ∈ (arrOf st').toList,∃ p ∈ ps,y = (Value.ref p,Value.ref p):=fun y hy=>by
   obtain ⟨p,hp,e⟩:=List.mem_map.mp (hl1.mem_iff.mp hy)
   exact ⟨p,hp,e.symm⟩
  let ps':=(arrOf st').toList.map fun y=>unref y.2
  have e1 : ps'.Perm ps:=by
   have:=hl1.map fun y=>unref y.2
   rw [List.map_map] at this
   have e : ((fun y : Keyed=>unref y.2) ∘ (fun x : Value=>(x,x)) ∘ Value.ref) = id:=by funext p; rfl
   rw [e,List.map_id] at this
   exact this
  have e2 : (arrOf st').toList = ps'.map fun p=>(Value.ref p,Value.ref p):=by
   show _ = ((arrOf st').toList.map fun y=>unref y.2).map fun p=>(Value.ref p,Value.ref p)
   rw [List.map_map]
   refine Eq.symm ((List.map_congr_left fun y hy=>?_).trans (List.map_id _))
   obtain ⟨p,_,rfl⟩:=hall y hy
   rfl
  have hm' : ∀ p ∈ ps',TupAt H p (tupOf H p):=fun p hp=>hm p (e1.mem_iff.mp hp)
  have e3 : ((arrOf st').map (·.2)).toList = ps'.map Value.ref:=by
   rw [Array.toList_map,e2,List.map_map]; rfl
  obtain ⟨ep,he'⟩:=PyProof.Rows.sortedAll_at s.heap (ps.map Value.ref) ((arrOf st').map (·.2))
  have hlen' : (ps'.map V.ref).length ≤ sizeLine:=by rw [List.length_map,e1.length_eq]; exact hlen
  have hob : ObjOk X.prog X.w (upd H (s.heap.objs.size + 1) (.lst (ps'.map V.ref))) (sortedAll s.heap (ps.map Value.ref) ((arrOf st').map (·.2))) (s.heap.objs.size + 1) (.lst (ps'.map V.ref)) :=
   ⟨hlen',((arrOf st').map (·.2)).toList,ep,by rw [e3]; exact refs_vals ps',he'⟩
  refine ⟨.ref _,upd H (s.heap.objs.size + 1) (.lst (ps'.map V.ref)),I.laid (t':=s.toks) (fun _ _=>PyProof.Rows.sortedAll_old) (Nat.le_succ _) hob,rfl,q ps' (ps'.map (tupOf H)) _ (all2_of hm') ?_ ?_ e1 (I.hok.fresh (Nat.le_succ _))⟩
  ·rw [all2_map hb]; exact e1.map _
  ·show List.Pairwise _ _
   rw [List.pairwise_map,List.pairwise_iff_getElem]
   intro i j hi hj hij
   have hsz : (pairsOf (ps.map Value.ref)).size = ps'.length:=by rw [pairsOf_size,List.length_map,e1.length_eq]
   have hk:=hst i j (Nat.le_of_lt hij) (by rw [hsz]; exact hj)
   have kk : ∀ (m : Nat) (hm2 : m < ps'.length),KK (PyProof.Rows.G.tupKindC s.heap fun _=>false) (arrOf st') m = [Sum.inl (tupOf H ps'[m]).1,Sum.inl (tupOf H ps'[m]).2]:=fun m hm2=>by
    unfold KK
    have : (arrOf st')[m]? = some (Value.ref ps'[m],Value.ref ps'[m]):=by
     rw [← Array.getElem?_toList,e2,List.getElem?_map,List.getElem?_eq_getElem hm2]; rfl
    rw [this]
    obtain ⟨_,_,e⟩:=tup_key I.hok (hm' ps'[m] (List.getElem_mem hm2))
    show (PyProof.Rows.G.tupKeyC s.heap (fun _=>false) (Value.ref ps'[m])).getD [] = _
    rw [e]; rfl
   rw [kk i hi,kk j hj] at hk
   exact lex_fst hk
theorem keys_ints {P : Program} {w : World} {kvs : List (Key × V)} {vs : List (Key × Value)} {ks : List Int} (e : kvs.map (·.1) = ks.map Sum.inl) (rel : KV kvs vs) {acc : Array Value}
  (hacc : ItemsOf (fun i v=>∃ k x,vs[i]? = some (k,x) ∧ (mixKind P w).is k v = true) acc vs.length) : IntsAre acc.toList ks:=by
 have hl : kvs.length = vs.length:=rel.length
 have hkl : ks.length = kvs.length:=by
  have:=congrArg List.length e
  simpa using this.symm
 have key : ∀ (l : List Value) (ks : List Int),l.length = ks.length → (∀ (i : Nat) (v : Value) (k : Int),l[i]? = some v → ks[i]? = some k → ∃ t,v = Value.int k t) → IntsAre l ks:=by
  intro l
  induction l with
  | nil=>intro ks h _; cases ks with
   | nil=>exact .nil
   | cons _ _=>simp at h
  | cons v l ih =>
   intro ks h hh
   cases ks with
   | nil=>simp at h
   | cons k ks =>
    obtain ⟨t,rfl⟩:=hh 0 v k rfl rfl
    exact .cons _ _ (ih ks (by simpa using h) fun i v' k' h1 h2=>hh (i + 1) v' k' (by simpa using h1) (by simpa using h2))
 refine key _ _ (by rw [Array.length_toList,hacc.1,hkl,hl]) fun i v k h1 h2=>?_
 obtain ⟨k',x,e1,e2⟩:=hacc.2 i v (by rw [← Array.getElem?_toList]; exact h1)
 have h3 : (kvs.map (·.1))[i]? = some (Sum.inl k):=by rw [e,List.getElem?_map,h2]; rfl
 rw [List.getElem?_map] at h3
 cases h4 : kvs[i]? with
 | none=>rw [h4] at h3; cases h3
 | some kv =>
  rw [h4] at h3
  have h5 : kv.1 = Sum.inl k:=Option.some.inj h3
  obtain ⟨q,hq,hqe,_⟩:=paired_get rel h4
  rw [e1] at hq
  cases hq
  have h6 : k' = Sum.inl k:=hqe.symm.trans h5
  subst h6
  rcases keyIs_shape (show keyIs (Sum.inl k) v = true from e2) with ⟨j,t,e7,e8⟩ | ⟨y,t,e7,e8⟩
  ·cases e7
   exact ⟨t,e8⟩
  ·cases e7
def rSortedD : List V → Hp → VK → Prop:=fun vs H Q=>∃ (a : Addr) (kvs : List (Key × V)) (ks : List Int),vs = [V.ref a] ∧ Rd H a (.dK kvs) ∧ kvs.map (·.1) = ks.map Sum.inl ∧ ks.length < 64 ∧
 ∀ (ns : List Int) (p : Addr),ns.Perm ks → ns.Pairwise (· ≤ ·) → H p = none → Q (.ref p) (upd H p (.lst (ns.map V.int)))
theorem cr_sortedD (hc : X.calm = true) : CallR X (.builtin "sorted") rSortedD:=by
 intro pins s σ H vs us Q I r h
 obtain ⟨a,kvs,ks,rfl,hd,ek,h64,q⟩:=h
 rw [Vals.ref1 r]
 obtain ⟨hz,hsm,xs,rel,dd⟩:=dk_rd I.hok hd
 obtain ⟨ep,hat⟩:=dd.dictAt
 have hl : kvs.length = xs.length:=rel.length
 have hkl : ks.length = kvs.length:=by
  have:=congrArg List.length ek
  simpa using this.symm
 refine call_function_entry kind_sorted plain_sorted entry_sorted (args_sorted1 _) ?_
 unfold Builtin.«sorted»
 refine wpAny_bind (m:=checkCount "sorted" 1 1 _) (wpAny_pure ?_)
 refine wpAny_bind (PySem.W.kdu_collect (A:=X.A.in1) (PySem.W.kdl_dict (knd:=mixKind X.prog X.w) (kvs:=xs) (ep:=ep) hsm) (I.ok.hd hc) hat (by rw [← hl]; exact hz) fun h' tk acc hk hacc=>?_)
 have hI:=keys_ints ek rel hacc
 have hla : acc.toList.length = ks.length:=by rw [hI.length]
 have hlz : acc.toList.length ≤ sizeLine:=by rw [hla]; exact small64 h64
 refine wpAny_bind (wpAny_newList ?_ hlz)
 have hob : (h'.push (seqObj "list" acc.toList.toArray 0)).get? h'.objs.size = some (seqObj "list" acc.toList.toArray 0):=Heap.get?_push_size _ rfl
 show wpAny _ _ _ _ _ { s with heap:=h'.push (seqObj "list" acc.toList.toArray 0),toks:=tk }
 refine wpAny_bind (wpAny_holding (wpAny_call_entry PyProof.Rows.slot_list_sort ⟨_,hob,rfl⟩ PyProof.Rows.entry_list_sort
  (PyProof.Rows.list_sort_tree hob hI (by rw [hla]; exact h64) fun out ns' h1 h2 h3=>⟨_,rfl,?_⟩) (PyProof.Rows.args_list_sort _)))
 refine wpAny_pure ⟨_,rfl,?_⟩
 obtain ⟨e2,he'⟩:=PyProof.Rows.sortedHeap_at (vs:=acc.toList) (out:=out) hob
 have hlen : (ns'.map V.int).length ≤ sizeLine:=by rw [List.length_map,h2.length_eq]; exact small64 h64
 have hdead : s.heap.get? h'.objs.size = none:=by
  cases z : s.heap.get? h'.objs.size with
  | none=>rfl
  | some o=>exact absurd (Heap.lt_size (hk _ _ z)) (Nat.lt_irrefl _)
 have hnone : H h'.objs.size = none:=XL.dead_none I.hok hdead
 have hob2 : ObjOk X.prog X.w (upd H h'.objs.size (.lst (ns'.map V.int))) (sortedHeap (h'.push (seqObj "list" acc.toList.toArray 0)) h'.objs.size acc.toList out) h'.objs.size (.lst (ns'.map V.int)):=⟨hlen,out.toList,e2,vals_of_ints h1,he'⟩
 refine ⟨.ref _,upd H h'.objs.size (.lst (ns'.map V.int)),XL.laidN (s:=s) (t':=tk) I (fun b u hu=>?_) hdead hnone hob2,rfl,q ns' _ h2 h3 hnone⟩
 have hb:=Heap.lt_size (hk b u hu)
 rw [PyProof.Rows.sortedHeap_old (Nat.ne_of_lt hb) (by rw [size_push']; exact Nat.lt_succ_of_lt hb)]
 exact Heap.get?_push_of_some _ (hk b u hu)
def rListD : List V → Hp → VK → Prop:=fun vs H Q=>∃ (a : Addr) (kvs : List (Key × V)) (ks : List Int),vs = [V.ref a] ∧ Rd H a (.dK kvs) ∧ kvs.map (·.1) = ks.map Sum.inl ∧
 ∀ (p : Addr),H p = none → Q (.ref p) (upd H p (.lst (ks.map V.int)))
theorem cr_listD (hc : X.calm = true) : CallR X (.type "list") rListD:=by
 intro pins s σ H vs us Q I r h
 obtain ⟨a,kvs,ks,rfl,hd,ek,q⟩:=h
 rw [Vals.ref1 r]
 obtain ⟨hz,hsm,xs,rel,dd⟩:=dk_rd I.hok hd
 obtain ⟨ep,hat⟩:=dd.dictAt
 have hl : kvs.length = xs.length:=rel.length
 have hkl : ks.length = kvs.length:=by
  have:=congrArg List.length ek
  simpa using this.symm
 refine PySem.W.kdl_call (PySem.W.kdl_dict (knd:=mixKind X.prog X.w) (kvs:=xs) (ep:=ep) hsm) (I.ok.hd hc) hat (by rw [← hl]; exact hz) fun h' tk acc c' hk hS hacc=>?_
 have hI:=keys_ints ek rel hacc
 refine ⟨.ref _,upd H s.heap.objs.size (.lst (ks.map V.int)),I.laid (t':=tk) hk (Nat.le_refl _) ⟨by rw [List.length_map,hkl]; exact hz,acc.toList,c',vals_of_ints hI,hS⟩,rfl,q _ (I.hok.fresh (Nat.le_refl _))⟩
theorem cr_dictD : CallR X (.type "dict") (fun xs H Q=>∃ (a : Addr) (kvs : List (Key × V)),xs = [V.ref a] ∧ Rd H a (.dK kvs) ∧ ∀ p,H p = none → Q (.ref p) (upd H p (.dK kvs))):=by
 intro pins s σ H vs us Q I r h
 obtain ⟨a,kvs,rfl,hd,q⟩:=h
 rw [Vals.ref1 r]
 exact d_copyOf I hd fun p s' hp I'=>⟨.ref p,_,I',rfl,q p hp⟩
def tSortedR (K : PySem.W.Frag) (t : TA) : TE:=fun σ H Q=>t σ H fun vs H1=>∃ (a : Addr) (ns : List Int),vs = [.ref a] ∧ SqL K H1 a (ns.map V.int) ∧ ns.length < 64 ∧
 ∀ (ns' : List Int) (p : Addr),ns'.Perm ns → ns'.Pairwise (fun x y=>y ≤ x) → H1 p = none → Q (.ref p) (upd H1 p (.lst (ns'.map V.int)))
theorem pe_sortedR {e : Expr} {t : TA} {kws : List Keyword} {p pos : Pos} (hg : Gl X "sorted") (hm : X.mg "sorted" = none) (he : PA X [e] t) (hkw : PK X kws (tCons (tC (.bl true)) tNil))
  (hks : (backToKw pos (keywordEach kws X.env)).filterMap (·.1) = [Str.ofString "reverse"]:=by rfl) (hb : backTo pos (starEach [e] X.env) = (false,eval e X.env) :: backTo pos (starEach [] X.env):=by rfl)
  (hpl : (backTo pos (starEach [e] X.env)).any (·.1) = false:=by rfl) (hall : (backToKw pos (keywordEach kws X.env)).all (·.1.isSome) = true:=by rfl) (hno : (backToKw pos (keywordEach kws X.env)).any (·.1.isNone) = false:=by rfl) :
  PE X (.Call (.Name "sorted" p) [e] kws pos) (tSortedR X.K t):=by
 intro pins s σ H Q I h
 refine wpAny_Call_Name_kw (ld_blt I hg hm PyProof.Rows.boot_sorted ?_ (by decide) (by decide))
 refine callWith_kw (thn (he pos pins s σ H _ I h) fun us s1 ⟨vs,H1,I1,r1,a,ns,ev,hs,h64,q⟩=>?_) hb hpl hall hno
 subst ev
 ·rw [Vals.ref1 r1]
  refine thn (hkw pos pins s1 σ H1 (fun zs H2=>zs = [.bl true] ∧ H2 = H1) I1 ⟨rfl,rfl⟩) fun ws s2 ⟨zs,H2,I2,r2,q2⟩=>?_
  obtain ⟨rfl,rfl⟩:=q2
  obtain ⟨its,rv,hl,_⟩:=I2.list hs
  have hi:=rv.ints
  have ew : ws = [.bool true]:=by
   cases r2 with
   | cons a b =>
    cases b
    cases a
    rfl
  subst ew
  rw [hks]
  refine sorted_ints_rev (b:=true) hl.isList hi (by rw [hi.length]; exact h64) fun out ns' h1 h2 h3=>?_
  obtain ⟨ep,he'⟩:=PyProof.Rows.sortedAll_at s2.heap its out
  have hlen : (ns'.map V.int).length ≤ sizeLine:=by rw [List.length_map,h2.length_eq]; exact small64 h64
  exact ⟨.ref _,upd H2 (s2.heap.objs.size + 1) (.lst (ns'.map V.int)),I2.laid (t':=s2.toks) (fun _ _=>PyProof.Rows.sortedAll_old) (Nat.le_succ _) ⟨hlen,out.toList,ep,vals_of_ints h1,he'⟩,rfl,q ns' _ h2 h3 (I2.hok.fresh (Nat.le_succ _))⟩
end
end VX
set_option maxRecDepth 100000
namespace VX
open PySem PySem.Spec PySem.Calls PyProof.Rows PyProof.V L2 VM
section
variable {X : Cx} {K : PySem.W.Frag} {H : Hp}
theorem dp_ints : ∀ ns : List Int,DpAll K H (ns.map V.int) (ns.map PyData.int)
 | []=>.nil
 | n :: ns=>.cons (.int n) (dp_ints ns)
theorem lay_ints : ∀ ns : List Int,PyData.canLayAll0 (ns.map PyData.int) = true
 | []=>by simp [PyData.canLayAll0]
 | n :: ns=>by simp [PyData.canLayAll0,PyData.canLay0,lay_ints ns]
theorem depth_ints : ∀ ns : List Int,PyData.depthAll (ns.map PyData.int) = 0
 | []=>by simp [PyData.depthAll]
 | n :: ns=>by simp [PyData.depthAll,PyData.depth,depth_ints ns]
theorem shaped_ints (ns : List Int) : SeqAt.shaped (.list (ns.map PyData.int)) = true:=by
 unfold SeqAt.shaped
 simp [PyData.canLay0,PyData.depth,lay_ints,depth_ints]
theorem eqv_ints : ∀ ns ms : List Int,PyData.eqvAll (ns.map PyData.int) (ms.map PyData.int) = decide (ns = ms)
 | [],[]=>by simp [PyData.eqvAll]
 | [],_ :: _=>by simp [PyData.eqvAll]
 | _ :: _,[]=>by simp [PyData.eqvAll]
 | n :: ns,m :: ms=>by
  simp only [List.map_cons,PyData.eqvAll,PyData.eqv,eqv_ints ns ms]
  by_cases h1 : n = m <;> by_cases h2 : ns = ms <;> simp [h1,h2]
def rEqInts (K : PySem.W.Frag) : R2:=fun x y H Q=>∃ (a b : Addr) (ns ms : List Int),x = .ref a ∧ y = .ref b ∧ SqL K H a (ns.map V.int) ∧ SqL K H b (ms.map V.int) ∧ Q (.bl (decide (ns = ms))) H
def rNeInts (K : PySem.W.Frag) : R2:=fun x y H Q=>∃ (a b : Addr) (ns ms : List Int),x = .ref a ∧ y = .ref b ∧ SqL K H a (ns.map V.int) ∧ SqL K H b (ms.map V.int) ∧ Q (.bl (!decide (ns = ms))) H
theorem op_eqInts (hK : X.K = K) (hu : X.A.units + 64 < cLine) : OpR X (compareOp .Eq) (rEqInts K):=by
 subst hK
 intro pins s σ H x y v u Q I rx ry h
 obtain ⟨a,b,ns,ms,rfl,rfl,h1,h2,q⟩:=h
 refine op_eqD hu pins s σ H _ _ v u Q I rx ry ⟨_,_,.lst h1 (dp_ints ns),.lst h2 (dp_ints ms),shaped_ints ns,shaped_ints ms,?_⟩
 rw [PyData.eqv,eqv_ints]
 exact q
theorem op_neInts (hK : X.K = K) (hu : X.A.units + 64 < cLine) : OpR X (compareOp .NotEq) (rNeInts K):=by
 subst hK
 intro pins s σ H x y v u Q I rx ry h
 obtain ⟨a,b,ns,ms,rfl,rfl,h1,h2,q⟩:=h
 refine op_neD hu pins s σ H _ _ v u Q I rx ry ⟨_,_,.lst h1 (dp_ints ns),.lst h2 (dp_ints ms),shaped_ints ns,shaped_ints ms,?_⟩
 rw [PyData.eqv,eqv_ints]
 exact q
def rEqNil (K : PySem.W.Frag) : R2:=fun x y H Q=>∃ (a b : Addr) (xs : List V),x = .ref a ∧ y = .ref b ∧ SqL K H a xs ∧ SqL K H b [] ∧ Q (.bl xs.isEmpty) H
theorem op_eqNil (hK : X.K = K) (hu : X.A.units + 64 < cLine) : OpR X (compareOp .Eq) (rEqNil K):=by
 subst hK
 intro pins s σ H x y v u Q I rx ry h
 obtain ⟨a,b,xs,rfl,rfl,h1,h2,q⟩:=h
 obtain ⟨its,r1,l1,_⟩:=I.list h1
 obtain ⟨its2,r2,l2,_⟩:=I.list h2
 cases r2
 obtain rfl : v = Value.ref a:=rx
 obtain rfl : u = Value.ref b:=ry
 show wpAny _ _ (richCompare .Eq (.ref a) (.ref b)) _ _ _
 cases xs with
 | nil =>
  cases r1
  exact SeqAt.RcAt.lists (e:=fun _=>true) l1.isList l2.isList rfl (by omega) (fun j h1=>absurd h1 (by simp)) _ _ _ _ ⟨.bl true,H,I,rfl,q⟩
 | cons z zs =>
  cases r1 with
  | cons q1 q2 =>
   exact SeqAt.RcAt.lists_lengths l1.isList l2.isList (by simp) (by omega) _ _ _ _ ⟨.bl false,H,I,rfl,q⟩
end
end VX
set_option maxRecDepth 100000
set_option maxHeartbeats 2000000
namespace VD
open PySem PySem.Spec PyProof.Rows L2 VM VX XL
open Vbchai (Leg Book Member Scene State Prices)
def top (i : Nat) : Stmt:=PySem.Challenge.pw_defaultfund_s01_answers.main.body.getD i (.Pass ⟨0,0,0,0⟩)
theorem scm {N P : List Str} {sc : Scope} (h1 : sc.kind = .function:=by rfl) (h2 : sc.isCoroutine = false:=by rfl) (h3 : sc.isGenerator = false:=by rfl) (h4 : N.Nodup:=by decide +kernel) (h5 : N.take P.length = P:=by rfl) (h6 : ∀ x ∈ P,sc.names.lookup x = some .local ∨ sc.names.lookup x = some .cell:=by decide +kernel) (h7 : ∀ y ∈ sc.names,y.2 ≠ .free:=by decide +kernel) : FnScope N P sc:=⟨h1,h2,h3,h4,h5,h6,h7⟩
theorem dn {p Q : Prop} [Decidable p] (z : decide p = true) (h : ¬p:=by decide) : Q:=absurd (of_decide_eq_true z) h
section
variable (P : Program) (w : World) (K : PySem.W.Frag) (mg : Str → Option Value) (base : Heap)
def Cal (CX : CXT) (k : Nat) (x : Str) (ps : List Str) (sp : Sp) : Prop:=∃ (f : Addr) (fd : FuncData),FnOk P w K mg base CX k f fd ps sp ∧ mg x = some (.ref f) ∧ PySem.W.keepIn K (.ref f) = true ∧ Binds K fd ps []
def CalM (CX : CXT) (k : Nat) (C : Addr) (m : Str) (ps : List Str) (sp : Sp) : Prop:=∃ (f : Addr) (fd : FuncData),FnOk P w K mg base CX k f fd ps sp ∧ Meth K C m f ∧ Binds K fd ps []
def CalC (k : Nat) (C : Addr) (x : Str) (ps : List Str) (sp : Sp) : Prop:=∃ (f : Addr) (fd : FuncData),FnOk P w K mg base CX0 k f fd ps sp ∧ Mk K C f ∧ mg x = some (.ref C) ∧ Binds K fd ps []
end
section
variable (K : PySem.W.Frag) (mg : Str → Option Value)
def FunG (x : Str) (st : Stmt) : Prop:=∃ (f : Addr) (fd : FuncData),Fun K x x st f fd ∧ mg x = some (.ref f)
def FunM (C : Addr) (m q : Str) (st : Stmt) : Prop:=∃ (f : Addr) (fd : FuncData),Fun K m q st f fd ∧ Meth K C m f
def FunI (C : Addr) (x q : Str) (st : Stmt) : Prop:=∃ (f : Addr) (fd : FuncData),Fun K "__init__" q st f fd ∧ Mk K C f ∧ mg x = some (.ref C)
def GV (x : Str) (v : V) : Prop:=∃ u,mg x = some u ∧ RelV v u
end
section
variable {X : Cx} {CX : CXT} {k : Nat} {C : Addr} {ps : List Str} {sp : Sp} {E : XK} {x m : Str} {p pos apos : Pos} {e o : Expr} {es : List Expr} {ta : TE} {t : TA} {v : V}
theorem pe_gv (hg : Gl X x) (h : GV X.mg x v) (hd : (x == ("__debug__" : Str)) = false:=by decide) : PE X (.Name x pos) (tC v):=by
 obtain ⟨u,h1,h2⟩:=h
 exact pe_glob hg h1 h2 hd
theorem pe_cal (c : Cal X.prog X.w X.K X.mg X.base CX k x ps sp) (hr : Room k X.A) (hg : Gl X x) (hx : Passes CX X E)
  (ha : PA X (e :: es) t) (hdb : (x == ("__debug__" : Str)) = false:=by decide) (he : starEach (e :: es) X.env = (false,eval e X.env) :: starEach es X.env:=by rfl) (hpl : (backTo pos (starEach es X.env)).any (·.1) = false:=by rfl) :
  PE X (.Call (.Name x p) (e :: es) [] pos) (tCall sp [] E t):=by
 obtain ⟨f,fd,G,hm,kp,b⟩:=c
 exact pe_call G hr hg hm kp b .nil hx ha hdb he hpl
theorem pe_calM {pl : Sem Bool} (c : CalM X.prog X.w X.K X.mg X.base CX k C m ps sp) (he : PE X o ta) (cl : Cls X.K C) (hr : Room k X.A) (hx : Passes CX X E) (ha : PA X (e :: es) t)
  (hst : starEach (e :: es) X.env = (false,eval e X.env) :: starEach es X.env:=by rfl) (hpl : (backTo pos (starEach es X.env)).any (·.1) = false:=by rfl)
  (ht : eval (.Call (.Attribute o m apos) (e :: es) [] pos) X.env = (do
   let ov ← eval o X.env
   standAt apos.atName
   let (f,first) ← holding [ov] (getMethod ov m pl)
   callWith pos f first (backTo pos (starEach (e :: es) X.env)) (backToKw pos (keywordEach [] X.env))):=by rfl) :
  PE X (.Call (.Attribute o m apos) (e :: es) [] pos) (tMeth C m sp [] E ta t):=by
 obtain ⟨f,fd,G,hm,b⟩:=c
 exact pe_meth he cl hm G hr b .nil hx ha hst hpl ht
theorem pe_calM0 {pl : Sem Bool} (c : CalM X.prog X.w X.K X.mg X.base CX k C m ps sp) (he : PE X o ta) (cl : Cls X.K C) (hr : Room k X.A) (hx : Passes CX X E)
  (ht : eval (.Call (.Attribute o m apos) [] [] pos) X.env = (do
   let ov ← eval o X.env
   standAt apos.atName
   let (f,first) ← holding [ov] (getMethod ov m pl)
   callWith pos f first (backTo pos (starEach [] X.env)) (backToKw pos (keywordEach [] X.env))):=by rfl) :
  PE X (.Call (.Attribute o m apos) [] [] pos) (tMeth C m sp [] E ta tNil):=by
 obtain ⟨f,fd,G,hm,b⟩:=c
 exact pe_meth0 he cl hm G hr b .nil hx ht
theorem pe_calC (c : CalC X.prog X.w X.K X.mg X.base k C x ps sp) (hr : Room (k + 1) X.A) (hg : Gl X x)
  (ha : PA X (e :: es) t) (hdb : (x == ("__debug__" : Str)) = false:=by decide) (he : starEach (e :: es) X.env = (false,eval e X.env) :: starEach es X.env:=by rfl) (hpl : (backTo pos (starEach es X.env)).any (·.1) = false:=by rfl) :
  PE X (.Call (.Name x p) (e :: es) [] pos) (tMake C sp [] E0 t):=by
 obtain ⟨f,fd,G,hm,hg2,b⟩:=c
 exact pe_make hm G hr hg hg2 b .nil pass0 ha hdb he hpl
theorem pe_calC0 (c : CalC X.prog X.w X.K X.mg X.base k C x ps sp) (hr : Room (k + 1) X.A) (hg : Gl X x) (hdb : (x == ("__debug__" : Str)) = false:=by decide) :
  PE X (.Call (.Name x p) [] [] pos) (tMake C sp [] E0 tNil):=by
 obtain ⟨f,fd,G,hm,hg2,b⟩:=c
 exact pe_make0 hm G hr hg hg2 b .nil pass0 hdb
end
section
variable {X : Cx} {K : PySem.W.Frag} {e i : Expr} {f : Str} {pos : Pos} {ta ti : TE}
theorem pe_fldK (hK : X.K = K) (he : PE X e ta) (hb : attributeBase e f X.env (eval e X.env) = eval e X.env) : PE X (.Attribute e f pos) (tFld K ta f):=by
 subst hK
 exact pe_fld he hb
theorem ix_listK (hK : X.K = K) : IxR X (rIxL K):=by
 subst hK
 exact ix_list
theorem ix_tupK (hK : X.K = K) : IxR X (rIxT K):=by
 subst hK
 exact ix_tup
end
theorem lc_one {K : PySem.W.Frag} {a : Addr} {xs : List V} {j : Nat} {te : TE} {vs : List Nat} {σ : L2.St} {H1 : Hp} {D : Addr} {Qd : Hp → Prop} (Pv : Nat → Hp → Prop) (h0 : Pv 0 (upd H1 D (.lst []))) (hl : ∀ i H,i ≤ xs.length → Pv i H → SqL K H a xs)
  (hw : ∀ x,wipe ((wipe σ vs).set j (some x)) vs = wipe σ vs)
  (hs : ∀ i x H,xs[i]? = some x → Pv i H → te ((wipe σ vs).set j (some x)) H fun y H4=>∃ acc,H4 D = some (.lst acc) ∧ acc.length < sizeLine ∧ Pv (i + 1) (upd H4 D (.lst (acc ++ [y])))) (hd : ∀ H,Pv xs.length H → Qd H) :
  ∃ W : Nat → Nat → Hp → Prop,(∃ m,W 0 m (upd H1 D (.lst []))) ∧ ∀ i m H,W i m H →
   ((Itl K a).stop i H ∧ Qd H) ∨ ((Itl K a).go i H ∧ ∃ Nx : Hp → Prop,(∀ H',Nx H' → ∃ m',m' < m ∧ W (i + 1) m' H') ∧ ∀ x H',(Itl K a).yld i H x H' → gName j x (wipe σ vs) H' fun σ2 H2=>wipe σ2 vs = wipe σ vs ∧ tYes σ2 H2 fun b H3 =>
    if b = true then te σ2 H3 fun y H4=>∃ acc,H4 D = some (.lst acc) ∧ acc.length < sizeLine ∧ Nx (upd H4 D (.lst (acc ++ [y]))) else Nx H3) :=
 lc_list (g:=gName j) (tt:=tYes) (te:=te) Pv h0 hl (fun i x H e p=>⟨hw x,by
  unfold tYes
  exact iteT (hs i x H e p)⟩) hd
def kb (k : Nat) : Int:=if k = 0 then 0 else if k = 1 then 70 else if k = 2 then 67 else 80
def legF (l : Leg) : List (Str × V):=[("kind",.int (kb l.kind)),("quantity",.int l.qty),("underlying",.int (l.under : Nat)),("strike",.int (l.strike : Nat))]
structure Ads where
 leg : Addr
 rdr : Addr
 hou : Addr
 cur : Addr
 sta : Addr
 wrg : Addr
 wns : Addr
 win : Addr
def LegAt (D : Ads) (H : Hp) (a : Addr) (l : Leg) : Prop:=∃ dx,H a = some (.ins D.leg dx (legF l))
def BookAt (D : Ads) (H : Hp) (a : Addr) (b : Book) : Prop:=∃ ps : List Addr,H a = some (.lst (ps.map V.ref)) ∧ All2 (LegAt D H) ps b
theorem LegAt.same {D : Ads} {H H' : Hp} {a : Addr} {l : Leg} (h : LegAt D H a l) (s : Same H H') : LegAt D H' a l:=let ⟨dx,e⟩:=h; ⟨dx,s _ _ e⟩
theorem BookAt.same {D : Ads} {H H' : Hp} {a : Addr} {b : Book} (h : BookAt D H a b) (s : Same H H') : BookAt D H' a b:=let ⟨ps,e,r⟩:=h; ⟨ps,s _ _ e,r.imp fun _ _ x=>x.same s⟩
theorem Same.refl (H : Hp) : Same H H:=fun _ _ e=>e
theorem Same.new {H : Hp} {a : Addr} {o : HO} (n : H a = none) : Same H (upd H a o):=fun b u e=>by rw [upd_ne (ne_of_none e n)]; exact e
structure Txt (K : PySem.W.Frag) (mg : Str → Option Value) (D : Ads) : Prop where
 leg : Cls K D.leg
 leg_k : NoAttr K D.leg "kind"
 leg_q : NoAttr K D.leg "quantity"
 leg_u : NoAttr K D.leg "underlying"
 leg_s : NoAttr K D.leg "strike"
 rdr : Cls K D.rdr
 rdr_g : NoAttr K D.rdr "given"
 rdr_p : NoAttr K D.rdr "place"
 hou : Cls K D.hou
 hou_p : NoAttr K D.hou "prices_now"
 hou_m : NoAttr K D.hou "margins"
 hou_b : NoAttr K D.hou "books"
 hou_x : NoAttr K D.hou "boxes"
 cur : Cls K D.cur
 cur_s : NoAttr K D.cur "slope"
 cur_b : NoAttr K D.cur "bends"
 sta : Cls K D.sta
 sta_l : NoAttr K D.sta "loss_at_zeros"
 sta_c : NoAttr K D.sta "curves"
 wrg : XCls K D.wrg D.wns D.win
 wrg_p : XAttr K D.wns "place"
 mwrg : mg "WrongText" = some (.ref D.wrg)
 xlook : XLook K
 bExc : mg "Exception" = none
 bLen : mg "len" = none
 bSum : mg "sum" = none
 bMax : mg "max" = none
 bAbs : mg "abs" = none
 bStr : mg "str" = none
 bOrd : mg "ord" = none
 bSorted : mg "sorted" = none
 bAll : mg "all" = none
 bRange : mg "range" = none
 bEnum : mg "enumerate" = none
 bList : mg "list" = none
 bDict : mg "dict" = none
 MOST_PRICE : GV mg "MOST_PRICE" (.int 1000000)
 CASH : GV mg "CASH" (.int 0)
 CALL : GV mg "CALL" (.int 67)
 FORWARD : GV mg "FORWARD" (.int 70)
 PUT : GV mg "PUT" (.int 80)
 BLANK : GV mg "BLANK" (.int 32)
 PLUS : GV mg "PLUS" (.int 43)
 MINUS : GV mg "MINUS" (.int 45)
 ZERO : GV mg "ZERO" (.int 48)
 ONE : GV mg "ONE" (.int 49)
 FOUR : GV mg "FOUR" (.int 52)
 NINE : GV mg "NINE" (.int 57)
 AT : GV mg "AT" (.int 64)
 NO_BYTE : GV mg "NO_BYTE" (.int 256)
 MOST_CASH : GV mg "MOST_CASH" (.int 1000000000000000)
 MOST_CONTRACTS : GV mg "MOST_CONTRACTS" (.int 1000000000)
 MOST_MEMBERS : GV mg "MOST_MEMBERS" (.int 8)
 MOST_MARGIN : GV mg "MOST_MARGIN" (.int 1000000000000000)
 MOST_LEGS : GV mg "MOST_LEGS" (.int 24)
 MOST_KEY : GV mg "MOST_KEY" (.int 1000000000)
 MOST_BOXES : GV mg "MOST_BOXES" (.int 6)
 MOST_DEFAULTS : GV mg "MOST_DEFAULTS" (.int 3)
 MOST_FUND : GV mg "MOST_FUND" (.int 1000000000000000)
 FIRST_QUESTION : GV mg "FIRST_QUESTION" (.int 7)
 ZERO_PRICES : ∃ a : Addr,mg "ZERO_PRICES" = some (.ref a) ∧ ∀ H,SqT K H a [.int 0,.int 0,.int 0,.int 0]
 FORMS : ∃ (a : Addr) (fs : List Addr),mg "FORMS" = some (.ref a) ∧ (∀ H,SqT K H a (fs.map V.ref)) ∧ ∀ H,All2 (fun p (x : Int × Int)=>SqT K H p [.int x.1,.int x.2]) fs [(0,1),(2,1),(1,0),(2,0),(2,1),(1,1),(1,0),(0,1),(1,0),(2,0),(3,1),(2,0),(0,2),(1,0),(0,0),(1,0)]
section
variable {P : Program} {w : World} {K : PySem.W.Frag} {mg : Str → Option Value} {base : Heap} {D : Ads}
abbrev s_Leg_init : Stmt:=inClass (top 6) 0
def spMade (C : Addr) (n : Nat) (f : List V → List (Str × V)) : Sp:=fun vs H Q _=>∃ (p dx : Addr) (us : List V),vs = .ref p :: us ∧ us.length = n ∧ H p = some (.ins C dx []) ∧ ∀ H' : Hp,H' p = some (.ins C dx (f us)) → (∀ b o,H b = some o → b ≠ p → H' b = some o) → Q .non H'
def legFs : List V → List (Str × V)
 | [a,b,c,d]=>[("kind",a),("quantity",b),("underlying",c),("strike",d)]
 | _=>[]
theorem sc_leg : FnScope ["self","kind","quantity","underlying","strike"] ["self","kind","quantity","underlying","strike"] (defScope s_Leg_init):=scm
theorem len_put {f : Str} {v : V} {fs : List (Str × V)} {n : Nat} (h : fs.length < n) : (putF f v fs).length < n + 1:=Nat.lt_of_le_of_lt (length_putF f v fs) (Nat.succ_lt_succ h)
theorem lp1 {f : Str} {v : V} : (putF f v []).length < 1000:=Nat.lt_of_lt_of_le (len_put (n:=1) (by decide)) (by decide)
theorem lp2 {f g : Str} {v u : V} : (putF f v (putF g u [])).length < 1000:=Nat.lt_of_lt_of_le (len_put (len_put (n:=1) (by decide))) (by decide)
theorem lp3 {f g h : Str} {v u x : V} : (putF f v (putF g u (putF h x []))).length < 1000:=Nat.lt_of_lt_of_le (len_put (len_put (len_put (n:=1) (by decide)))) (by decide)
theorem put4 (a b c d : V) : putF "strike" d (putF "underlying" c (putF "quantity" b (putF "kind" a []))) = legFs [a,b,c,d]:=by
 have e1 : ¬ ("kind" : Str) = "quantity":=by decide +kernel
 have e2 : ¬ ("kind" : Str) = "underlying":=by decide +kernel
 have e3 : ¬ ("kind" : Str) = "strike":=by decide +kernel
 have e4 : ¬ ("quantity" : Str) = "underlying":=by decide +kernel
 have e5 : ¬ ("quantity" : Str) = "strike":=by decide +kernel
 have e6 : ¬ ("underlying" : Str) = "strike":=by decide +kernel
 simp only [putF,if_neg e1,if_neg e2,if_neg e3,if_neg e4,if_neg e5,if_neg e6]
 rfl
theorem ok_leg_init (F : FunI K mg D.leg "Leg" "Leg.__init__" s_Leg_init) (T : Txt K mg D) : CalC P w K mg base 1 D.leg "Leg" ["self","kind","quantity","underlying","strike"] (spMade D.leg 4 legFs):=by
 obtain ⟨f,fd,F,M,hm⟩:=F
 refine ⟨f,fd,F.ok sc_leg (fun vs H Q E h=>?_) (fun cdv A outer s H vs Q E hr h=>?_),M,hm,F.binds fun _ _ _ _ _ _ us hl=>match us,hl with | [_,_,_,_,_],_=>rfl⟩
 ·obtain ⟨p,dx,us,rfl,hl,_⟩:=h
  simp [hl]
 ·obtain ⟨p,dx,us,rfl,hl,hp,k⟩:=h
  match us,hl with
  | [a,b,c,d],_ =>
   refine ⟨_,pss_cons (ps_fld (pv 0) (pv 1) rfl) (pss_cons (ps_fld (pv 0) (pv 2) rfl) (pss_cons (ps_fld (pv 0) (pv 3) rfl) (pss_one (ps_fld (pv 0) (pv 4) rfl)))),?_⟩
   refine ⟨_,rfl,_,rfl,p,D.leg,dx,_,rfl,hp,T.leg,T.leg_k,(by show 0 < 1000; decide),?_⟩
   refine ⟨_,rfl,_,rfl,p,D.leg,dx,_,rfl,upd_same,T.leg,T.leg_q,lp1,?_⟩
   refine ⟨_,rfl,_,rfl,p,D.leg,dx,_,rfl,upd_same,T.leg,T.leg_u,lp2,?_⟩
   refine ⟨_,rfl,_,rfl,p,D.leg,dx,_,rfl,upd_same,T.leg,T.leg_s,lp3,?_⟩
   rw [put4]
   refine k _ upd_same fun q o e hq=>?_
   rw [upd_ne hq,upd_ne hq,upd_ne hq,upd_ne hq]
   exact e
end
end VD
set_option maxRecDepth 100000
set_option maxHeartbeats 2000000
namespace VD
open PySem PySem.Spec PyProof.Rows L2 VM VX XL
open Vbchai (Leg Book Member Scene State Prices pays priceOf)
section
variable {P : Program} {w : World} {K : PySem.W.Frag} {mg : Str → Option Value} {base : Heap} {D : Ads}
theorem legF_k (l : Leg) : (legF l).lookup ("kind" : Str) = some (.int (kb l.kind)):=rfl
theorem legF_q (l : Leg) : (legF l).lookup ("quantity" : Str) = some (.int l.qty):=rfl
theorem legF_u (l : Leg) : (legF l).lookup ("underlying" : Str) = some (.int (l.under : Nat)):=rfl
theorem legF_s (l : Leg) : (legF l).lookup ("strike" : Str) = some (.int (l.strike : Nat)):=rfl
abbrev s_opposite : Stmt:=top 7
def opp (l : Leg) : Leg:={ l with qty:=-l.qty }
def spOpp (D : Ads) : Sp:=fun vs H Q _=>∃ (a : Addr) (l : Leg),vs = [.ref a] ∧ LegAt D H a l ∧ ∀ (H' : Hp) (p : Addr),LegAt D H' p (opp l) → Same H H' → Q (.ref p) H'
theorem sc_opp : FnScope ["leg"] ["leg"] (defScope s_opposite):=scm
theorem ok_opp (F : FunG K mg "opposite" s_opposite) (T : Txt K mg D) (cL : CalC P w K mg base 1 D.leg "Leg" ["self","kind","quantity","underlying","strike"] (spMade D.leg 4 legFs)) : Cal P w K mg base CX0 3 "opposite" ["leg"] (spOpp D):=by
 obtain ⟨f,fd,F,hm⟩:=F
 refine ⟨f,fd,F.ok sc_opp (fun vs H Q E h=>?_) (fun cdv A outer s H vs Q E hr h=>?_),hm,F.kp,F.binds fun _ _ _ _ _ _ us hl=>match us,hl with | [_],_=>rfl⟩
 ·obtain ⟨a,l,rfl,_⟩:=h
  rfl
 ·obtain ⟨a,l,rfl,⟨d,hl⟩,k⟩:=h
  refine ⟨_,pss_one (ps_ret (pe_calC cL hr rfl (pa_cons (pe_fld (pv 0) rfl) (pa_cons (pe_un un_neg (pe_fld (pv 0) rfl)) (pa_cons (pe_fld (pv 0) rfl) (pa_cons (pe_fld (pv 0) rfl) pa_nil)))))),?_⟩
  refine ⟨_,rfl,a,D.leg,d,_,_,rfl,hl,T.leg,T.leg_k,legF_k l,_,rfl,a,D.leg,d,_,_,rfl,hl,T.leg,T.leg_q,legF_q l,_,rfl,_,rfl,a,D.leg,d,_,_,rfl,hl,T.leg,T.leg_u,legF_u l,_,rfl,a,D.leg,d,_,_,rfl,hl,T.leg,T.leg_s,legF_s l,?_⟩
  intro x dx n1 n2 n3
  refine ⟨x,dx,_,rfl,rfl,upd_same,fun H' e1 e2=>⟨rfl,?_⟩⟩
  exact k H' x ⟨dx,e1⟩ (Same.made n1 n2 e2)
def natsV (p : List Nat) : List V:=p.map fun n=>V.int (n : Nat)
def PricesAt (K : PySem.W.Frag) (H : Hp) (a : Addr) (p : Prices) : Prop:=SqL K H a (natsV p) ∨ SqT K H a (natsV p)
theorem Same.sqT {K : PySem.W.Frag} {H H' : Hp} {a : Addr} {xs : List V} (e : Same H H') (h : SqT K H a xs) : SqT K H' a xs:=by
 rcases h with (h | ⟨o,h⟩) | h
 ·exact .inl (.inl (e _ _ h))
 ·exact .inl (.inr ⟨o,e _ _ h⟩)
 ·exact .inr h
theorem PricesAt.same {K : PySem.W.Frag} {H H' : Hp} {a : Addr} {p : Prices} (h : PricesAt K H a p) (s : Same H H') : PricesAt K H' a p:=h.elim (fun h=>.inl (s.seq h)) fun h=>.inr (Same.sqT s h)
theorem rIx_of {K : PySem.W.Frag} {H : Hp} {b : Addr} {xs : List V} {i : Int} {v : V} {Q : VK} (hp : SqL K H b xs ∨ SqT K H b xs) (hat : atI xs i = some v) (q : Q v H) : rIx K (.ref b) (.int i) H Q :=
 hp.elim (fun h=>.inl ⟨b,xs,i,v,rfl,rfl,h,hat,q⟩) fun h=>.inr (.inl ⟨b,xs,i,v,rfl,rfl,h,hat,q⟩)
abbrev s_worth_of_one : Stmt:=top 8
def spOne (K : PySem.W.Frag) (D : Ads) : Sp:=fun vs H Q _=>∃ (a b : Addr) (l : Leg) (p : Prices),vs = [.ref a,.ref b] ∧ LegAt D H a l ∧ LegOk l ∧ PricesAt K H b p ∧ p.length = 4 ∧ Q (.int (pays l.kind l.strike (priceOf p l.under))) H
theorem sc_one : FnScope ["leg","prices","price"] ["leg","prices"] (defScope s_worth_of_one):=scm
theorem kb_0 {k : Nat} : kb k = 0 ↔ k = 0:=by
 unfold kb
 by_cases h0 : k = 0 <;> by_cases h1 : k = 1 <;> by_cases h2 : k = 2 <;> simp [h0,h1,h2]
theorem kb_1 {k : Nat} : kb k = 70 ↔ k = 1:=by
 unfold kb
 by_cases h0 : k = 0 <;> by_cases h1 : k = 1 <;> by_cases h2 : k = 2 <;> simp [h0,h1,h2]
theorem kb_2 {k : Nat} : kb k = 67 ↔ k = 2:=by
 unfold kb
 by_cases h0 : k = 0 <;> by_cases h1 : k = 1 <;> by_cases h2 : k = 2 <;> simp [h0,h1,h2]
theorem ok_one (F : FunG K mg "worth_of_one" s_worth_of_one) (T : Txt K mg D) : Cal P w K mg base CX0 1 "worth_of_one" ["leg","prices"] (spOne K D):=by
 obtain ⟨f,fd,F,hm⟩:=F
 refine ⟨f,fd,F.ok sc_one (fun vs H Q E h=>?_) (fun cdv A outer s H vs Q E hr h=>?_),hm,F.kp,F.binds fun _ _ _ _ _ _ us hl=>match us,hl with | [_,_],_=>rfl⟩
 ·obtain ⟨a,b,l,p,rfl,_⟩:=h
  rfl
 ·obtain ⟨a,b,l,p,rfl,⟨d,hl⟩,lk,hp,h4,k⟩:=h
  refine ⟨_,pss_cons (ps_if (pt_cmpR op_eq (pe_fld (pv 0) rfl) (pe_gv rfl T.CASH) (nomark _)) (pss_one (ps_ret pe_int)) pss_nil)
   (pss_cons (ps_set (i:=2) sc_one.nd rfl (Or.inl rfl) (pe_ix ix_seq (pv 1) (pe_op op_sub (pe_fld (pv 0) rfl) pe_int) (fun _ _=>rfl)))
   (pss_cons (ps_if (pt_cmpR op_eq (pe_fld (pv 0) rfl) (pe_gv rfl T.FORWARD) (nomark _)) (pss_one (ps_ret (pe_op op_sub (pv 2) (pe_fld (pv 0) rfl)))) pss_nil)
   (pss_cons (ps_if (pt_cmpR op_eq (pe_fld (pv 0) rfl) (pe_gv rfl T.CALL) (nomark _)) (pss_one (ps_ret (pe_callB (call_max2 rfl) (by rfl) T.bMax boot_max (pa_cons (pe_op op_sub (pv 2) (pe_fld (pv 0) rfl)) (pa_cons pe_int pa_nil))))) pss_nil)
   (pss_one (ps_ret (pe_callB (call_max2 rfl) (by rfl) T.bMax boot_max (pa_cons (pe_op op_sub (pe_fld (pv 0) rfl) (pv 2)) (pa_cons pe_int pa_nil)))))))),?_⟩
  refine ⟨_,rfl,a,D.leg,d,_,_,rfl,hl,T.leg,T.leg_k,legF_k l,rfl,_,rfl,?_⟩
  have ek : ∀ n : Int,decide (V.int (kb l.kind) = V.int n) = decide (kb l.kind = n):=fun n=>by simp
  rw [ek]
  refine ite2 (fun z=>?_) (fun z=>?_)
  ·have z:=kb_0.mp (of_decide_eq_true z)
   rw [z] at k
   exact k
  ·have hk : l.kind ≠ 0:=fun e=>z (decide_eq_true (kb_0.mpr e))
   obtain ⟨u1,u4⟩:=lk.under hk
   have hpr : (natsV p)[l.under - 1]? = some (V.int (priceOf p l.under : Nat)):=by
    unfold natsV priceOf
    rw [List.getElem?_map,List.getD_eq_getElem?_getD,List.getElem?_eq_getElem (by omega)]
    rfl
   have hat : atI (natsV p) ((l.under : Int) - 1) = some (V.int (priceOf p l.under : Nat)):=at_of (j:=l.under - 1) (by omega) hpr
   refine ⟨_,rfl,_,rfl,a,D.leg,d,_,_,rfl,hl,T.leg,T.leg_u,legF_u l,_,_,rfl,rfl,?_⟩
   refine rIx_of hp hat ?_
   refine ⟨_,rfl,a,D.leg,d,_,_,rfl,hl,T.leg,T.leg_k,legF_k l,rfl,_,rfl,?_⟩
   rw [ek]
   refine ite2 (fun z1=>?_) (fun z1=>?_)
   ·have z1:=kb_1.mp (of_decide_eq_true z1)
    refine ⟨_,rfl,_,rfl,a,D.leg,d,_,_,rfl,hl,T.leg,T.leg_s,legF_s l,_,_,rfl,rfl,?_⟩
    rw [z1] at k
    exact k
   ·refine ⟨_,rfl,a,D.leg,d,_,_,rfl,hl,T.leg,T.leg_k,legF_k l,rfl,_,rfl,?_⟩
    rw [ek]
    refine ite2 (fun z2=>?_) (fun z2=>?_)
    ·have z2:=kb_2.mp (of_decide_eq_true z2)
     refine ⟨_,rfl,_,rfl,a,D.leg,d,_,_,rfl,hl,T.leg,T.leg_s,legF_s l,_,_,rfl,rfl,_,_,rfl,?_⟩
     rw [z2] at k
     have e : (if (0 : Int) > ((priceOf p l.under : Nat) : Int) - (l.strike : Nat) then (0 : Int) else ((priceOf p l.under : Nat) : Int) - (l.strike : Nat)) = pays 2 l.strike (priceOf p l.under):=by
      show _ = (((priceOf p l.under) - l.strike : Nat) : Int)
      split <;> omega
     rw [e]
     exact k
    ·refine ⟨_,rfl,a,D.leg,d,_,_,rfl,hl,T.leg,T.leg_s,legF_s l,_,rfl,_,_,rfl,rfl,_,_,rfl,?_⟩
     have hk3 : l.kind = 3:=by
      have h1 : l.kind ≠ 1:=fun e=>z1 (decide_eq_true (kb_1.mpr e))
      have h2 : l.kind ≠ 2:=fun e=>z2 (decide_eq_true (kb_2.mpr e))
      have:=lk.kind
      omega
     rw [hk3] at k
     have e : (if (0 : Int) > ((l.strike : Nat) : Int) - (priceOf p l.under : Nat) then (0 : Int) else ((l.strike : Nat) : Int) - (priceOf p l.under : Nat)) = pays 3 l.strike (priceOf p l.under):=by
      show _ = ((l.strike - (priceOf p l.under) : Nat) : Int)
      split <;> omega
     rw [e]
     exact k
abbrev s_worth : Stmt:=top 9
def spWorth (K : PySem.W.Frag) (D : Ads) : Sp:=fun vs H Q _=>∃ (a b : Addr) (bk : Book) (p : Prices),vs = [.ref a,.ref b] ∧ BookAt D H a bk ∧ (∀ l ∈ bk,LegOk l) ∧ bk.length ≤ 1000 ∧ PricesAt K H b p ∧ p.length = 4 ∧ ∀ H' : Hp,Same H H' → Q (.int (Vbchai.worth bk p)) H'
theorem sc_worth : FnScope ["legs","prices","leg"] ["legs","prices"] (defScope s_worth):=scm
theorem take_snoc {α : Type} {l : List α} {i : Nat} {x : α} (h : l[i]? = some x) : l.take (i + 1) = l.take i ++ [x]:=by
 obtain ⟨h1,h2⟩:=List.getElem?_eq_some_iff.mp h
 rw [List.take_succ,h]; rfl
theorem refs_at {ps : List Addr} {i : Nat} {x : V} (h : (ps.map V.ref)[i]? = some x) : ∃ q,ps[i]? = some q ∧ x = V.ref q:=by
 rw [List.getElem?_map] at h
 cases e : ps[i]? with
 | none=>rw [e] at h; cases h
 | some q=>rw [e] at h; exact ⟨q,rfl,(Option.some.inj h).symm⟩
theorem lt_line {n : Nat} (h : n ≤ 100000) : n < sizeLine:=by rw [sizeLine_eq]; omega
theorem le_line {n : Nat} (h : n ≤ 100000) : n ≤ sizeLine:=Nat.le_of_lt (lt_line h)
theorem sqL_of {K : PySem.W.Frag} {H : Hp} {a : Addr} {xs : List V} (h : H a = some (.lst xs)) : SqL K H a xs:=.inl (.inl h)
theorem ok_worth (F : FunG K mg "worth" s_worth) (T : Txt K mg D) (cOne : Cal P w K mg base CX0 1 "worth_of_one" ["leg","prices"] (spOne K D)) : Cal P w K mg base CX0 2 "worth" ["legs","prices"] (spWorth K D):=by
 obtain ⟨f,fd,F,hm⟩:=F
 refine ⟨f,fd,F.ok sc_worth (fun vs H Q E h=>?_) (fun cdv A outer s H vs Q E hr h=>?_),hm,F.kp,F.binds fun _ _ _ _ _ _ us hl=>match us,hl with | [_,_],_=>rfl⟩
 ·obtain ⟨a,b,bk,p,rfl,_⟩:=h
  rfl
 ·obtain ⟨a,b,bk,p,rfl,⟨ps,ha,hps⟩,lk,hlen,hp,h4,k⟩:=h
  refine ⟨_,pss_one (ps_ret (pe_callB (cr_sum rfl) (by rfl) T.bSum boot_sum (pa_cons (pe_lc rfl sc_worth.nd (pi_list (pv 0)) (blkOk_by (own:=[("leg",2)]) (by rfl)) (fun _ _ _ _ _=>pg_name (i:=2) sc_worth.nd rfl (Or.inl rfl)) (fun _ _ _ _ _=>pts_nil)
   (fun _ _ _ _ _=>pe_op op_mul (pe_fldK (K:=K) rfl (pv 2) rfl) (pe_cal cOne hr rfl pass0 (pa_cons (pv 2) (pa_cons (pv 1) pa_nil))))) pa_nil))),?_⟩
  refine ⟨_,rfl,a,rfl,⟨_,sqL_of ha⟩,fun Dl hD=>lc_one (K:=K) (a:=a) (xs:=ps.map V.ref) (fun i H'=>Same H H' ∧ H' Dl = some (.lst (((bk.take i).map (Vbchai.legWorth p)).map V.int))) ⟨Same.new hD,upd_same⟩ (fun i H' _ ⟨s1,_⟩=>s1.seq (sqL_of ha)) (fun _=>rfl) ?_ ?_⟩
  ·rintro i x H' hi ⟨s1,hDl⟩
   obtain ⟨q,hq,rfl⟩:=refs_at hi
   obtain ⟨l,hl,d,hleg⟩:=hps.get hq
   have hok:=lk l (List.mem_of_getElem? hl)
   have hl':=s1 _ _ hleg
   refine ⟨_,rfl,q,D.leg,d,_,_,rfl,hl',T.leg,T.leg_q,legF_q l,_,rfl,_,rfl,q,b,l,p,rfl,⟨d,hl'⟩,hok,hp.same s1,h4,_,_,rfl,rfl,.inl ⟨by have:=hok.qlo; omega,by have:=hok.qhi; omega⟩,_,hDl,?_,?_,?_⟩
   ·rw [List.length_map,List.length_map,List.length_take]
    exact lt_line (Nat.le_trans (Nat.min_le_right _ _) (by omega))
   ·exact fun c o e=>by rw [upd_ne (ne_of_none e hD)]; exact s1 c o e
   ·rw [upd_same,take_snoc hl,List.map_append,List.map_append]
    rfl
  ·rintro H' ⟨s1,hDl⟩
   rw [List.length_map,hps.length,List.take_length] at hDl
   refine ⟨Dl,_,rfl,sqL_of hDl,?_⟩
   rw [← worth_sum]
   exact k H' s1
end
end VD
set_option maxRecDepth 100000
set_option maxHeartbeats 2000000
namespace VD
open PySem PySem.Spec PyProof.Rows L2 VM VX XL
open Vbchai (Leg Book Member Scene State Prices)
section
variable {P : Program} {w : World} {K : PySem.W.Frag} {mg : Str → Option Value} {base : Heap} {D : Ads}
abbrev s_Wrong_init : Stmt:=inClass (top 22) 0
def CalX (P : Program) (w : World) (K : PySem.W.Frag) (mg : Str → Option Value) (base : Heap) (D : Ads) : Prop:=∃ fd,FnOk P w K mg base CX0 1 D.win fd ["self","place"] (spXInit D.wrg "place") ∧ Binds K fd ["self","place"] []
theorem sc_wrong : FnScope ["self","place"] ["self","place"] (defScope s_Wrong_init):=scm
theorem ok_wrong {fd : FuncData} (F : Fun K "__init__" "WrongText.__init__" s_Wrong_init D.win fd) (T : Txt K mg D) : CalX P w K mg base D:=by
 refine ⟨fd,F.ok sc_wrong (fun vs H Q E h=>?_) (fun cdv A outer s H vs Q E hr h=>?_),F.binds fun _ _ _ _ _ _ us hl=>match us,hl with | [_,_],_=>rfl⟩
 ·obtain ⟨a,v,rfl,_⟩:=h
  rfl
 ·obtain ⟨a,v,rfl,ha,k⟩:=h
  refine ⟨_,pss_cons (ps_expr (pe_xinitG boot_Exception (by decide) (by decide) ty_Exception stub_Exception PySem.F.excBase_Exception (by decide +kernel) T.xlook rfl T.bExc (pa_cons (pv 0) (pa_cons (pv 1) pa_nil)))) (pss_one (ps_xfld (pv 0) (pv 1) rfl)),?_⟩
  refine ⟨_,rfl,_,rfl,a,D.wrg,D.wns,D.win,v,rfl,ha,T.wrg,?_⟩
  refine ⟨_,rfl,_,rfl,a,D.wrg,D.wns,D.win,rfl,ha,T.wrg,T.wrg_p,fun dx n1 n2=>?_⟩
  exact k _ dx upd_same (by rw [upd_ne n2,upd_same]) fun b o e hb=>by rw [upd_ne hb,upd_ne (ne_of_none e n1)]; exact e
def rdF (g : Addr) (i : Nat) : List (Str × V):=[("given",.ref g),("place",.int (i : Nat))]
theorem rdF_g (g : Addr) (i : Nat) : (rdF g i).lookup ("given" : Str) = some (.ref g):=rfl
theorem rdF_p (g : Addr) (i : Nat) : (rdF g i).lookup ("place" : Str) = some (.int (i : Nat)):=rfl
theorem rd_put (g : Addr) (i j : Nat) : putF "place" (.int ((j : Nat) : Int)) (rdF g i) = rdF g j:=by
 have e : ¬ ("given" : Str) = "place":=by decide +kernel
 simp only [rdF,putF,if_neg e]
 rfl
abbrev RdAt (D : Ads) (H : Hp) (a dx g : Addr) (i : Nat) : Prop:=H a = some (.ins D.rdr dx (rdF g i))
def SameBut (a : Addr) (H H' : Hp) : Prop:=∀ b o,H b = some o → b ≠ a → H' b = some o
theorem SameBut.refl (a : Addr) (H : Hp) : SameBut a H H:=fun _ _ e _=>e
theorem SameBut.trans {a : Addr} {H H1 H2 : Hp} (x : SameBut a H H1) (y : SameBut a H1 H2) : SameBut a H H2:=fun b o e n=>y b o (x b o e n) n
theorem SameBut.upd {a : Addr} {H H1 : Hp} {o : HO} (x : SameBut a H H1) : SameBut a H (L2.upd H1 a o):=fun b u e n=>by rw [upd_ne n]; exact x b u e n
theorem Same.but {a : Addr} {H H1 : Hp} (s : Same H H1) : SameBut a H H1:=fun b o e _=>s b o e
theorem SameBut.sqL {K : PySem.W.Frag} {H H' : Hp} {a g C dx : Addr} {fs : List (Str × V)} {xs : List V} (s : SameBut a H H') (ha : H a = some (.ins C dx fs)) (h : SqL K H g xs) : SqL K H' g xs:=by
 rcases h with (h | ⟨o,h⟩) | h
 ·exact .inl (.inl (s _ _ h fun z=>by rw [z,ha] at h; cases h))
 ·exact .inl (.inr ⟨o,s _ _ h fun z=>by rw [z,ha] at h; cases h⟩)
 ·exact .inr h
def Wrongs (D : Ads) (a : Addr) (H : Hp) (E : XK) (e : Nat) : Prop:=∀ (H' : Hp) (dx : Addr),H' dx = some (.xd [("place",.int (e : Nat))]) → SameBut a H H' → E (.ref D.wrg) (some dx) H'
theorem Wrongs.of {D : Ads} {a : Addr} {H H1 : Hp} {E : XK} {e : Nat} (k : Wrongs D a H E e) (s : SameBut a H H1) : Wrongs D a H1 E e:=fun H' dx h1 h2=>k H' dx h1 (s.trans h2)
theorem wrongs_raise {D : Ads} {a : Addr} {H : Hp} {E : XK} {e : Nat} (k : Wrongs D a H E e) : ∀ (H2 : Hp) (x dx : Addr),H x = none → H2 x = some (exD x D.wrg dx .none) → H2 dx = some (.xd [("place",.int (e : Nat))]) → (∀ b o,H b = some o → H2 b = some o) →
  ∃ x' dx' fs,V.ref x = .ref x' ∧ H2 x' = some (exD x' D.wrg dx' .none) ∧ H2 dx' = some (.xd fs) ∧ ∀ H3,Beside x' H2 H3 → E (.ref D.wrg) (some dx') H3:=fun H2 x dx h0 h1 h2 h3 =>
 ⟨x,dx,_,rfl,h1,h2,fun H3 hb=>k H3 dx (hb dx _ h2 fun z=>by rw [z,h1] at h2; cases h2) fun b o e _=>hb b o (h3 b o e) (ne_of_none e h0)⟩
abbrev s_Reader_init : Stmt:=inClass (top 23) 0
abbrev s_byte_ahead : Stmt:=inClass (top 23) 1
def rdFs : List V → List (Str × V)
 | [a]=>[("given",a),("place",.int 0)]
 | _=>[]
theorem sc_rinit : FnScope ["self","given"] ["self","given"] (defScope s_Reader_init):=scm
theorem ok_reader (F : FunI K mg D.rdr "Reader" "Reader.__init__" s_Reader_init) (T : Txt K mg D) : CalC P w K mg base 1 D.rdr "Reader" ["self","given"] (spMade D.rdr 1 rdFs):=by
 obtain ⟨f,fd,F,M,hm⟩:=F
 refine ⟨f,fd,F.ok sc_rinit (fun vs H Q E h=>?_) (fun cdv A outer s H vs Q E hr h=>?_),M,hm,F.binds fun _ _ _ _ _ _ us hl=>match us,hl with | [_,_],_=>rfl⟩
 ·obtain ⟨p,dx,us,rfl,hl,_⟩:=h
  simp [hl]
 ·obtain ⟨p,dx,us,rfl,hl,hp,k⟩:=h
  match us,hl with
  | [a],_ =>
   refine ⟨_,pss_cons (ps_fld (pv 0) (pv 1) rfl) (pss_one (ps_fld (pv 0) pe_int rfl)),?_⟩
   refine ⟨_,rfl,_,rfl,p,D.rdr,dx,_,rfl,hp,T.rdr,T.rdr_g,(by show 0 < 1000; decide),?_⟩
   refine ⟨_,rfl,p,D.rdr,dx,_,rfl,upd_same,T.rdr,T.rdr_p,lp1,?_⟩
   have e : putF "place" (.int 0) (putF "given" a []) = rdFs [a]:=by
    have e : ¬ ("given" : Str) = "place":=by decide +kernel
    simp only [putF,if_neg e]
    rfl
   rw [e]
   refine k _ upd_same fun q o e hq=>?_
   rw [upd_ne hq,upd_ne hq]
   exact e
def spByte (K : PySem.W.Frag) (D : Ads) : Sp:=fun vs H Q _=>∃ (a dx g : Addr) (t : List Nat) (i m : Nat),vs = [.ref a,.int (m : Nat)] ∧ RdAt D H a dx g i ∧ SqL K H g (natsV t) ∧ Q (.int (byteAt t (i + m) : Nat)) H
theorem sc_byte : FnScope ["self","steps","at"] ["self","steps"] (defScope s_byte_ahead):=scm
theorem natsV_at {t : List Nat} {i c : Nat} (h : t[i]? = some c) : (natsV t)[i]? = some (V.int (c : Nat)):=by unfold natsV; rw [List.getElem?_map,h]; rfl
theorem natsV_len (t : List Nat) : (natsV t).length = t.length:=by unfold natsV; rw [List.length_map]
theorem ok_byte (F : FunM K D.rdr "byte_ahead" "Reader.byte_ahead" s_byte_ahead) (T : Txt K mg D) : CalM P w K mg base CX0 1 D.rdr "byte_ahead" ["self","steps"] (spByte K D):=by
 obtain ⟨f,fd,F,M⟩:=F
 refine ⟨f,fd,F.ok sc_byte (fun vs H Q E h=>?_) (fun cdv A outer s H vs Q E hr h=>?_),M,F.binds fun _ _ _ _ _ _ us hl=>match us,hl with | [_,_],_=>rfl⟩
 ·obtain ⟨a,dx,g,t,i,m,rfl,_⟩:=h
  rfl
 ·obtain ⟨a,dx,g,t,i,m,rfl,ha,hg,k⟩:=h
  refine ⟨_,pss_cons (ps_set (i:=2) sc_byte.nd rfl (Or.inl rfl) (pe_op op_add (pe_fld (pv 0) rfl) (pv 1)))
   (pss_cons (ps_if (pt_cmpR op_lt (pv 2) (pe_callB call_len_seq (by rfl) T.bLen PySem.boot_len (pa_cons (pe_fld (pv 0) rfl) pa_nil)) (nomark _)) (pss_one (ps_ret (pe_ix ix_list (pe_fld (pv 0) rfl) (pv 2) (fun _ _=>rfl)))) pss_nil)
   (pss_one (ps_ret (pe_gv rfl T.NO_BYTE)))),?_⟩
  refine ⟨_,rfl,a,D.rdr,dx,_,_,rfl,ha,T.rdr,T.rdr_p,rdF_p g i,_,rfl,_,_,rfl,rfl,?_⟩
  refine ⟨_,rfl,_,rfl,a,D.rdr,dx,_,_,rfl,ha,T.rdr,T.rdr_g,rdF_g g i,g,_,rfl,.inl hg,_,_,rfl,rfl,_,rfl,?_⟩
  rw [natsV_len]
  refine ite2 (fun z=>?_) (fun z=>?_)
  ·have z:=of_decide_eq_true z
   have hlt : i + m < t.length:=by omega
   refine ⟨_,rfl,a,D.rdr,dx,_,_,rfl,ha,T.rdr,T.rdr_g,rdF_g g i,_,rfl,g,_,_,_,rfl,rfl,hg,at_of (j:=i + m) (by omega) (natsV_at (List.getElem?_eq_getElem hlt)),?_⟩
   have e : byteAt t (i + m) = t[i + m]:=byteAt_some (List.getElem?_eq_getElem hlt)
   rw [e] at k
   exact k
  ·have z : ¬ ((i : Int) + (m : Int) < (t.length : Int)):=fun q=>z (decide_eq_true q)
   have e : byteAt t (i + m) = 256:=byteAt_none (List.getElem?_eq_none_iff.mpr (by omega))
   rw [e] at k
   exact k
abbrev s_take_between : Stmt:=inClass (top 23) 2
abbrev s_take_byte : Stmt:=inClass (top 23) 3
def spBetween (K : PySem.W.Frag) (D : Ads) : Sp:=fun vs H Q E=>∃ (a dx g : Addr) (t : List Nat) (i lo hi : Nat),vs = [.ref a,.int (lo : Nat),.int (hi : Nat)] ∧ RdAt D H a dx g i ∧ SqL K H g (natsV t) ∧
 (lo ≤ byteAt t i ∧ byteAt t i ≤ hi → ∀ H',RdAt D H' a dx g (i + 1) → SameBut a H H' → Q (.int (byteAt t i : Nat)) H') ∧ (¬ (lo ≤ byteAt t i ∧ byteAt t i ≤ hi) → Wrongs D a H E i)
theorem sc_between : FnScope ["self","least","greatest","byte"] ["self","least","greatest"] (defScope s_take_between):=scm
theorem ok_between (F : FunM K D.rdr "take_between" "Reader.take_between" s_take_between) (T : Txt K mg D) (cB : CalM P w K mg base CX0 1 D.rdr "byte_ahead" ["self","steps"] (spByte K D)) (cX : CalX P w K mg base D) :
  CalM P w K mg base (CX1 P w) 3 D.rdr "take_between" ["self","least","greatest"] (spBetween K D):=by
 obtain ⟨f,fd,F,M⟩:=F
 obtain ⟨fdX,GX,bX⟩:=cX
 refine ⟨f,fd,Fun.ok1 F sc_between (fun vs H Q E h=>?_) (fun cdv A outer s H vs Q E hr h=>?_),M,F.binds fun _ _ _ _ _ _ us hl=>match us,hl with | [_,_,_],_=>rfl⟩
 ·obtain ⟨a,dx,g,t,i,lo,hi,rfl,_⟩:=h
  rfl
 ·obtain ⟨a,dx,g,t,i,lo,hi,rfl,ha,hg,k1,k2⟩:=h
  have hr1 : Room 1 _:=hr.mono (by decide)
  refine ⟨_,pss_cons (ps_set (i:=3) sc_between.nd rfl (Or.inl rfl) (pe_calM cB (pv 0) T.rdr hr1 pass0 (pa_cons pe_int pa_nil)))
   (pss_cons (ps_if (pw_or (pt_cmpR op_lt (pv 3) (pv 1) (nomark _)) (pw_or1 (pt_cmpR op_gt (pv 3) (pv 2) (nomark _)))).pt (pss_one (ps_raise T.wrg hr.hd throws1 (pe_newX T.wrg GX hr bX rfl T.mwrg (pe_fld (pv 0) rfl)))) pss_nil)
   (pss_cons (ps_fldaug (pv 0) pe_int in_add)
   (pss_one (ps_ret (pv 3))))),?_⟩
  refine ⟨_,rfl,a,dx,_,rfl,ha,rfl,a,dx,g,t,i,0,rfl,ha,hg,?_⟩
  refine ⟨_,rfl,_,rfl,_,_,rfl,rfl,_,rfl,?_⟩
  refine ite2 (fun z=>?_) (fun z=>?_)
  ·have z:=of_decide_eq_true z
   refine iteT ⟨_,rfl,a,D.rdr,dx,_,_,rfl,ha,T.rdr,T.rdr_p,rdF_p g i,?_⟩
   exact wrongs_raise (k2 (by rintro ⟨q1,q2⟩; rw [Nat.add_zero] at z; omega))
  ·have z : ¬ (((byteAt t (i + 0) : Nat) : Int) < (lo : Nat)):=fun q=>z (decide_eq_true q)
   refine ⟨_,rfl,_,rfl,_,_,rfl,rfl,_,rfl,?_⟩
   refine ite2 (fun z2=>?_) (fun z2=>?_)
   ·have z2:=of_decide_eq_true z2
    refine ⟨_,rfl,a,D.rdr,dx,_,_,rfl,ha,T.rdr,T.rdr_p,rdF_p g i,?_⟩
    exact wrongs_raise (k2 (by rintro ⟨q1,q2⟩; rw [Nat.add_zero] at z2; omega))
   ·have z2 : ¬ (((hi : Nat) : Int) < (byteAt t (i + 0) : Nat)):=fun q=>z2 (decide_eq_true q)
    rw [Nat.add_zero] at z z2
    refine ⟨_,rfl,a,D.rdr,dx,_,_,rfl,ha,T.rdr,T.rdr_p,rdF_p g i,_,_,rfl,rfl,dx,_,ha,(by show 2 < 1000; decide),?_⟩
    refine ⟨_,rfl,?_⟩
    rw [show ((i : Nat) : Int) + 1 = ((i + 1 : Nat) : Int) by omega,rd_put]
    exact k1 ⟨by omega,by omega⟩ _ upd_same (SameBut.refl a H).upd
def spTakeByte (K : PySem.W.Frag) (D : Ads) : Sp:=fun vs H Q E=>∃ (a dx g : Addr) (t : List Nat) (i c : Nat),vs = [.ref a,.int (c : Nat)] ∧ RdAt D H a dx g i ∧ SqL K H g (natsV t) ∧
 (byteAt t i = c → ∀ H',RdAt D H' a dx g (i + 1) → SameBut a H H' → Q .non H') ∧ (byteAt t i ≠ c → Wrongs D a H E i)
theorem sc_tbyte : FnScope ["self","wanted"] ["self","wanted"] (defScope s_take_byte):=scm
theorem ok_tbyte (F : FunM K D.rdr "take_byte" "Reader.take_byte" s_take_byte) (T : Txt K mg D) (cT : CalM P w K mg base (CX1 P w) 3 D.rdr "take_between" ["self","least","greatest"] (spBetween K D)) :
  CalM P w K mg base (CX1 P w) 4 D.rdr "take_byte" ["self","wanted"] (spTakeByte K D):=by
 obtain ⟨f,fd,F,M⟩:=F
 refine ⟨f,fd,Fun.ok1 F sc_tbyte (fun vs H Q E h=>?_) (fun cdv A outer s H vs Q E hr h=>?_),M,F.binds fun _ _ _ _ _ _ us hl=>match us,hl with | [_,_],_=>rfl⟩
 ·obtain ⟨a,dx,g,t,i,c,rfl,_⟩:=h
  rfl
 ·obtain ⟨a,dx,g,t,i,c,rfl,ha,hg,k1,k2⟩:=h
  refine ⟨_,pss_one (ps_expr (pe_calM cT (pv 0) T.rdr hr passes1 (pa_cons (pv 1) (pa_cons (pv 1) pa_nil)))),?_⟩
  refine ⟨_,rfl,a,dx,_,rfl,ha,rfl,_,rfl,_,rfl,a,dx,g,t,i,c,c,rfl,ha,hg,fun z H' h1 h2=>?_,fun z=>k2 fun q=>z (by omega)⟩
  exact k1 (by omega) H' h1 h2
abbrev s_take_number : Stmt:=inClass (top 23) 4
abbrev s_take_strike : Stmt:=inClass (top 23) 5
def Reads (D : Ads) (a dx g : Addr) (H : Hp) (Q : VK) (E : XK) {β : Type} (val : β → V) (r : Nat ⊕ (β × Nat)) : Prop :=
 (∀ n j,r = .inr (n,j) → ∀ H',RdAt D H' a dx g j → SameBut a H H' → Q (val n) H') ∧ ∀ e,r = .inl e → Wrongs D a H E e
def natV (n : Nat) : V:=.int (n : Nat)
def spNumber (K : PySem.W.Frag) (D : Ads) : Sp:=fun vs H Q E=>∃ (a dx g : Addr) (t : List Nat) (i most : Nat),vs = [.ref a,.int (most : Nat)] ∧ 9 ≤ most ∧ RdAt D H a dx g i ∧ SqL K H g (natsV t) ∧ Reads D a dx g H Q E natV (tkN t most i)
theorem sc_number : FnScope ["self","most","number"] ["self","most"] (defScope s_take_number):=scm
theorem ok_number (F : FunM K D.rdr "take_number" "Reader.take_number" s_take_number) (T : Txt K mg D) (cB : CalM P w K mg base CX0 1 D.rdr "byte_ahead" ["self","steps"] (spByte K D)) (cX : CalX P w K mg base D)
  (cT : CalM P w K mg base (CX1 P w) 3 D.rdr "take_between" ["self","least","greatest"] (spBetween K D)) : CalM P w K mg base (CX1 P w) 4 D.rdr "take_number" ["self","most"] (spNumber K D):=by
 obtain ⟨f,fd,F,M⟩:=F
 obtain ⟨fdX,GX,bX⟩:=cX
 refine ⟨f,fd,Fun.ok1 F sc_number (fun vs H Q E h=>?_) (fun cdv A outer s H vs Q E hr h=>?_),M,F.binds fun _ _ _ _ _ _ us hl=>match us,hl with | [_,_],_=>rfl⟩
 ·obtain ⟨a,dx,g,t,i,most,rfl,_⟩:=h
  rfl
 ·obtain ⟨a,dx,g,t,i,most,rfl,hmost,ha,hg,k1,k2⟩:=h
  have hr1 : Room 1 _:=hr.mono (by decide)
  have hr2 : Room 2 _:=hr.mono (by decide)
  refine ⟨_,pss_cons (ps_set (i:=2) sc_number.nd rfl (Or.inl rfl) (pe_op op_sub (pe_calM cT (pv 0) T.rdr hr passes1 (pa_cons (pe_gv rfl T.ONE) (pa_cons (pe_gv rfl T.NINE) pa_nil))) (pe_gv rfl T.ZERO)))
   (pss_cons (ps_while own1 (pt_chain op_le op_le (pe_gv rfl T.ZERO) (pe_calM cB (pv 0) T.rdr hr1 pass0 (pa_cons pe_int pa_nil)) (pe_gv rfl T.NINE))
    (pss_cons (ps_set (i:=2) sc_number.nd rfl (Or.inl rfl) (pe_op op_sub (pe_op op_add (pe_op op_mul pe_int (pv 2)) (pe_calM cB (pv 0) T.rdr hr1 pass0 (pa_cons pe_int pa_nil))) (pe_gv rfl T.ZERO)))
    (pss_cons (ps_if (pt_cmpR op_gt (pv 2) (pv 1) (nomark _)) (pss_one (ps_raise T.wrg hr.hd throws1 (pe_newX T.wrg GX hr2 bX rfl T.mwrg (pe_fld (pv 0) rfl)))) pss_nil)
    (pss_one (ps_fldaug (pv 0) pe_int in_add)))))
   (pss_one (ps_ret (pv 2)))),?_⟩
  refine ⟨_,rfl,a,dx,_,rfl,ha,rfl,a,dx,g,t,i,49,57,rfl,ha,hg,fun z H1 h1 s1=>?_,fun z=>k2 i (by unfold tkN; rw [if_neg z])⟩
  have hi : i < t.length:=le_of_drop (by omega)
  have hN : tkN t most i = tkD t most (t.length + 1 - i) (byteAt t i - 48) (i + 1):=by unfold tkN; rw [if_pos z]
  refine ⟨_,_,rfl,rfl,?_⟩
  dsimp only
  rw [show ((byteAt t i : Nat) : Int) - 48 = ((byteAt t i - 48 : Nat) : Int) by omega]
  refine ⟨fun m σ H'=>∃ n j : Nat,m = t.length + 1 - j ∧ σ = [some (.ref a),some (.int (most : Nat)),some (.int (n : Nat))] ∧ RdAt D H' a dx g j ∧ SameBut a H H' ∧ j ≤ t.length + 1 ∧ tkN t most i = tkD t most (t.length + 2 - j) n j,
   ⟨_,byteAt t i - 48,i + 1,rfl,rfl,h1,s1,by omega,hN.trans (by congr 1; omega)⟩,?_⟩
  rintro m σ H2 ⟨n,j,rfl,rfl,h2,s2,hj,ht⟩
  have hg2:=s2.sqL ha hg
  refine ⟨_,rfl,a,dx,_,rfl,h2,rfl,a,dx,g,t,j,0,rfl,h2,hg2,_,_,rfl,rfl,_,rfl,?_⟩
  have fin : ¬ (48 ≤ byteAt t j ∧ byteAt t j ≤ 57) → tkN t most i = .inr (n,j):=fun q=>by
   rw [ht]
   cases t.length + 2 - j with
   | zero=>rfl
   | succ f=>rw [tkD,if_neg q]
  rw [Nat.add_zero]
  refine ite2 (fun z1=>?_) (fun z1=>?_)
  ·have z1:=of_decide_eq_true z1
   refine ⟨_,_,rfl,rfl,_,rfl,?_⟩
   refine ite2 (fun z2=>?_) (fun z2=>?_)
   ·have z2:=of_decide_eq_true z2
    have hd : 48 ≤ byteAt t j ∧ byteAt t j ≤ 57:=⟨by omega,by omega⟩
    have hjl : j < t.length:=le_of_drop (by omega)
    have hs : tkD t most (t.length + 2 - j) n j = if most < 10 * n + (byteAt t j - 48) then .inl j else tkD t most (t.length + 2 - (j + 1)) (10 * n + (byteAt t j - 48)) (j + 1):=by
     rw [show t.length + 2 - j = (t.length + 2 - (j + 1)) + 1 by omega,tkD,if_pos hd]
    refine ⟨fun σ' H'=>∃ m',m' < t.length + 1 - j ∧ ∃ n j : Nat,m' = t.length + 1 - j ∧ σ' = [some (.ref a),some (.int (most : Nat)),some (.int (n : Nat))] ∧ RdAt D H' a dx g j ∧ SameBut a H H' ∧ j ≤ t.length + 1 ∧ tkN t most i = tkD t most (t.length + 2 - j) n j,fun _ _ h=>h,?_⟩
    refine ⟨_,rfl,_,_,rfl,rfl,.inl ⟨by decide,by decide⟩,_,rfl,a,dx,_,rfl,h2,rfl,a,dx,g,t,j,0,rfl,h2,hg2,_,_,rfl,rfl,_,_,rfl,rfl,?_⟩
    dsimp only
    rw [Nat.add_zero,show 10 * ((n : Nat) : Int) + ((byteAt t j : Nat) : Int) - 48 = ((10 * n + (byteAt t j - 48) : Nat) : Int) by omega]
    refine ⟨_,rfl,_,rfl,_,_,rfl,rfl,_,rfl,?_⟩
    refine ite2 (fun z3=>?_) (fun z3=>?_)
    ·have z3:=of_decide_eq_true z3
     refine ⟨_,rfl,a,D.rdr,dx,_,_,rfl,h2,T.rdr,T.rdr_p,rdF_p g j,?_⟩
     exact wrongs_raise ((k2 j (by rw [ht,hs,if_pos (by omega)])).of s2)
    ·have z3 : ¬ (((most : Nat) : Int) < ((10 * n + (byteAt t j - 48) : Nat) : Int)):=fun q=>z3 (decide_eq_true q)
     refine ⟨_,rfl,a,D.rdr,dx,_,_,rfl,h2,T.rdr,T.rdr_p,rdF_p g j,_,_,rfl,rfl,dx,_,h2,(by show 2 < 1000; decide),?_⟩
     rw [show ((j : Nat) : Int) + 1 = ((j + 1 : Nat) : Int) by omega,rd_put]
     exact ⟨_,(by omega : t.length + 1 - (j + 1) < t.length + 1 - j),10 * n + (byteAt t j - 48),j + 1,rfl,rfl,upd_same,s2.upd,by omega,by rw [ht,hs,if_neg (by omega)]⟩
   ·have z2 : ¬ (((byteAt t j : Nat) : Int) ≤ 57):=fun q=>z2 (decide_eq_true q)
    refine ⟨_,rfl,?_⟩
    exact k1 n j (fin (by omega)) H2 h2 s2
  ·have z1 : ¬ ((48 : Int) ≤ ((byteAt t j : Nat) : Int)):=fun q=>z1 (decide_eq_true q)
   refine ⟨_,rfl,iteF ?_⟩
   refine ⟨_,rfl,?_⟩
   exact k1 n j (fin (by omega)) H2 h2 s2
def spStrike (K : PySem.W.Frag) (D : Ads) : Sp:=fun vs H Q E=>∃ (a dx g : Addr) (t : List Nat) (i : Nat),vs = [.ref a] ∧ RdAt D H a dx g i ∧ SqL K H g (natsV t) ∧ Reads D a dx g H Q E natV (tkS t i)
theorem sc_strike : FnScope ["self"] ["self"] (defScope s_take_strike):=scm
theorem dec_int_eq (x y : Int) : decide (V.int x = V.int y) = decide (x = y):=by simp
theorem ok_strike (F : FunM K D.rdr "take_strike" "Reader.take_strike" s_take_strike) (T : Txt K mg D) (cB : CalM P w K mg base CX0 1 D.rdr "byte_ahead" ["self","steps"] (spByte K D))
  (cN : CalM P w K mg base (CX1 P w) 4 D.rdr "take_number" ["self","most"] (spNumber K D)) : CalM P w K mg base (CX1 P w) 5 D.rdr "take_strike" ["self"] (spStrike K D):=by
 obtain ⟨f,fd,F,M⟩:=F
 refine ⟨f,fd,Fun.ok1 F sc_strike (fun vs H Q E h=>?_) (fun cdv A outer s H vs Q E hr h=>?_),M,F.binds fun _ _ _ _ _ _ us hl=>match us,hl with | [_],_=>rfl⟩
 ·obtain ⟨a,dx,g,t,i,rfl,_⟩:=h
  rfl
 ·obtain ⟨a,dx,g,t,i,rfl,ha,hg,k1,k2⟩:=h
  have hr1 : Room 1 _:=hr.mono (by decide)
  refine ⟨_,pss_cons (ps_if (pt_cmpR op_eq (pe_calM cB (pv 0) T.rdr hr1 pass0 (pa_cons pe_int pa_nil)) (pe_gv rfl T.ZERO) (nomark _)) (pss_cons (ps_fldaug (pv 0) pe_int in_add) (pss_one (ps_ret pe_int))) pss_nil)
   (pss_one (ps_ret (pe_calM cN (pv 0) T.rdr hr passes1 (pa_cons (pe_gv rfl T.MOST_PRICE) pa_nil)))),?_⟩
  refine ⟨_,rfl,a,dx,_,rfl,ha,rfl,a,dx,g,t,i,0,rfl,ha,hg,rfl,_,rfl,?_⟩
  rw [Nat.add_zero,dec_int_eq]
  refine ite2 (fun z=>?_) (fun z=>?_)
  ·have z:=of_decide_eq_true z
   refine ⟨_,rfl,a,D.rdr,dx,_,_,rfl,ha,T.rdr,T.rdr_p,rdF_p g i,_,_,rfl,rfl,dx,_,ha,(by show 2 < 1000; decide),?_⟩
   rw [show ((i : Nat) : Int) + 1 = ((i + 1 : Nat) : Int) by omega,rd_put]
   exact k1 0 (i + 1) (by unfold tkS; rw [if_pos (by omega)]) _ upd_same (SameBut.refl a H).upd
  ·have z : ¬ ((byteAt t i : Nat) : Int) = 48:=fun q=>z (decide_eq_true q)
   have e : tkS t i = tkN t 1000000 i:=by unfold tkS; rw [if_neg (by omega)]; rfl
   rw [e] at k1 k2
   exact ⟨_,rfl,a,dx,_,rfl,ha,rfl,a,dx,g,t,i,1000000,rfl,by decide,ha,hg,k1,k2⟩
abbrev s_take_leg : Stmt:=inClass (top 23) 6
def sg (neg : Bool) : Int:=if neg = true then -1 else 1
def spLeg (K : PySem.W.Frag) (D : Ads) : Sp:=fun vs H Q E=>∃ (a dx g : Addr) (t : List Nat) (i : Nat) (neg : Bool),vs = [.ref a,.int (sg neg)] ∧ RdAt D H a dx g i ∧ SqL K H g (natsV t) ∧
 (∀ l j,tkLeg t neg i = .inr (l,j) → ∀ H' p,RdAt D H' a dx g j → LegAt D H' p l → SameBut a H H' → Q (.ref p) H') ∧ ∀ e,tkLeg t neg i = .inl e → Wrongs D a H E e
theorem sc_tleg : FnScope ["self","sign","amount","kind","underlying","strike"] ["self","sign"] (defScope s_take_leg):=scm
theorem sg_mul (neg : Bool) (n : Nat) : sg neg * (n : Nat) = Vbchai.signed neg n:=by unfold sg Vbchai.signed; cases neg <;> simp
theorem kind_in (c : Nat) : inV (.int (c : Nat)) [.int 70,.int 67,.int 80] = decide (Vbchai.kindOf c ≠ 0):=by
 have e : ∀ n : Int,eqV (.int n) (.int (c : Nat)) = decide (n = (c : Nat)):=fun n=>by first | rfl | simp [eqV]
 unfold inV
 rw [List.any_cons,List.any_cons,List.any_cons,List.any_nil,e,e,e]
 unfold Vbchai.kindOf
 by_cases h1 : c = 70 <;> by_cases h2 : c = 67 <;> by_cases h3 : c = 80 <;> simp [h1,h2,h3] <;> omega
theorem kb_kindOf {c : Nat} (h : Vbchai.kindOf c ≠ 0) : kb (Vbchai.kindOf c) = (c : Nat):=by
 unfold Vbchai.kindOf at h ⊢
 by_cases h1 : c = 70 <;> by_cases h2 : c = 67 <;> by_cases h3 : c = 80 <;> simp_all [kb]
theorem rd_new {D : Ads} {H : Hp} {a dx g p : Addr} {i : Nat} {o : HO} (h : RdAt D H a dx g i) (n : H p = none) : RdAt D (upd H p o) a dx g i:=Same.new n _ _ h
theorem ok_tleg (F : FunM K D.rdr "take_leg" "Reader.take_leg" s_take_leg) (T : Txt K mg D) (cB : CalM P w K mg base CX0 1 D.rdr "byte_ahead" ["self","steps"] (spByte K D))
  (cT : CalM P w K mg base (CX1 P w) 3 D.rdr "take_between" ["self","least","greatest"] (spBetween K D)) (cY : CalM P w K mg base (CX1 P w) 4 D.rdr "take_byte" ["self","wanted"] (spTakeByte K D))
  (cN : CalM P w K mg base (CX1 P w) 4 D.rdr "take_number" ["self","most"] (spNumber K D)) (cS : CalM P w K mg base (CX1 P w) 5 D.rdr "take_strike" ["self"] (spStrike K D))
  (cL : CalC P w K mg base 1 D.leg "Leg" ["self","kind","quantity","underlying","strike"] (spMade D.leg 4 legFs)) : CalM P w K mg base (CX1 P w) 6 D.rdr "take_leg" ["self","sign"] (spLeg K D):=by
 obtain ⟨f,fd,F,M⟩:=F
 refine ⟨f,fd,Fun.ok1 F sc_tleg (fun vs H Q E h=>?_) (fun cdv A outer s H vs Q E hr h=>?_),M,F.binds fun _ _ _ _ _ _ us hl=>match us,hl with | [_,_],_=>rfl⟩
 ·obtain ⟨a,dx,g,t,i,neg,rfl,_⟩:=h
  rfl
 ·obtain ⟨a,dx,g,t,i,neg,rfl,ha,hg,k1,k2⟩:=h
  have hr1 : Room 1 _:=hr.mono (by decide)
  have hr2 : Room 2 _:=hr.mono (by decide)
  have hr3 : Room 3 _:=hr.mono (by decide)
  have hr4 : Room 4 _:=hr.mono (by decide)
  refine ⟨_,pss_cons (ps_set (i:=2) sc_tleg.nd rfl (Or.inl rfl) (pe_calM cN (pv 0) T.rdr hr4 passes1 (pa_cons (pe_gv rfl T.MOST_CASH) (pa_nil)))) (pss_cons (ps_set (i:=3) sc_tleg.nd rfl (Or.inl rfl) (pe_gv rfl T.CASH)) (pss_cons (ps_if (L2.PW.pt (pw_and (pt_cmpR op_eq (pe_calM cB (pv 0) T.rdr hr1 pass0 (pa_cons (pe_int) (pa_nil))) (pe_gv rfl T.BLANK) (nomark _)) (pw_and1 (pt_cmpR op_le (pv 2) (pe_gv rfl T.MOST_CONTRACTS) (nomark _))))) (pss_one (ps_if (pt_cmpR op_in_seq (pe_calM cB (pv 0) T.rdr hr1 pass0 (pa_cons (pe_int) (pa_nil))) (pe_tup (pa_cons (pe_gv rfl T.FORWARD) (pa_cons (pe_gv rfl T.CALL) (pa_cons (pe_gv rfl T.PUT) (pa_nil))))) (by with_unfolding_all rfl)) (pss_one (ps_set (i:=3) sc_tleg.nd rfl (Or.inl rfl) (pe_calM cB (pv 0) T.rdr hr1 pass0 (pa_cons (pe_int) (pa_nil))))) (pss_nil))) (pss_nil)) (pss_cons (ps_if (pt_cmpR op_eq (pv 3) (pe_gv rfl T.CASH) (nomark _)) (pss_one (ps_ret (pe_calC cL hr2 rfl (pa_cons (pe_gv rfl T.CASH) (pa_cons (pe_op op_mul (pv 1) (pv 2)) (pa_cons (pe_int) (pa_cons (pe_int) (pa_nil)))))))) (pss_nil)) (pss_cons (ps_expr (pe_calM cY (pv 0) T.rdr hr4 passes1 (pa_cons (pe_gv rfl T.BLANK) (pa_nil)))) (pss_cons (ps_expr (pe_calM cY (pv 0) T.rdr hr4 passes1 (pa_cons (pv 3) (pa_nil)))) (pss_cons (ps_set (i:=4) sc_tleg.nd rfl (Or.inl rfl) (pe_op op_sub (pe_calM cT (pv 0) T.rdr hr3 passes1 (pa_cons (pe_gv rfl T.ONE) (pa_cons (pe_gv rfl T.FOUR) (pa_nil)))) (pe_gv rfl T.ZERO))) (pss_cons (ps_expr (pe_calM cY (pv 0) T.rdr hr4 passes1 (pa_cons (pe_gv rfl T.AT) (pa_nil)))) (pss_cons (ps_set (i:=5) sc_tleg.nd rfl (Or.inl rfl) (pe_calM0 cS (pv 0) T.rdr hr passes1)) (pss_one (ps_ret (pe_calC cL hr2 rfl (pa_cons (pv 3) (pa_cons (pe_op op_mul (pv 1) (pv 2)) (pa_cons (pv 4) (pa_cons (pv 5) (pa_nil)))))))))))))))),?_⟩
  refine ⟨_,rfl,a,dx,_,rfl,ha,rfl,a,dx,g,t,i,1000000000000000,rfl,by decide,ha,hg,fun n j hn H1 h1 s1=>?_,fun e he=>k2 e (by unfold tkLeg; rw [show tkN t Vbchai.CASH i = .inl e from he])⟩
  have hn : tkN t Vbchai.CASH i = .inr (n,j):=hn
  have hg1:=s1.sqL ha hg
  refine ⟨_,rfl,a,dx,_,rfl,h1,rfl,a,dx,g,t,j,0,rfl,h1,hg1,rfl,_,rfl,?_⟩
  rw [Nat.add_zero,dec_int_eq]
  by_cases hc : byteAt t j = 32 ∧ n ≤ Vbchai.LOTS ∧ Vbchai.kindOf (byteAt t (j + 1)) ≠ 0
  ·obtain ⟨c1,c2,c3⟩:=hc
   have c2' : n ≤ 1000000000:=c2
   have hq : -(2 ^ 64 : Int) < (n : Nat) ∧ ((n : Nat) : Int) < 2 ^ 64:=⟨by omega,by omega⟩
   have hT : ∀ r,(if 49 ≤ byteAt t (j + 2) ∧ byteAt t (j + 2) ≤ 52 then (if byteAt t (j + 3) = 64 then (match tkS t (j + 4) with | .inl e=>.inl e | .inr (k,e)=>.inr (⟨Vbchai.signed neg n,Vbchai.kindOf (byteAt t (j + 1)),byteAt t (j + 2) - 48,k⟩,e)) else .inl (j + 3)) else .inl (j + 2) : Nat ⊕ (Leg × Nat)) = r → tkLeg t neg i = r:=fun r hh=>by
    unfold tkLeg
    rw [hn]
    exact (if_pos ⟨c1,c2,c3⟩).trans hh
   refine ite2 (fun _=>?_) (fun z=>absurd (decide_eq_true (by omega)) z)
   refine ⟨_,rfl,_,_,rfl,rfl,_,rfl,?_⟩
   refine ite2 (fun _=>?_) (fun z=>absurd (decide_eq_true (by show ((n : Nat) : Int) ≤ 1000000000; omega)) z)
   refine ⟨_,rfl,a,dx,_,rfl,h1,rfl,a,dx,g,t,j,1,rfl,h1,hg1,(by show 3 ≤ sizeLine; decide),fun p hp=>?_⟩
   refine ⟨p,_,rfl,.inr (.inl (.inl upd_same)),rfl,rfl,_,rfl,?_⟩
   rw [show (if false = true then !inV (V.int (byteAt t (j + 1) : Nat)) [.int 70,.int 67,.int 80] else inV (V.int (byteAt t (j + 1) : Nat)) [.int 70,.int 67,.int 80]) = decide (Vbchai.kindOf (byteAt t (j + 1)) ≠ 0) from kind_in _]
   refine ite2 (fun _=>?_) (fun z3=>absurd (decide_eq_true c3) z3)
   have h2:=rd_new (o:=.tup [.int 70,.int 67,.int 80]) h1 hp
   have hg2:=(Same.new (o:=.tup [.int 70,.int 67,.int 80]) hp).seq hg1
   have s2 : SameBut a H (upd H1 p (.tup [.int 70,.int 67,.int 80])):=s1.trans (Same.but (Same.new hp))
   generalize upd H1 p (.tup [.int 70,.int 67,.int 80]) = H2 at h2 hg2 s2
   refine ⟨_,rfl,a,dx,_,rfl,h2,rfl,a,dx,g,t,j,1,rfl,h2,hg2,?_⟩
   refine ⟨_,rfl,rfl,_,rfl,?_⟩
   rw [dec_int_eq]
   refine ite2 (fun z=>absurd (of_decide_eq_true z) fun z=>c3 (by rw [show byteAt t (j + 1) = 0 by omega]; rfl)) (fun _=>?_)
   refine ⟨_,rfl,a,dx,_,rfl,h2,rfl,a,dx,g,t,j,32,rfl,h2,hg2,fun _ H3 h3 s3=>?_,fun z=>absurd c1 z⟩
   have hg3:=s3.sqL h2 hg2
   refine ⟨_,rfl,a,dx,_,rfl,h3,rfl,_,rfl,a,dx,g,t,j + 1,byteAt t (j + 1),rfl,h3,hg3,fun _ H4 h4 s4=>?_,fun z=>absurd rfl z⟩
   have hg4:=s4.sqL h3 hg3
   have t4 : SameBut a H H4:=(s2.trans s3).trans s4
   refine ⟨_,rfl,a,dx,_,rfl,h4,rfl,a,dx,g,t,j + 2,49,52,rfl,h4,hg4,fun u5 H5 h5 s5=>?_,fun z=>(k2 (j + 2) (hT _ (if_neg z))).of t4⟩
   have hg5:=s5.sqL h4 hg4
   have t5 : SameBut a H H5:=t4.trans s5
   refine ⟨_,_,rfl,rfl,?_⟩
   dsimp only
   rw [show ((byteAt t (j + 2) : Nat) : Int) - 48 = ((byteAt t (j + 2) - 48 : Nat) : Int) by omega]
   refine ⟨_,rfl,a,dx,_,rfl,h5,rfl,a,dx,g,t,j + 3,64,rfl,h5,hg5,fun u6 H6 h6 s6=>?_,fun z=>(k2 (j + 3) (hT _ ((if_pos u5).trans (if_neg z)))).of t5⟩
   have hg6:=s6.sqL h5 hg5
   have t6 : SameBut a H H6:=t5.trans s6
   have hT2 : ∀ r,(match tkS t (j + 4) with | .inl e=>.inl e | .inr (k,e)=>.inr (⟨Vbchai.signed neg n,Vbchai.kindOf (byteAt t (j + 1)),byteAt t (j + 2) - 48,k⟩,e) : Nat ⊕ (Leg × Nat)) = r → tkLeg t neg i = r:=fun r hh=>hT r ((if_pos u5).trans ((if_pos u6).trans hh))
   refine ⟨_,rfl,a,dx,_,rfl,h6,rfl,a,dx,g,t,j + 4,rfl,h6,hg6,fun k e7 hk H7 h7 s7=>?_,fun e7 hk=>(k2 e7 (hT2 _ (by rw [hk]))).of t6⟩
   have t7 : SameBut a H H7:=t6.trans s7
   refine ⟨_,rfl,_,rfl,_,rfl,_,_,rfl,rfl,.inr hq,_,rfl,_,rfl,fun x d n1 n2 n3=>?_⟩
   refine ⟨x,d,_,rfl,rfl,upd_same,fun H' e1 e2=>⟨rfl,?_⟩⟩
   have hs : Same H7 H':=Same.made n1 n2 e2
   refine k1 _ e7 (hT2 _ (by rw [hk])) H' x (hs _ _ h7) ⟨d,?_⟩ (t7.trans (Same.but hs))
   dsimp only at e1
   rw [sg_mul] at e1
   show H' x = some (.ins D.leg d [("kind",.int (kb (Vbchai.kindOf (byteAt t (j + 1))))),_,_,_])
   rw [kb_kindOf c3]
   exact e1
  ·have hL : tkLeg t neg i = .inr (⟨Vbchai.signed neg n,0,0,0⟩,j):=by
    unfold tkLeg
    rw [hn]
    exact if_neg hc
   have fin : ∀ H2 : Hp,RdAt D H2 a dx g j → SameBut a H H2 → ∀ x d,H2 x = none → H2 d = none → d ≠ x → spMade D.leg 4 legFs (.ref x :: ([V.int 0,.int (sg neg * (n : Nat)),.int 0,.int 0] ++ [])) (upd (upd H2 d (.own x)) x (.ins D.leg d [])) (fun v H3=>v = .non ∧ Q (.ref x) H3) E0:=fun H2 h2 s2 x d n1 n2 n3=>by
    refine ⟨x,d,_,rfl,rfl,upd_same,fun H' e1 e2=>⟨rfl,?_⟩⟩
    have hs : Same H2 H':=Same.made n1 n2 e2
    refine k1 _ j hL H' x (hs _ _ h2) ⟨d,?_⟩ (s2.trans (Same.but hs))
    rw [sg_mul] at e1
    exact e1
   refine ite2 (fun z=>?_) (fun z=>?_)
   ·refine ⟨_,rfl,_,_,rfl,rfl,_,rfl,?_⟩
    refine ite2 (fun z2=>?_) (fun z2=>?_)
    ·refine ⟨_,rfl,a,dx,_,rfl,h1,rfl,a,dx,g,t,j,1,rfl,h1,hg1,(by show 3 ≤ sizeLine; decide),fun p hp=>?_⟩
     refine ⟨p,_,rfl,.inr (.inl (.inl upd_same)),rfl,rfl,_,rfl,?_⟩
     rw [show (if false = true then !inV (V.int (byteAt t (j + 1) : Nat)) [.int 70,.int 67,.int 80] else inV (V.int (byteAt t (j + 1) : Nat)) [.int 70,.int 67,.int 80]) = decide (Vbchai.kindOf (byteAt t (j + 1)) ≠ 0) from kind_in _]
     have z:=of_decide_eq_true z
     have z2:=of_decide_eq_true z2
     refine ite2 (fun z3=>absurd ⟨by omega,by show n ≤ 1000000000; omega,of_decide_eq_true z3⟩ hc) (fun z3=>?_)
     refine ⟨_,rfl,rfl,_,rfl,iteT ⟨_,rfl,_,rfl,_,_,rfl,rfl,.inr ⟨by omega,by have:=(tkN_le (by decide) hn).1; have : n ≤ 1000000000000000:=this; omega⟩,?_⟩⟩
     exact fin _ (rd_new h1 hp) (s1.trans (Same.but (Same.new hp)))
    ·refine ⟨_,rfl,rfl,_,rfl,iteT ⟨_,rfl,_,rfl,_,_,rfl,rfl,.inr ⟨by omega,by have:=(tkN_le (by decide) hn).1; have : n ≤ 1000000000000000:=this; omega⟩,?_⟩⟩
     exact fin _ h1 s1
   ·refine ⟨_,rfl,rfl,_,rfl,iteT ⟨_,rfl,_,rfl,_,_,rfl,rfl,.inr ⟨by omega,by have:=(tkN_le (by decide) hn).1; have : n ≤ 1000000000000000:=this; omega⟩,?_⟩⟩
    exact fin _ h1 s1
abbrev s_first_sign : Stmt:=inClass (top 23) 7
abbrev s_take_joint : Stmt:=inClass (top 23) 8
def sgV (neg : Bool) : V:=.int (sg neg)
def spFirst (K : PySem.W.Frag) (D : Ads) : Sp:=fun vs H Q E=>∃ (a dx g : Addr) (t : List Nat) (i : Nat),vs = [.ref a] ∧ RdAt D H a dx g i ∧ SqL K H g (natsV t) ∧
 ∀ H',RdAt D H' a dx g (if byteAt t i = 45 then i + 1 else i) → SameBut a H H' → Q (sgV (decide (byteAt t i = 45))) H'
theorem sc_first : FnScope ["self"] ["self"] (defScope s_first_sign):=scm
theorem ok_first (F : FunM K D.rdr "take_first_sign" "Reader.take_first_sign" s_first_sign) (T : Txt K mg D) (cB : CalM P w K mg base CX0 1 D.rdr "byte_ahead" ["self","steps"] (spByte K D)) :
  CalM P w K mg base CX0 2 D.rdr "take_first_sign" ["self"] (spFirst K D):=by
 obtain ⟨f,fd,F,M⟩:=F
 refine ⟨f,fd,F.ok sc_first (fun vs H Q E h=>?_) (fun cdv A outer s H vs Q E hr h=>?_),M,F.binds fun _ _ _ _ _ _ us hl=>match us,hl with | [_],_=>rfl⟩
 ·obtain ⟨a,dx,g,t,i,rfl,_⟩:=h
  rfl
 ·obtain ⟨a,dx,g,t,i,rfl,ha,hg,k⟩:=h
  refine ⟨_,pss_cons (ps_if (pt_cmpR op_eq (pe_calM cB (pv 0) T.rdr hr pass0 (pa_cons (pe_int) (pa_nil))) (pe_gv rfl T.MINUS) (nomark _)) (pss_cons (ps_fldaug (pv 0) pe_int in_add) (pss_one (ps_ret (pe_un un_neg pe_int)))) (pss_nil)) (pss_one (ps_ret (pe_int))),?_⟩
  refine ⟨_,rfl,a,dx,_,rfl,ha,rfl,a,dx,g,t,i,0,rfl,ha,hg,rfl,_,rfl,?_⟩
  rw [Nat.add_zero,dec_int_eq]
  refine ite2 (fun z=>?_) (fun z=>?_)
  ·have z:=of_decide_eq_true z
   have z' : byteAt t i = 45:=by omega
   rw [if_pos z',decide_eq_true z'] at k
   refine ⟨_,rfl,a,D.rdr,dx,_,_,rfl,ha,T.rdr,T.rdr_p,rdF_p g i,_,_,rfl,rfl,dx,_,ha,(by show 2 < 1000; decide),?_⟩
   rw [show ((i : Nat) : Int) + 1 = ((i + 1 : Nat) : Int) by omega,rd_put]
   exact ⟨_,rfl,k _ upd_same (SameBut.refl a H).upd⟩
  ·have z : ¬ ((byteAt t i : Nat) : Int) = 45:=fun q=>z (decide_eq_true q)
   have z' : ¬ byteAt t i = 45:=by omega
   rw [if_neg z',decide_eq_false z'] at k
   exact k H ha (SameBut.refl a H)
def spJoint (K : PySem.W.Frag) (D : Ads) : Sp:=fun vs H Q E=>∃ (a dx g : Addr) (t : List Nat) (i : Nat),vs = [.ref a] ∧ RdAt D H a dx g i ∧ SqL K H g (natsV t) ∧ Reads D a dx g H Q E sgV (tkJoint t i)
theorem sc_joint : FnScope ["self","sign"] ["self"] (defScope s_take_joint):=scm
theorem ok_joint (F : FunM K D.rdr "take_joint" "Reader.take_joint" s_take_joint) (T : Txt K mg D) (cB : CalM P w K mg base CX0 1 D.rdr "byte_ahead" ["self","steps"] (spByte K D))
  (cY : CalM P w K mg base (CX1 P w) 4 D.rdr "take_byte" ["self","wanted"] (spTakeByte K D)) : CalM P w K mg base (CX1 P w) 5 D.rdr "take_joint" ["self"] (spJoint K D):=by
 obtain ⟨f,fd,F,M⟩:=F
 refine ⟨f,fd,Fun.ok1 F sc_joint (fun vs H Q E h=>?_) (fun cdv A outer s H vs Q E hr h=>?_),M,F.binds fun _ _ _ _ _ _ us hl=>match us,hl with | [_],_=>rfl⟩
 ·obtain ⟨a,dx,g,t,i,rfl,_⟩:=h
  rfl
 ·obtain ⟨a,dx,g,t,i,rfl,ha,hg,k1,k2⟩:=h
  have hr1 : Room 1 _:=hr.mono (by decide)
  refine ⟨_,pss_cons (ps_expr (pe_calM cY (pv 0) T.rdr hr passes1 (pa_cons (pe_gv rfl T.BLANK) (pa_nil)))) (pss_cons (ps_set (i:=1) sc_joint.nd rfl (Or.inl rfl) (pe_int)) (pss_cons (ps_if (pt_cmpR op_eq (pe_calM cB (pv 0) T.rdr hr1 pass0 (pa_cons (pe_int) (pa_nil))) (pe_gv rfl T.MINUS) (nomark _)) (pss_cons (ps_expr (pe_calM cY (pv 0) T.rdr hr passes1 (pa_cons (pe_gv rfl T.MINUS) (pa_nil)))) (pss_one (ps_set (i:=1) sc_joint.nd rfl (Or.inl rfl) (pe_un un_neg pe_int)))) (pss_one (ps_expr (pe_calM cY (pv 0) T.rdr hr passes1 (pa_cons (pe_gv rfl T.PLUS) (pa_nil)))))) (pss_cons (ps_expr (pe_calM cY (pv 0) T.rdr hr passes1 (pa_cons (pe_gv rfl T.BLANK) (pa_nil)))) (pss_one (ps_ret (pv 1)))))),?_⟩
  refine ⟨_,rfl,a,dx,_,rfl,ha,rfl,a,dx,g,t,i,32,rfl,ha,hg,fun u1 H1 h1 s1=>?_,fun z=>k2 i (by unfold tkJoint; rw [if_neg z])⟩
  have hg1:=s1.sqL ha hg
  refine ⟨_,rfl,a,dx,_,rfl,h1,rfl,a,dx,g,t,i + 1,0,rfl,h1,hg1,rfl,_,rfl,?_⟩
  rw [Nat.add_zero,dec_int_eq]
  refine ite2 (fun z=>?_) (fun z=>?_)
  ·have z:=of_decide_eq_true z
   have u2 : byteAt t (i + 1) = 45:=by omega
   have hJ : ∀ r,(if byteAt t (i + 2) = 32 then .inr (true,i + 3) else .inl (i + 2) : Nat ⊕ (Bool × Nat)) = r → tkJoint t i = r:=fun r hh=>by
    unfold tkJoint; rw [if_pos u1,if_pos u2]; exact hh
   refine ⟨_,rfl,a,dx,_,rfl,h1,rfl,a,dx,g,t,i + 1,45,rfl,h1,hg1,fun _ H2 h2 s2=>?_,fun z=>absurd u2 z⟩
   have hg2:=s2.sqL h1 hg1
   refine ⟨_,rfl,_,rfl,a,dx,_,rfl,h2,rfl,a,dx,g,t,i + 2,32,rfl,h2,hg2,fun u3 H3 h3 s3=>?_,fun z=>(k2 (i + 2) (hJ _ (if_neg z))).of (s1.trans s2)⟩
   exact ⟨_,rfl,k1 true (i + 3) (hJ _ (if_pos u3)) H3 h3 ((s1.trans s2).trans s3)⟩
  ·have z : ¬ ((byteAt t (i + 1) : Nat) : Int) = 45:=fun q=>z (decide_eq_true q)
   have u2 : ¬ byteAt t (i + 1) = 45:=by omega
   refine ⟨_,rfl,a,dx,_,rfl,h1,rfl,a,dx,g,t,i + 1,43,rfl,h1,hg1,fun u4 H2 h2 s2=>?_,fun z=>(k2 (i + 1) (by unfold tkJoint; rw [if_pos u1,if_neg u2,if_neg z])).of s1⟩
   have hJ : ∀ r,(if byteAt t (i + 2) = 32 then .inr (false,i + 3) else .inl (i + 2) : Nat ⊕ (Bool × Nat)) = r → tkJoint t i = r:=fun r hh=>by
    unfold tkJoint; rw [if_pos u1,if_neg u2,if_pos u4]; exact hh
   have hg2:=s2.sqL h1 hg1
   refine ⟨_,rfl,a,dx,_,rfl,h2,rfl,a,dx,g,t,i + 2,32,rfl,h2,hg2,fun u3 H3 h3 s3=>?_,fun z=>(k2 (i + 2) (hJ _ (if_neg z))).of (s1.trans s2)⟩
   exact ⟨_,rfl,k1 false (i + 3) (hJ _ (if_pos u3)) H3 h3 ((s1.trans s2).trans s3)⟩
end
end VD
set_option maxRecDepth 100000
set_option maxHeartbeats 2000000
namespace VD
open PySem PySem.Spec PyProof.Rows L2 VM VX XL
open Vbchai (Leg Book Member Scene State Prices)
section
variable {P : Program} {w : World} {K : PySem.W.Frag} {mg : Str → Option Value} {base : Heap} {D : Ads}
abbrev s_read_book : Stmt:=top 24
def WrongsS (D : Ads) (H : Hp) (E : XK) (e : Nat) : Prop:=∀ (H' : Hp) (dx : Addr),H' dx = some (.xd [("place",.int (e : Nat))]) → Same H H' → E (.ref D.wrg) (some dx) H'
theorem WrongsS.at_ {D : Ads} {H H' : Hp} {E : XK} {e : Nat} {x : Addr} (k : WrongsS D H E e) (s : Same H H') (n : H x = none) : Wrongs D x H' E e:=fun H2 dx h1 h2=>k H2 dx h1 fun b o e=>h2 b o (s b o e) (ne_of_none e n)
def spBook (K : PySem.W.Frag) (D : Ads) : Sp:=fun vs H Q E=>∃ (g : Addr) (t : List Nat),vs = [.ref g] ∧ SqL K H g (natsV t) ∧ t.length ≤ 4096 ∧
 (∀ b,Vbchai.read t = .inr b → (∀ l ∈ b,LegOk l) → b.length ≤ 4096 → ∀ H' p,H p = none → BookAt D H' p b → Same H H' → Q (.ref p) H') ∧ ∀ e,Vbchai.read t = .inl e → WrongsS D H E e
theorem sc_book : FnScope ["text","reader","sign","legs"] ["text"] (defScope s_read_book):=scm
theorem natsV_eq (t : List Nat) : natsV t = (t.map fun n=>((n : Nat) : Int)).map V.int:=by unfold natsV; rw [List.map_map]; rfl
theorem cast_48 (t : List Nat) : (t.map fun n=>((n : Nat) : Int)) = [48] ↔ t = [48]:=by
 constructor
 ·intro h
  match t,h with
  | [n],h =>
   simp at h
   have : n = 48:=by omega
   rw [this]
 ·rintro rfl; rfl
theorem leg_ne_rd {D : Ads} {H : Hp} {a b d1 d2 g : Addr} {l : Leg} {j : Nat} (h1 : H a = some (.ins D.leg d1 (legF l))) (h2 : H b = some (.ins D.rdr d2 (rdF g j))) : a ≠ b:=ne_of h1 h2 (by
 intro z
 injection z with _ _ hf
 have:=congrArg List.length hf
 simp [legF,rdF] at this)
theorem ok_book (F : FunG K mg "read_book" s_read_book) (T : Txt K mg D) (cB : CalM P w K mg base CX0 1 D.rdr "byte_ahead" ["self","steps"] (spByte K D)) (cX : CalX P w K mg base D)
  (cR : CalC P w K mg base 1 D.rdr "Reader" ["self","given"] (spMade D.rdr 1 rdFs)) (cF : CalM P w K mg base CX0 2 D.rdr "take_first_sign" ["self"] (spFirst K D))
  (cL : CalM P w K mg base (CX1 P w) 6 D.rdr "take_leg" ["self","sign"] (spLeg K D)) (cJ : CalM P w K mg base (CX1 P w) 5 D.rdr "take_joint" ["self"] (spJoint K D)) : Cal P w K mg base (CX1 P w) 7 "read_book" ["text"] (spBook K D):=by
 obtain ⟨f,fd,F,hm⟩:=F
 obtain ⟨fdX,GX,bX⟩:=cX
 refine ⟨f,fd,Fun.ok1 F sc_book (fun vs H Q E h=>?_) (fun cdv A outer s H vs Q E hr h=>?_),hm,F.kp,F.binds fun _ _ _ _ _ _ us hl=>match us,hl with | [_],_=>rfl⟩
 ·obtain ⟨g,t,rfl,_⟩:=h
  rfl
 ·obtain ⟨g,t,rfl,hg,hlen,k1,k2⟩:=h
  have hr1 : Room 1 _:=hr.mono (by decide)
  have hr2 : Room 2 _:=hr.mono (by decide)
  have hr5 : Room 5 _:=hr.mono (by decide)
  refine ⟨_,pss_cons (ps_if (pt_cmpR (op_eqInts (K:=K) rfl hr.units) (pv 0) (pe_lst (pa_cons (pe_gv rfl T.ZERO) (pa_nil))) (nomark _)) (pss_one (ps_ret (pe_lst pa_nil))) (pss_nil)) (pss_cons (ps_set (i:=1) sc_book.nd rfl (Or.inl rfl) (pe_calC cR hr2 rfl (pa_cons (pv 0) (pa_nil)))) (pss_cons (ps_if (pt_cmpR op_eq (pe_calM cB (pv 1) T.rdr hr1 pass0 (pa_cons (pe_int) (pa_nil))) (pe_gv rfl T.ZERO) (nomark _)) (pss_one (ps_raise T.wrg hr.hd throws1 (pe_newX T.wrg GX hr2 bX rfl T.mwrg pe_int))) (pss_nil)) (pss_cons (ps_set (i:=2) sc_book.nd rfl (Or.inl rfl) (pe_calM0 cF (pv 1) T.rdr hr2 pass0)) (pss_cons (ps_set (i:=3) sc_book.nd rfl (Or.inl rfl) (pe_lst (pa_cons (pe_calM cL (pv 1) T.rdr hr passes1 (pa_cons (pv 2) (pa_nil))) (pa_nil)))) (pss_cons (ps_while own1 (pt_cmpR op_lt (pe_fld (pv 1) rfl) (pe_callB call_len_seq (by rfl) T.bLen PySem.boot_len (pa_cons (pv 0) (pa_nil))) (nomark _)) (pss_cons (ps_set (i:=2) sc_book.nd rfl (Or.inl rfl) (pe_calM0 cJ (pv 1) T.rdr hr5 passes1)) (pss_one (ps_expr (pe_bm PySem.F.plainAttrs_list PySem.F.slot_list_append PySem.F.type_list_append mt_append (pv 3) (pa_cons (pe_calM cL (pv 1) T.rdr hr passes1 (pa_cons (pv 2) (pa_nil))) (pa_nil))))))) (pss_one (ps_ret (pv 3)))))))),?_⟩
  refine ⟨_,rfl,(by show 1 ≤ sizeLine; decide),fun p0 hp0=>?_⟩
  have s0 : Same H (upd H p0 (.lst [.int 48])):=Same.new hp0
  have hg0:=s0.seq hg
  refine ⟨g,p0,t.map (fun n=>((n : Nat) : Int)),[48],rfl,rfl,by rw [← natsV_eq]; exact hg0,sqL_of upd_same,_,rfl,?_⟩
  refine ite2 (fun z=>?_) (fun z=>?_)
  ·have z:=(cast_48 t).mp (of_decide_eq_true z)
   subst z
   refine ⟨Nat.zero_le _,fun p hp=>?_⟩
   exact k1 [] rfl (fun l hl=>by cases hl) (Nat.zero_le _) _ p (s0.free hp) ⟨[],upd_same,.nil⟩ (s0.trans (Same.new hp))
  ·have z : t ≠ [48]:=fun q=>z (decide_eq_true ((cast_48 t).mpr q))
   generalize upd H p0 (.lst [.int 48]) = H0 at s0 hg0
   refine ⟨_,rfl,fun x dx n1 n2 n3=>⟨x,dx,_,rfl,rfl,upd_same,fun H1 e1 e2=>⟨rfl,?_⟩⟩⟩
   have s1 : Same H0 H1:=Same.made n1 n2 e2
   have hx : H x = none:=s0.free n1
   have t1 : Same H H1:=s0.trans s1
   have hg1:=s1.seq hg0
   have h1 : RdAt D H1 x dx g 0:=e1
   refine ⟨_,rfl,x,dx,_,rfl,h1,rfl,x,dx,g,t,0,0,rfl,h1,hg1,rfl,_,rfl,?_⟩
   rw [Nat.add_zero,dec_int_eq]
   refine ite2 (fun z1=>?_) (fun z1=>?_)
   ·have z1:=of_decide_eq_true z1
    exact fun H2 y dy y1 y2 y3 y4=>wrongs_raise (e:=1) ((k2 1 (read_zero (by omega) z)).at_ t1 hx) H2 y dy y1 y2 y3 y4
   ·have z1 : ¬ ((byteAt t 0 : Nat) : Int) = 48:=fun q=>z1 (decide_eq_true q)
    have hrd:=read_first (t:=t) (by omega)
    refine ⟨_,rfl,x,dx,_,rfl,h1,rfl,x,dx,g,t,0,rfl,h1,hg1,fun H2 h2 s2=>?_⟩
    have hg2:=s2.sqL h1 hg1
    have t2 : Same H H2:=fun b o e=>s2 b o (t1 b o e) (ne_of_none e hx)
    have hrd2 : Vbchai.read t = Vbchai.readFrom (if byteAt t 0 = 45 then 0 + 1 else 0) ⟨[],.next (decide (byteAt t 0 = 45))⟩ (t.drop (if byteAt t 0 = 45 then 0 + 1 else 0)):=by
     rw [hrd]
     by_cases c : byteAt t 0 = 45
     ·rw [if_pos c,if_pos c,decide_eq_true c]
     ·rw [if_neg c,if_neg c,decide_eq_false c]
    have hj0 : (if byteAt t 0 = 45 then 0 + 1 else 0) ≤ 1:=by split <;> omega
    generalize (if byteAt t 0 = 45 then 0 + 1 else 0) = j0 at h2 hrd2 hj0
    generalize decide (byteAt t 0 = 45) = neg0 at hrd2
    rw [leg_ok] at hrd2
    refine ⟨_,rfl,x,dx,_,rfl,h2,rfl,_,rfl,x,dx,g,t,j0,neg0,rfl,h2,hg2,fun l j hl H3 q h3 hq s3=>?_,fun e he=>(k2 e (by rw [hrd2,he])).at_ t2 hx⟩
    rw [hl] at hrd2
    have t3 : Same H H3:=fun b o e=>s3 b o (t2 b o e) (ne_of_none e hx)
    have hg3:=s3.sqL h2 hg2
    obtain ⟨lok,hlj⟩:=tkLeg_ok hl
    refine ⟨(by show 1 ≤ sizeLine; decide),fun lp hlp=>?_⟩
    have s4 : Same H3 (upd H3 lp (.lst [.ref q])):=Same.new hlp
    have hlH : H lp = none:=t3.free hlp
    refine ⟨fun m σ H'=>∃ (j : Nat) (neg : Bool) (ps : List Addr) (legs : Book),m = t.length + 1 - j ∧ σ = [some (.ref g),some (.ref x),some (sgV neg),some (.ref lp)] ∧ RdAt D H' x dx g j ∧ SqL K H' g (natsV t) ∧ H' lp = some (.lst (ps.map V.ref)) ∧ All2 (LegAt D H') ps legs ∧ Same H H' ∧
      Vbchai.read t = afterLeg t j legs ∧ (∀ l ∈ legs,LegOk l) ∧ legs.length ≤ j ∧ j ≤ t.length,⟨_,j,neg0,[q],[l],rfl,rfl,s4 _ _ h3,s4.seq hg3,upd_same,.cons (hq.same s4) .nil,t3.trans s4,hrd2,fun l' hl'=>by rw [List.mem_singleton] at hl'; subst hl'; exact lok,by show 1 ≤ j; omega,tkLeg_len hl⟩,?_⟩
    rintro m σ H5 ⟨j,neg,ps,legs,rfl,rfl,h5,hg5,hl5,hps,t5,hrd5,hok5,hle5,hjl5⟩
    refine ⟨_,rfl,x,D.rdr,dx,_,_,rfl,h5,T.rdr,T.rdr_p,rdF_p g j,_,rfl,g,_,rfl,.inl hg5,_,_,rfl,rfl,_,rfl,?_⟩
    rw [natsV_len]
    refine ite2 (fun z5=>?_) (fun z5=>?_)
    ·have z5 : j < t.length:=by have:=of_decide_eq_true z5; omega
     rw [joint_ok z5] at hrd5
     refine ⟨fun σ' H'=>∃ m',m' < t.length + 1 - j ∧ ∃ (j : Nat) (neg : Bool) (ps : List Addr) (legs : Book),m' = t.length + 1 - j ∧ σ' = [some (.ref g),some (.ref x),some (sgV neg),some (.ref lp)] ∧ RdAt D H' x dx g j ∧ SqL K H' g (natsV t) ∧ H' lp = some (.lst (ps.map V.ref)) ∧ All2 (LegAt D H') ps legs ∧ Same H H' ∧
      Vbchai.read t = afterLeg t j legs ∧ (∀ l ∈ legs,LegOk l) ∧ legs.length ≤ j ∧ j ≤ t.length,fun _ _ h=>h,?_⟩
     refine ⟨_,rfl,x,dx,_,rfl,h5,rfl,x,dx,g,t,j,rfl,h5,hg5,fun neg6 j6 hj6 H6 h6 s6=>?_,fun e he=>(k2 e (by rw [hrd5,he])).at_ t5 hx⟩
     rw [hj6] at hrd5
     have hrd6 : Vbchai.read t = Vbchai.readFrom j6 ⟨legs,.next neg6⟩ (t.drop j6):=hrd5
     rw [leg_ok] at hrd6
     have hjj : j ≤ j6:=by
      unfold tkJoint at hj6
      repeat' split at hj6
      all_goals first | (cases hj6; omega) | cases hj6
     have hg6:=s6.sqL h5 hg5
     have t6 : Same H H6:=fun b o e=>s6 b o (t5 b o e) (ne_of_none e hx)
     have nlx : lp ≠ x:=ne_of hl5 h5 (by intro z; cases z)
     have hl6:=s6 _ _ hl5 nlx
     refine ⟨_,rfl,.inl ⟨rfl,_,sqL_of hl6⟩,_,rfl,x,dx,_,rfl,h6,rfl,_,rfl,x,dx,g,t,j6,neg6,rfl,h6,hg6,fun l7 j7 hl7 H7 q7 h7 hq7 s7=>?_,fun e he=>(k2 e (by rw [hrd6,he])).at_ t6 hx⟩
     rw [hl7] at hrd6
     obtain ⟨lok7,hlj7⟩:=tkLeg_ok hl7
     have hl7':=s7 _ _ hl6 nlx
     have t7 : Same H H7:=fun b o e=>s7 b o (t6 b o e) (ne_of_none e hx)
     have hlen7 : (ps.map V.ref).length < sizeLine:=by rw [List.length_map,hps.length]; exact lt_line (by omega)
     refine ⟨lp,_,_,rfl,rfl,hl7',hlen7,?_⟩
     have legne : ∀ b dz fs,H7 b = some (.ins D.leg dz fs) → b ≠ lp:=fun b dz fs e=>ne_of e hl7' (by intro z; cases z)
     have up : ∀ b l,LegAt D H7 b l → LegAt D (upd H7 lp (.lst (ps.map V.ref ++ [V.ref q7]))) b l:=fun b l ⟨dz,e⟩=>⟨dz,by rw [upd_ne (legne b dz _ e)]; exact e⟩
     have lift : ∀ b l,LegAt D H5 b l → LegAt D H7 b l:=fun b l ⟨dz,e⟩=>⟨dz,s7 _ _ (s6 _ _ e (leg_ne_rd e h5)) (leg_ne_rd e h5)⟩
     have t8 : Same H (upd H7 lp (.lst (ps.map V.ref ++ [V.ref q7]))):=fun b o e=>by rw [upd_ne (ne_of_none e hlH)]; exact t7 b o e
     refine ⟨_,(by omega : t.length + 1 - j7 < t.length + 1 - j),j7,neg6,ps ++ [q7],legs ++ [l7],rfl,rfl,?_,?_,?_,(hps.imp fun b l e=>up b l (lift b l e)).append (.cons (up _ _ hq7) .nil),?_,hrd6,?_,?_,tkLeg_len hl7⟩
     ·show upd H7 lp _ x = some _
      rw [upd_ne nlx.symm]; exact h7
     ·exact t8.seq hg
     ·rw [upd_same,List.map_append]; rfl
     ·exact t8
     ·intro l' hl'
      rcases List.mem_append.mp hl' with h | h
      ·exact hok5 l' h
      ·rw [List.mem_singleton] at h; subst h; exact lok7
     ·rw [List.length_append]; show legs.length + 1 ≤ j7; omega
    ·have z5 : ¬ ((j : Nat) : Int) < ((t.length : Nat) : Int):=fun q=>z5 (decide_eq_true q)
     rw [afterLeg_end (List.getElem?_eq_none_iff.mpr (by omega))] at hrd5
     refine ⟨_,rfl,?_⟩
     exact k1 legs hrd5 hok5 (by omega) H5 lp hlH ⟨ps,hl5,hps⟩ t5
end
end VD
set_option maxRecDepth 100000
set_option maxHeartbeats 2000000
namespace VD
open PySem PySem.Spec PyProof.Rows L2 VM VX XL
open Vbchai (Leg Book Member Scene State Prices)
section
variable {P : Program} {w : World} {K : PySem.W.Frag} {mg : Str → Option Value} {base : Heap} {D : Ads}
theorem lc_str {x : Str} {j : Nat} {te : TE} {vs : List Nat} {σ : L2.St} {H1 : Hp} {D : Addr} {Qd : Hp → Prop} (Pv : Nat → Hp → Prop) (h0 : Pv 0 (upd H1 D (.lst [])))
  (hw : ∀ x,wipe ((wipe σ vs).set j (some x)) vs = wipe σ vs)
  (hs : ∀ i c H,x.cps[i]? = some c → Pv i H → te ((wipe σ vs).set j (some (.str ⟨#[c]⟩))) H fun y H4=>∃ acc,H4 D = some (.lst acc) ∧ acc.length < sizeLine ∧ Pv (i + 1) (upd H4 D (.lst (acc ++ [y])))) (hd : ∀ H,Pv x.cps.size H → Qd H) :
  ∃ W : Nat → Nat → Hp → Prop,(∃ m,W 0 m (upd H1 D (.lst []))) ∧ ∀ i m H,W i m H →
   ((Its x).stop i H ∧ Qd H) ∨ ((Its x).go i H ∧ ∃ Nx : Hp → Prop,(∀ H',Nx H' → ∃ m',m' < m ∧ W (i + 1) m' H') ∧ ∀ z H',(Its x).yld i H z H' → gName j z (wipe σ vs) H' fun σ2 H2=>wipe σ2 vs = wipe σ vs ∧ tYes σ2 H2 fun b H3 =>
    if b = true then te σ2 H3 fun y H4=>∃ acc,H4 D = some (.lst acc) ∧ acc.length < sizeLine ∧ Nx (upd H4 D (.lst (acc ++ [y]))) else Nx H3):=by
 refine ⟨fun i m H=>m = x.cps.size - i ∧ i ≤ x.cps.size ∧ Pv i H,⟨x.cps.size,by simp,Nat.zero_le _,h0⟩,?_⟩
 rintro i m H ⟨rfl,hi,p⟩
 by_cases hlt : i < x.cps.size
 ·refine .inr ⟨hlt,Pv (i + 1),fun H' p'=>⟨x.cps.size - (i + 1),by omega,rfl,hlt,p'⟩,fun z H' y=>?_⟩
  obtain ⟨rfl,c,hc,rfl⟩:=y
  exact ⟨hw _,by unfold tYes; exact iteT (hs i c _ hc p)⟩
 ·have e : i = x.cps.size:=by omega
  subst e
  exact .inl ⟨Nat.le_refl _,hd H p⟩
abbrev s_digits_of : Stmt:=top 25
def spDigits : Sp:=fun vs H Q _=>∃ n : Nat,vs = [.int (n : Nat)] ∧ n ≤ 1000000000000000 ∧ ∀ H' p,H' p = some (.lst (natsV (Vbchai.decimal n))) → Same H H' → Q (.ref p) H'
theorem sc_digits : FnScope ["number","digit"] ["number"] (defScope s_digits_of):=scm
theorem decimal_cps (n : Nat) : (Str.ofString (toString ((n : Nat) : Int))).cps.toList = Vbchai.decimal n:=by
 exact PyProof.Rows.signs_ofString (toString ((n : Nat) : Int))
theorem decimal_len {n : Nat} (h : n ≤ 1000000000000000) : (Vbchai.decimal n).length ≤ 16:=by
 unfold Vbchai.decimal Vbchai.ascii
 rw [List.length_map]
 show (toString n).toList.length ≤ 16
 have : (toString n).toList = Nat.toDigits 10 n:=by
  exact Nat.toList_repr
 rw [this]
 exact (Nat.length_toDigits_le_iff (by decide) (by decide)).mpr (by omega)
theorem log_le {n : Nat} (h : n ≤ 1000000000000000) : ((n : Nat) : Int).natAbs.log2 < 1920:=by
 rw [Int.natAbs_natCast]
 rcases Nat.eq_zero_or_pos n with rfl | hp
 ·decide
 ·exact Nat.lt_of_lt_of_le ((Nat.log2_lt (by omega)).mpr (show n < 2 ^ 64 by omega)) (by decide)
theorem ok_digits (F : FunG K mg "digits_of" s_digits_of) (T : Txt K mg D) : Cal P w K mg base CX0 1 "digits_of" ["number"] spDigits:=by
 obtain ⟨f,fd,F,hm⟩:=F
 refine ⟨f,fd,F.ok sc_digits (fun vs H Q E h=>?_) (fun cdv A outer s H vs Q E hr h=>?_),hm,F.kp,F.binds fun _ _ _ _ _ _ us hl=>match us,hl with | [_],_=>rfl⟩
 ·obtain ⟨n,rfl,_⟩:=h
  rfl
 ·obtain ⟨n,rfl,hn,k⟩:=h
  refine ⟨_,pss_one (ps_ret (pe_lc rfl sc_digits.nd (pi_str (pe_callTy call_str_int (by rfl) T.bStr PyProof.Rows.boot_str (pa_cons (pv 0) pa_nil))) (blkOk_by (own:=[("digit",1)]) (by rfl)) (fun _ _ _ _ _=>pg_name (i:=1) sc_digits.nd rfl (Or.inl rfl)) (fun _ _ _ _ _=>pts_nil) (fun _ _ _ _ _=>pe_callB call_ord (by rfl) T.bOrd boot_ord (pa_cons (pv 1) pa_nil)))),?_⟩
  have hlen:=decimal_len hn
  have hc:=decimal_cps n
  have hsz : (Str.ofString (toString ((n : Nat) : Int))).cps.size = (Vbchai.decimal n).length:=by rw [← hc,Array.length_toList]
  refine ⟨_,rfl,_,rfl,log_le hn,_,rfl,fun Dl hD=>lc_str (x:=Str.ofString (toString ((n : Nat) : Int))) (fun i H'=>Same H H' ∧ H' Dl = some (.lst (natsV ((Vbchai.decimal n).take i)))) ⟨Same.new hD,upd_same⟩ (fun _=>rfl) ?_ ?_⟩
  ·rintro i c H' hi ⟨s1,hDl⟩
   have hi' : (Vbchai.decimal n)[i]? = some c:=by rw [← hc,Array.getElem?_toList]; exact hi
   refine ⟨_,rfl,_,rfl,rfl,_,hDl,?_,?_,?_⟩
   ·rw [natsV_len,List.length_take]
    exact lt_line (by omega)
   ·exact fun b o e=>by rw [upd_ne (ne_of_none e hD)]; exact s1 b o e
   ·rw [upd_same,take_snoc hi']
    unfold natsV
    rw [List.map_append]
    rfl
  ·rintro H' ⟨s1,hDl⟩
   rw [hsz,List.take_length] at hDl
   exact k H' Dl hDl s1
abbrev s_write_leg : Stmt:=top 26
def spWLeg (D : Ads) : Sp:=fun vs H Q _=>∃ (a : Addr) (l : Leg),vs = [.ref a] ∧ LegAt D H a l ∧ LegOk l ∧ ∀ H' p,H' p = some (.lst (natsV (Vbchai.legText l))) → Same H H' → Q (.ref p) H'
theorem sc_wleg : FnScope ["leg","amount"] ["leg"] (defScope s_write_leg):=scm
theorem natAbs_le {l : Leg} (h : LegOk l) : l.qty.natAbs ≤ 1000000000000000:=by have:=h.qlo; have:=h.qhi; omega
theorem strike_le {l : Leg} (h : LegOk l) : l.strike ≤ 1000000:=h.strike
theorem decimal_digit {u : Nat} (h : u < 10) : Vbchai.decimal u = [48 + u]:=by
 match u,h with
 | 0,_=>rfl
 | 1,_=>rfl
 | 2,_=>rfl
 | 3,_=>rfl
 | 4,_=>rfl
 | 5,_=>rfl
 | 6,_=>rfl
 | 7,_=>rfl
 | 8,_=>rfl
 | 9,_=>rfl
theorem ok_wleg (F : FunG K mg "write_leg" s_write_leg) (T : Txt K mg D) (cD : Cal P w K mg base CX0 1 "digits_of" ["number"] spDigits) : Cal P w K mg base CX0 2 "write_leg" ["leg"] (spWLeg D):=by
 obtain ⟨f,fd,F,hm⟩:=F
 refine ⟨f,fd,F.ok sc_wleg (fun vs H Q E h=>?_) (fun cdv A outer s H vs Q E hr h=>?_),hm,F.kp,F.binds fun _ _ _ _ _ _ us hl=>match us,hl with | [_],_=>rfl⟩
 ·obtain ⟨a,l,rfl,_⟩:=h
  rfl
 ·obtain ⟨a,l,rfl,⟨d,hl⟩,lk,k⟩:=h
  refine ⟨_,pss_cons (ps_set (i:=1) sc_wleg.nd rfl (Or.inl rfl) (pe_cal cD hr rfl pass0 (pa_cons (pe_callB call_abs (by rfl) T.bAbs boot_abs (pa_cons (pe_fld (pv 0) rfl) (pa_nil))) (pa_nil)))) (pss_cons (ps_if (pt_cmpR op_eq (pe_fld (pv 0) rfl) (pe_gv rfl T.CASH) (nomark _)) (pss_one (ps_ret (pv 1))) (pss_nil)) (pss_one (ps_ret (pe_op op_cat (pe_op op_cat (pv 1) (pe_lst (pa_cons (pe_gv rfl T.BLANK) (pa_cons (pe_fld (pv 0) rfl) (pa_cons (pe_op op_add (pe_gv rfl T.ZERO) (pe_fld (pv 0) rfl)) (pa_cons (pe_gv rfl T.AT) (pa_nil))))))) (pe_cal cD hr rfl pass0 (pa_cons (pe_fld (pv 0) rfl) (pa_nil))))))),?_⟩
  refine ⟨_,rfl,a,D.leg,d,_,_,rfl,hl,T.leg,T.leg_q,legF_q l,_,rfl,?_⟩
  dsimp only
  rw [show (if l.qty < 0 then -l.qty else l.qty) = ((l.qty.natAbs : Nat) : Int) by split <;> omega]
  have hn:=natAbs_le lk
  refine ⟨l.qty.natAbs,rfl,hn,fun H1 p1 hp1 s1=>?_⟩
  have hl1:=s1 _ _ hl
  refine ⟨_,rfl,a,D.leg,d,_,_,rfl,hl1,T.leg,T.leg_k,legF_k l,rfl,_,rfl,?_⟩
  rw [dec_int_eq]
  refine ite2 (fun z=>?_) (fun z=>?_)
  ·have z:=kb_0.mp (of_decide_eq_true z)
   refine ⟨_,rfl,?_⟩
   have e : Vbchai.legText l = Vbchai.decimal l.qty.natAbs:=by unfold Vbchai.legText; rw [if_pos z,List.append_nil]
   rw [e] at k
   exact k H1 p1 hp1 s1
  ·have hk : l.kind ≠ 0:=fun e=>z (decide_eq_true (kb_0.mpr e))
   obtain ⟨u1,u4⟩:=lk.under hk
   refine ⟨_,rfl,_,rfl,a,D.leg,d,_,_,rfl,hl1,T.leg,T.leg_k,legF_k l,_,rfl,a,D.leg,d,_,_,rfl,hl1,T.leg,T.leg_u,legF_u l,_,_,rfl,rfl,(by show 4 ≤ sizeLine; decide),fun p2 hp2=>?_⟩
   have s2 : Same H1 (upd H1 p2 (.lst [.int 32,.int (kb l.kind),.int (48 + (l.under : Nat)),.int 64])):=Same.new hp2
   have hdl:=decimal_len hn
   refine ⟨p1,p2,_,_,rfl,rfl,s2 _ _ hp1,upd_same,(by rw [natsV_len]; exact le_line (by show _ + 4 ≤ _; omega)),fun p3 hp3=>?_⟩
   have s3:=Same.new (o:=.lst (natsV (Vbchai.decimal l.qty.natAbs) ++ [.int 32,.int (kb l.kind),.int (48 + (l.under : Nat)),.int 64])) hp3
   have hs:=strike_le lk
   refine ⟨_,rfl,a,D.leg,d,_,_,rfl,s3 _ _ (s2 _ _ hl1),T.leg,T.leg_s,legF_s l,l.strike,rfl,by omega,fun H4 p4 hp4 s4=>?_⟩
   have hsl:=decimal_len (n:=l.strike) (by omega)
   refine ⟨p3,p4,_,_,rfl,rfl,s4 _ _ upd_same,hp4,(by rw [List.length_append,natsV_len,natsV_len]; exact le_line (by show _ + 4 + _ ≤ _; omega)),fun p5 hp5=>?_⟩
   refine k _ p5 ?_ ((((s1.trans s2).trans s3).trans s4).trans (Same.new hp5))
   rw [upd_same]
   congr 2
   unfold Vbchai.legText
   rw [if_neg hk,decimal_digit (show l.under < 10 by omega)]
   have ek : kb l.kind = ((if l.kind = 1 then 70 else if l.kind = 2 then 67 else 80 : Nat) : Int):=by
    unfold kb
    rw [if_neg hk]
    split
    ·rfl
    ·split <;> rfl
   rw [ek]
   unfold natsV
   simp only [List.map_append,List.map_cons,List.map_nil,List.append_assoc,List.cons_append,List.nil_append]
   rw [show ((48 + l.under : Nat) : Int) = 48 + ((l.under : Nat) : Int) by omega]
   rfl
theorem legText_len {l : Leg} (h : LegOk l) : (Vbchai.legText l).length ≤ 60:=by
 unfold Vbchai.legText
 have h1:=decimal_len (natAbs_le h)
 have h2:=decimal_len (n:=l.strike) (by have:=strike_le h; omega)
 rw [List.length_append]
 split
 ·simp only [List.length_nil]; omega
 ·rename_i hk
  obtain ⟨u1,u4⟩:=h.under hk
  rw [decimal_digit (show l.under < 10 by omega)]
  simp only [List.length_cons,List.length_append,List.length_nil]
  omega
theorem wr_len {b : Book} (h : ∀ l ∈ b,LegOk l) : (wr b).length ≤ 64 * b.length:=by
 have hm : ∀ b : Book,(∀ l ∈ b,LegOk l) → (Vbchai.moreText b).length ≤ 64 * b.length:=by
  intro b
  induction b with
  | nil=>intro _; exact Nat.le_refl _
  | cons l r ih =>
   intro h
   have h1:=legText_len (h l List.mem_cons_self)
   have h2:=ih fun x hx=>h x (List.mem_cons_of_mem _ hx)
   rw [Vbchai.moreText,List.length_append,List.length_append,List.length_cons]
   have : (if l.qty < 0 then Vbchai.ascii " - " else Vbchai.ascii " + ").length = 3:=by split <;> rfl
   omega
 cases b with
 | nil=>exact Nat.le_refl _
 | cons l r =>
  have h1:=legText_len (h l List.mem_cons_self)
  have h2:=hm r fun x hx=>h x (List.mem_cons_of_mem _ hx)
  show ((if l.qty < 0 then [45] else []) ++ (Vbchai.legText l ++ Vbchai.moreText r)).length ≤ _
  rw [List.length_append,List.length_append,List.length_cons]
  have : (if l.qty < 0 then [45] else [] : List Nat).length ≤ 1:=by split <;> simp
  omega
theorem wr_ne {b : Book} (h : b ≠ []) : wr b ≠ []:=by
 cases b with
 | nil=>exact absurd rfl h
 | cons l r =>
  intro z
  have z : (if l.qty < 0 then [45] else []) ++ (Vbchai.legText l ++ Vbchai.moreText r) = []:=z
  have:=(List.append_eq_nil_iff.mp (List.append_eq_nil_iff.mp z).2).1
  unfold Vbchai.legText at this
  exact decimal_ne _ (List.append_eq_nil_iff.mp this).1
abbrev s_write_book : Stmt:=top 27
def spWBook (D : Ads) : Sp:=fun vs H Q _=>∃ (a : Addr) (b : Book),vs = [.ref a] ∧ BookAt D H a b ∧ (∀ l ∈ b,LegOk l) ∧ b.length ≤ 1000 ∧ ∀ H' p,H' p = some (.lst (natsV (Vbchai.write b))) → Same H H' → Q (.ref p) H'
theorem sc_wbook : FnScope ["book","text","leg","sign"] ["book"] (defScope s_write_book):=scm
theorem ok_wbook (F : FunG K mg "write_book" s_write_book) (T : Txt K mg D) (cW : Cal P w K mg base CX0 2 "write_leg" ["leg"] (spWLeg D)) : Cal P w K mg base CX0 3 "write_book" ["book"] (spWBook D):=by
 obtain ⟨f,fd,F,hm⟩:=F
 refine ⟨f,fd,F.ok sc_wbook (fun vs H Q E h=>?_) (fun cdv A outer s H vs Q E hr h=>?_),hm,F.kp,F.binds fun _ _ _ _ _ _ us hl=>match us,hl with | [_],_=>rfl⟩
 ·obtain ⟨a,b,rfl,_⟩:=h
  rfl
 ·obtain ⟨a,b,rfl,⟨ps,ha,hps⟩,lk,hlen,k⟩:=h
  refine ⟨_,pss_cons (ps_if (pt_cmpR (op_eqNil (K:=K) rfl hr.units) (pv 0) (pe_lst pa_nil) (nomark _)) (pss_one (ps_ret (pe_lst (pa_cons (pe_gv rfl T.ZERO) (pa_nil))))) (pss_nil)) (pss_cons (ps_set (i:=1) sc_wbook.nd rfl (Or.inl rfl) (pe_lst pa_nil)) (pss_cons (ps_for PassesOwn.never rfl (pi_list (pv 0)) (pg_name (i:=2) sc_wbook.nd rfl (Or.inl rfl)) (pss_cons (ps_set (i:=3) sc_wbook.nd rfl (Or.inl rfl) (pe_ifExp (pt_cmpR op_lt (pe_fld (pv 2) rfl) (pe_int) (nomark _)) (pe_gv rfl T.MINUS) (pe_gv rfl T.PLUS))) (pss_cons (ps_if (pt_cmpR (op_neInts (K:=K) rfl hr.units) (pv 1) (pe_lst pa_nil) (nomark _)) (pss_one (ps_expr (pe_bm PySem.F.plainAttrs_list PySem.F.slot_list_extend PySem.F.type_list_extend mt_extend (pv 1) (pa_cons (pe_lst (pa_cons (pe_gv rfl T.BLANK) (pa_cons (pv 3) (pa_cons (pe_gv rfl T.BLANK) (pa_nil))))) (pa_nil))))) (pss_one (ps_if (pt_cmpR op_eq (pv 3) (pe_gv rfl T.MINUS) (nomark _)) (pss_one (ps_expr (pe_bm PySem.F.plainAttrs_list PySem.F.slot_list_append PySem.F.type_list_append mt_append (pv 1) (pa_cons (pe_gv rfl T.MINUS) (pa_nil))))) (pss_nil)))) (pss_one (ps_expr (pe_bm PySem.F.plainAttrs_list PySem.F.slot_list_extend PySem.F.type_list_extend mt_extend (pv 1) (pa_cons (pe_cal cW hr rfl pass0 (pa_cons (pv 2) (pa_nil))) (pa_nil)))))))) (pss_one (ps_ret (pv 1))))),?_⟩
  refine ⟨_,rfl,Nat.zero_le _,fun p0 hp0=>?_⟩
  have s0 : Same H (upd H p0 (.lst [])):=Same.new hp0
  refine ⟨a,p0,_,rfl,rfl,sqL_of (s0 _ _ ha),sqL_of upd_same,_,rfl,?_⟩
  refine ite2 (fun z=>?_) (fun z=>?_)
  ·have hb : b = []:=by
    have : ps = []:=by simpa using z
    subst this
    cases hps
    rfl
   subst hb
   refine ⟨(by show 1 ≤ sizeLine; decide),fun p hp=>?_⟩
   exact k _ p upd_same (s0.trans (Same.new hp))
  ·have hb : b ≠ []:=by
    rintro rfl
    cases hps
    exact z rfl
   generalize upd H p0 (.lst []) = H0 at s0
   refine ⟨Nat.zero_le _,fun tp htp0=>?_⟩
   have htp : H tp = none:=s0.free htp0
   have s2 : Same H (upd H0 tp (.lst [])):=s0.trans (Same.new htp0)
   refine ⟨_,rfl,a,rfl,⟨_,sqL_of (s2 _ _ ha)⟩,for_list (K:=K) (a:=a) (xs:=ps.map V.ref) (fun i σ H'=>∃ v2 v3 : Option V,σ = [some (.ref a),some (.ref tp),v2,v3] ∧ Same H H' ∧ H' tp = some (.lst (natsV (wr (b.take i)))))
    ⟨none,none,rfl,s2,upd_same⟩ (fun i σ H' _ ⟨_,_,_,s5,_⟩=>s5.seq (sqL_of ha)) ?_ ?_⟩
   ·rintro i y σ H' hi ⟨v2,v3,rfl,s1,ht⟩
    obtain ⟨q,hq',rfl⟩:=refs_at hi
    obtain ⟨l,hl,d,hleg⟩:=hps.get hq'
    have hok:=lk l (List.mem_of_getElem? hl)
    refine ⟨_,rfl,q,D.leg,d,_,_,rfl,s1 _ _ hleg,T.leg,T.leg_q,legF_q l,_,_,rfl,rfl,_,rfl,?_⟩
    refine ite2 (fun hq=>?_) (fun hq=>?_)
    ·have hq:=of_decide_eq_true hq
     refine ⟨_,rfl,Nat.zero_le _,fun p0 hp0=>?_⟩
     have s0 : Same H' (upd H' p0 (.lst [])):=Same.new hp0
     have ht0:=s0 _ _ ht
     have e0 : Same H (upd H' p0 (.lst [])):=s1.trans s0
     refine ⟨tp,p0,(wr (b.take i)).map (fun n=>((n : Nat) : Int)),[],rfl,rfl,by rw [← natsV_eq]; exact sqL_of ht0,sqL_of upd_same,_,rfl,?_⟩
     generalize upd H' p0 (.lst []) = H0 at s0 ht0 e0
     by_cases hi0 : i = 0
     ·subst hi0
      refine ite2 (fun z=>absurd z (by simp [wr])) (fun _=>?_)
      refine ⟨_,rfl,rfl,_,rfl,?_⟩
      refine iteT ⟨_,rfl,.inl ⟨rfl,_,sqL_of ht0⟩,tp,_,_,rfl,rfl,ht0,(by show 0 < sizeLine; decide),?_⟩
      have t1 : Same H (upd H0 tp (.lst (natsV (wr (b.take 0)) ++ [V.int 45]))):=fun c o e=>by rw [upd_ne (ne_of_none e htp)]; exact e0 c o e
      have hleg2 : LegAt D (upd H0 tp (.lst (natsV (wr (b.take 0)) ++ [V.int 45]))) q l:=⟨d,t1 _ _ hleg⟩
      refine ⟨_,rfl,.inl ⟨rfl,_,sqL_of upd_same⟩,_,rfl,q,l,rfl,hleg2,hok,fun H2 p2 hp2 s2=>?_⟩
      have ht2:=s2 _ _ (upd_same (H:=H0) (a:=tp) (o:=.lst (natsV (wr (b.take 0)) ++ [V.int 45])))
      refine ⟨tp,p2,_,_,rfl,rfl,ht2,hp2,(by have:=legText_len hok; rw [natsV_len]; exact le_line (by show 1 + _ ≤ _; omega)),?_⟩
      refine ⟨_,_,rfl,fun c o e=>by rw [upd_ne (ne_of_none e htp)]; exact s2 c o (t1 c o e),?_⟩
      rw [upd_same,take_snoc hl]
      show some (HO.lst ([V.int 45] ++ natsV (Vbchai.legText l))) = some (HO.lst (natsV (wr [l])))
      rw [wr_one,if_pos hq]
      rfl
     ·have hne : b.take i ≠ []:=by
       intro z
       have:=congrArg List.length z
       rw [List.length_take,List.length_nil] at this
       have:=(List.getElem?_eq_some_iff.mp hl).1
       omega
      have hwl:=wr_len (fun l hl=>lk l (List.mem_of_mem_take hl)) (b:=b.take i)
      have hbl : (b.take i).length ≤ 1000:=by rw [List.length_take]; omega
      refine ite2 (fun _=>?_) (fun z=>absurd (show (!decide ((wr (b.take i)).map (fun n=>((n : Nat) : Int)) = [])) = true by simp [wr_ne hne]) z)
      refine ⟨_,rfl,.inl ⟨rfl,_,sqL_of ht0⟩,_,rfl,(by show 3 ≤ sizeLine; decide),fun p1 hp1=>?_⟩
      have s1' : Same H0 (upd H0 p1 (.lst [.int 32,.int 45,.int 32])):=Same.new hp1
      refine ⟨tp,p1,_,_,rfl,rfl,s1' _ _ ht0,upd_same,(by rw [natsV_len]; exact le_line (by show _ + 3 ≤ _; omega)),?_⟩
      have t1 : Same H (upd (upd H0 p1 (.lst [.int 32,.int 45,.int 32])) tp (.lst (natsV (wr (b.take i)) ++ [.int 32,.int 45,.int 32]))):=fun c o e=>by rw [upd_ne (ne_of_none e htp)]; exact s1' c o (e0 c o e)
      have hleg2 : LegAt D (upd (upd H0 p1 (.lst [.int 32,.int 45,.int 32])) tp (.lst (natsV (wr (b.take i)) ++ [.int 32,.int 45,.int 32]))) q l:=⟨d,t1 _ _ hleg⟩
      refine ⟨_,rfl,.inl ⟨rfl,_,sqL_of upd_same⟩,_,rfl,q,l,rfl,hleg2,hok,fun H2 p2 hp2 s2=>?_⟩
      have ht2:=s2 _ _ (upd_same (H:=upd H0 p1 (.lst [.int 32,.int 45,.int 32])) (a:=tp) (o:=.lst (natsV (wr (b.take i)) ++ [.int 32,.int 45,.int 32])))
      refine ⟨tp,p2,_,_,rfl,rfl,ht2,hp2,(by have:=legText_len hok; rw [List.length_append,natsV_len,natsV_len]; exact le_line (by show _ + 3 + _ ≤ _; omega)),?_⟩
      refine ⟨_,_,rfl,fun c o e=>by rw [upd_ne (ne_of_none e htp)]; exact s2 c o (t1 c o e),?_⟩
      rw [upd_same,take_snoc hl,wr_snoc l hne,if_pos hq]
      unfold natsV
      rw [List.map_append,List.map_append,List.append_assoc]
      rfl
    ·have hq : ¬ l.qty < 0:=fun z=>hq (decide_eq_true z)
     refine ⟨_,rfl,Nat.zero_le _,fun p0 hp0=>?_⟩
     have s0 : Same H' (upd H' p0 (.lst [])):=Same.new hp0
     have ht0:=s0 _ _ ht
     have e0 : Same H (upd H' p0 (.lst [])):=s1.trans s0
     refine ⟨tp,p0,(wr (b.take i)).map (fun n=>((n : Nat) : Int)),[],rfl,rfl,by rw [← natsV_eq]; exact sqL_of ht0,sqL_of upd_same,_,rfl,?_⟩
     generalize upd H' p0 (.lst []) = H0 at s0 ht0 e0
     by_cases hi0 : i = 0
     ·subst hi0
      refine ite2 (fun z=>absurd z (by simp [wr])) (fun _=>?_)
      refine ⟨_,rfl,rfl,_,rfl,?_⟩
      refine iteF ?_
      have hleg2 : LegAt D H0 q l:=⟨d,e0 _ _ hleg⟩
      refine ⟨_,rfl,.inl ⟨rfl,_,sqL_of ht0⟩,_,rfl,q,l,rfl,hleg2,hok,fun H2 p2 hp2 s2=>?_⟩
      have ht2:=s2 _ _ ht0
      refine ⟨tp,p2,_,_,rfl,rfl,ht2,hp2,(by have:=legText_len hok; rw [natsV_len,natsV_len]; exact le_line (by show 0 + _ ≤ _; omega)),?_⟩
      refine ⟨_,_,rfl,fun c o e=>by rw [upd_ne (ne_of_none e htp)]; exact s2 c o (e0 c o e),?_⟩
      rw [upd_same,take_snoc hl]
      show some (HO.lst ([] ++ natsV (Vbchai.legText l))) = some (HO.lst (natsV (wr [l])))
      rw [wr_one,if_neg hq]
      rfl
     ·have hne : b.take i ≠ []:=by
       intro z
       have:=congrArg List.length z
       rw [List.length_take,List.length_nil] at this
       have:=(List.getElem?_eq_some_iff.mp hl).1
       omega
      have hwl:=wr_len (fun l hl=>lk l (List.mem_of_mem_take hl)) (b:=b.take i)
      have hbl : (b.take i).length ≤ 1000:=by rw [List.length_take]; omega
      refine ite2 (fun _=>?_) (fun z=>absurd (show (!decide ((wr (b.take i)).map (fun n=>((n : Nat) : Int)) = [])) = true by simp [wr_ne hne]) z)
      refine ⟨_,rfl,.inl ⟨rfl,_,sqL_of ht0⟩,_,rfl,(by show 3 ≤ sizeLine; decide),fun p1 hp1=>?_⟩
      have s1' : Same H0 (upd H0 p1 (.lst [.int 32,.int 43,.int 32])):=Same.new hp1
      refine ⟨tp,p1,_,_,rfl,rfl,s1' _ _ ht0,upd_same,(by rw [natsV_len]; exact le_line (by show _ + 3 ≤ _; omega)),?_⟩
      have t1 : Same H (upd (upd H0 p1 (.lst [.int 32,.int 43,.int 32])) tp (.lst (natsV (wr (b.take i)) ++ [.int 32,.int 43,.int 32]))):=fun c o e=>by rw [upd_ne (ne_of_none e htp)]; exact s1' c o (e0 c o e)
      have hleg2 : LegAt D (upd (upd H0 p1 (.lst [.int 32,.int 43,.int 32])) tp (.lst (natsV (wr (b.take i)) ++ [.int 32,.int 43,.int 32]))) q l:=⟨d,t1 _ _ hleg⟩
      refine ⟨_,rfl,.inl ⟨rfl,_,sqL_of upd_same⟩,_,rfl,q,l,rfl,hleg2,hok,fun H2 p2 hp2 s2=>?_⟩
      have ht2:=s2 _ _ (upd_same (H:=upd H0 p1 (.lst [.int 32,.int 43,.int 32])) (a:=tp) (o:=.lst (natsV (wr (b.take i)) ++ [.int 32,.int 43,.int 32])))
      refine ⟨tp,p2,_,_,rfl,rfl,ht2,hp2,(by have:=legText_len hok; rw [List.length_append,natsV_len,natsV_len]; exact le_line (by show _ + 3 + _ ≤ _; omega)),?_⟩
      refine ⟨_,_,rfl,fun c o e=>by rw [upd_ne (ne_of_none e htp)]; exact s2 c o (t1 c o e),?_⟩
      rw [upd_same,take_snoc hl,wr_snoc l hne,if_neg hq]
      unfold natsV
      rw [List.map_append,List.map_append,List.append_assoc]
      rfl
   ·rintro σ H' ⟨v2,v3,rfl,s1,ht⟩
    rw [List.length_map,hps.length,List.take_length] at ht
    refine ⟨_,rfl,?_⟩
    rw [← wr_write hb] at ht
    exact k H' tp ht s1
end
end VD
set_option maxRecDepth 100000
set_option maxHeartbeats 2000000
namespace VD
open PySem PySem.Spec PyProof.Rows L2 VM VX XL
open Vbchai (Leg Book Member Scene State Prices)
section
variable {P : Program} {w : World} {K : PySem.W.Frag} {mg : Str → Option Value} {base : Heap} {D : Ads}
def curF (s : Int) (bp : Addr) : List (Str × V):=[("slope",.int s),("bends",.ref bp)]
theorem curF_s (s : Int) (bp : Addr) : (curF s bp).lookup ("slope" : Str) = some (.int s):=rfl
theorem curF_b (s : Int) (bp : Addr) : (curF s bp).lookup ("bends" : Str) = some (.ref bp):=rfl
def CurveAt (D : Ads) (N : Addr → Prop) (H : Hp) (a : Addr) (s : Int) (bs : List (Int × Int)) : Prop:=∃ (dx bp : Addr) (ps : List Addr),N bp ∧ H a = some (.ins D.cur dx (curF s bp)) ∧ H bp = some (.lst (ps.map V.ref)) ∧ All2 (TupAt H) ps bs
theorem CurveAt.same {D : Ads} {N : Addr → Prop} {H H' : Hp} {a : Addr} {s : Int} {bs : List (Int × Int)} (h : CurveAt D N H a s bs) (e : Same H H') : CurveAt D N H' a s bs:=by
 obtain ⟨dx,bp,ps,h1,h2,h3,h4⟩:=h
 exact ⟨dx,bp,ps,h1,e _ _ h2,e _ _ h3,h4.imp fun _ _ x=>e _ _ x⟩
theorem CurveAt.mono {D : Ads} {N N' : Addr → Prop} {H : Hp} {a : Addr} {s : Int} {bs : List (Int × Int)} (h : CurveAt D N H a s bs) (e : ∀ x,N x → N' x) : CurveAt D N' H a s bs:=by
 obtain ⟨dx,bp,ps,h1,h2,h3,h4⟩:=h
 exact ⟨dx,bp,ps,e _ h1,h2,h3,h4⟩
theorem CurveAt.but {D : Ads} {N : Addr → Prop} {H H' : Hp} {a Dl : Addr} {s : Int} {bs : List (Int × Int)} {xs : List V} (h : CurveAt D N H a s bs) (e : SameBut Dl H H') (hD : H Dl = some (.lst xs)) (n : ∀ x,N x → x ≠ Dl) : CurveAt D N H' a s bs:=by
 obtain ⟨dx,bp,ps,h1,h2,h3,h4⟩:=h
 exact ⟨dx,bp,ps,h1,e _ _ h2 (ne_of h2 hD (by intro z; cases z)),e _ _ h3 (n _ h1),h4.imp fun p _ x=>e _ _ x (ne_of x hD (by intro z; cases z))⟩
abbrev s_Curve_init : Stmt:=inClass (top 47) 0
def curFs : List V → List (Str × V)
 | [a,b]=>[("slope",a),("bends",b)]
 | _=>[]
theorem sc_cinit : FnScope ["self","slope","bends"] ["self","slope","bends"] (defScope s_Curve_init):=scm
theorem ok_cinit (F : FunI K mg D.cur "Curve" "Curve.__init__" s_Curve_init) (T : Txt K mg D) : CalC P w K mg base 1 D.cur "Curve" ["self","slope","bends"] (spMade D.cur 2 curFs):=by
 obtain ⟨f,fd,F,M,hm⟩:=F
 refine ⟨f,fd,F.ok sc_cinit (fun vs H Q E h=>?_) (fun cdv A outer s H vs Q E hr h=>?_),M,hm,F.binds fun _ _ _ _ _ _ us hl=>match us,hl with | [_,_,_],_=>rfl⟩
 ·obtain ⟨p,dx,us,rfl,hl,_⟩:=h
  simp [hl]
 ·obtain ⟨p,dx,us,rfl,hl,hp,k⟩:=h
  match us,hl with
  | [a,b],_ =>
   refine ⟨_,pss_cons (ps_fld (pv 0) (pv 1) rfl) (pss_one (ps_fld (pv 0) (pv 2) rfl)),?_⟩
   refine ⟨_,rfl,_,rfl,p,D.cur,dx,_,rfl,hp,T.cur,T.cur_s,(by show 0 < 1000; decide),?_⟩
   refine ⟨_,rfl,_,rfl,p,D.cur,dx,_,rfl,upd_same,T.cur,T.cur_b,lp1,?_⟩
   have e : putF "bends" b (putF "slope" a []) = curFs [a,b]:=by
    have e : ¬ ("slope" : Str) = "bends":=by decide +kernel
    simp only [putF,if_neg e]
    rfl
   rw [e]
   refine k _ upd_same fun q o e hq=>?_
   rw [upd_ne hq,upd_ne hq]
   exact e
abbrev s_slope_ahead : Stmt:=top 48
def spSlope (D : Ads) : Sp:=fun vs H Q _=>∃ (a : Addr) (l : Leg),vs = [.ref a] ∧ LegAt D H a l ∧ Q (.int (slopeOf l)) H
theorem sc_slope : FnScope ["leg"] ["leg"] (defScope s_slope_ahead):=scm
theorem ok_slope (F : FunG K mg "slope_ahead" s_slope_ahead) (T : Txt K mg D) : Cal P w K mg base CX0 1 "slope_ahead" ["leg"] (spSlope D):=by
 obtain ⟨f,fd,F,hm⟩:=F
 refine ⟨f,fd,F.ok sc_slope (fun vs H Q E h=>?_) (fun cdv A outer s H vs Q E hr h=>?_),hm,F.kp,F.binds fun _ _ _ _ _ _ us hl=>match us,hl with | [_],_=>rfl⟩
 ·obtain ⟨a,l,rfl,_⟩:=h
  rfl
 ·obtain ⟨a,l,rfl,⟨d,hl⟩,k⟩:=h
  unfold slopeOf at k
  refine ⟨_,pss_cons (ps_if (pt_cmpR op_eq (pe_fld (pv 0) rfl) (pe_gv rfl T.FORWARD) (nomark _)) (pss_one (ps_ret (pe_fld (pv 0) rfl))) (pss_nil)) (pss_cons (ps_if (pt_cmpR op_eq (pe_fld (pv 0) rfl) (pe_gv rfl T.CALL) (nomark _)) (pss_one (ps_ret (pe_int))) (pss_nil)) (pss_one (ps_ret (pe_un un_neg (pe_fld (pv 0) rfl))))),?_⟩
  refine ⟨_,rfl,a,D.leg,d,_,_,rfl,hl,T.leg,T.leg_k,legF_k l,rfl,_,rfl,?_⟩
  rw [dec_int_eq]
  refine ite2 (fun z=>?_) (fun z=>?_)
  ·rw [if_pos (kb_1.mp (of_decide_eq_true z))] at k
   exact ⟨_,rfl,a,D.leg,d,_,_,rfl,hl,T.leg,T.leg_q,legF_q l,k⟩
  ·rw [if_neg fun e=>z (decide_eq_true (kb_1.mpr e))] at k
   refine ⟨_,rfl,a,D.leg,d,_,_,rfl,hl,T.leg,T.leg_k,legF_k l,rfl,_,rfl,?_⟩
   rw [dec_int_eq]
   refine ite2 (fun z2=>?_) (fun z2=>?_)
   ·rw [if_pos (kb_2.mp (of_decide_eq_true z2))] at k
    exact k
   ·rw [if_neg fun e=>z2 (decide_eq_true (kb_2.mpr e))] at k
    exact ⟨_,rfl,a,D.leg,d,_,_,rfl,hl,T.leg,T.leg_q,legF_q l,_,rfl,k⟩
abbrev s_curve_of : Stmt:=top 49
def spCurveOf (D : Ads) : Sp:=fun vs H Q _=>∃ (a : Addr) (b : Book),vs = [.ref a] ∧ BookAt D H a b ∧ b.length ≤ 1000 ∧ ∀ H' p s bs,CurveAt D (fun x=>H x = none) H' p s bs → CurveOf b s bs → Same H H' → Q (.ref p) H'
theorem sc_curve : FnScope ["legs","slope","leg"] ["legs"] (defScope s_curve_of):=scm
theorem bends_snoc {b : Book} {i : Nat} {l : Leg} (h : b[i]? = some l) : bendsOf (b.take (i + 1)) = bendsOf (b.take i) ++ (if l.kind = 1 then [] else [((l.strike : Int),l.qty)]):=by
 rw [take_snoc h,bendsOf_app]
 congr 1
 unfold bendsOf
 by_cases hk : l.kind = 1 <;> simp [hk]
theorem ok_curve (F : FunG K mg "curve_of" s_curve_of) (T : Txt K mg D) (cS : Cal P w K mg base CX0 1 "slope_ahead" ["leg"] (spSlope D)) (cC : CalC P w K mg base 1 D.cur "Curve" ["self","slope","bends"] (spMade D.cur 2 curFs)) :
  Cal P w K mg base CX0 3 "curve_of" ["legs"] (spCurveOf D):=by
 obtain ⟨f,fd,F,hm⟩:=F
 refine ⟨f,fd,F.ok sc_curve (fun vs H Q E h=>?_) (fun cdv A outer s H vs Q E hr h=>?_),hm,F.kp,F.binds fun _ _ _ _ _ _ us hl=>match us,hl with | [_],_=>rfl⟩
 ·obtain ⟨a,b,rfl,_⟩:=h
  rfl
 ·obtain ⟨a,b,rfl,⟨ps,ha,hps⟩,hlen,k⟩:=h
  have hr1 : Room 1 _:=hr.mono (by decide)
  refine ⟨_,pss_cons (ps_set (i:=1) sc_curve.nd rfl (Or.inl rfl) (pe_callB (cr_sum rfl) (by rfl) T.bSum boot_sum (pa_cons (pe_lc rfl sc_curve.nd (pi_list (pv 0)) (blkOk_by (own:=[("leg",2)]) (by rfl)) (fun _ _ _ _ _=>pg_name (i:=2) sc_curve.nd rfl (Or.inl rfl)) (fun _ _ _ _ _=>pts_nil) (fun _ _ _ _ _=>pe_cal cS hr1 rfl pass0 (pa_cons (pv 2) (pa_nil)))) (pa_nil)))) (pss_one (ps_ret (pe_calC cC hr rfl (pa_cons (pv 1) (pa_cons (pe_callB cr_sortedT (by rfl) T.bSorted PyProof.Rows.boot_sorted (pa_cons (pe_lc rfl sc_curve.nd (pi_list (pv 0)) (blkOk_by (own:=[("leg",2)]) (by rfl)) (fun _ _ _ _ _=>pg_name (i:=2) sc_curve.nd rfl (Or.inl rfl)) (fun _ _ _ _ _=>pts_one (pt_cmpR op_ne (pe_fldK (K:=K) rfl (pv 2) rfl) (pe_gv rfl T.FORWARD) (nomark _))) (fun _ _ _ _ _=>pe_tup (pa_cons (pe_fldK (K:=K) rfl (pv 2) rfl) (pa_cons (pe_fldK (K:=K) rfl (pv 2) rfl) (pa_nil))))) (pa_nil))) (pa_nil)))))),?_⟩
  refine ⟨_,rfl,a,rfl,⟨_,sqL_of ha⟩,fun Dl hD=>lc_one (K:=K) (a:=a) (xs:=ps.map V.ref) (fun i H'=>Same H H' ∧ H' Dl = some (.lst (((b.take i).map slopeOf).map V.int))) ⟨Same.new hD,upd_same⟩ (fun i H' _ ⟨s1,_⟩=>s1.seq (sqL_of ha)) (fun _=>rfl) ?_ ?_⟩
  ·rintro i x H' hi ⟨s1,hDl⟩
   obtain ⟨q,hq,rfl⟩:=refs_at hi
   obtain ⟨l,hl,hleg⟩:=hps.get hq
   refine ⟨_,rfl,q,l,rfl,hleg.same s1,_,hDl,?_,?_,?_⟩
   ·rw [List.length_map,List.length_map,List.length_take]
    exact lt_line (by omega)
   ·exact fun c o e=>by rw [upd_ne (ne_of_none e hD)]; exact s1 c o e
   ·rw [upd_same,take_snoc hl,List.map_append,List.map_append]
    rfl
  ·rintro H1 ⟨s1,hDl⟩
   rw [List.length_map,hps.length,List.take_length] at hDl
   refine ⟨Dl,_,rfl,sqL_of hDl,?_⟩
   refine ⟨_,rfl,_,rfl,a,rfl,⟨_,sqL_of (s1 _ _ ha)⟩,fun De hE=>lc_list (K:=K) (a:=a) (xs:=ps.map V.ref) (g:=gName 2) (fun i H'=>Same H1 H' ∧ ∃ qs : List Addr,H' De = some (.lst (qs.map V.ref)) ∧ All2 (TupAt H') qs (bendsOf (b.take i)) ∧ qs.length ≤ i) ⟨Same.new hE,[],upd_same,.nil,Nat.le_refl _⟩ (fun i H' _ ⟨s2,_⟩=>s2.seq (sqL_of (s1 _ _ ha))) ?_ ?_⟩
   ·rintro i x H' hi ⟨s2,qs,hDe,hqs,hql⟩
    obtain ⟨q,hq,rfl⟩:=refs_at hi
    obtain ⟨l,hl,d,hleg⟩:=hps.get hq
    have hl':=s2 _ _ (s1 _ _ hleg)
    have hib:=(List.getElem?_eq_some_iff.mp hl).1
    refine ⟨rfl,?_⟩
    refine ⟨_,rfl,q,D.leg,d,_,_,rfl,hl',T.leg,T.leg_k,legF_k l,rfl,_,rfl,?_⟩
    rw [dec_int_eq]
    by_cases hk : l.kind = 1
    ·rw [kb_1.mpr hk]
     refine iteF ?_
     refine ⟨s2,qs,hDe,?_,by omega⟩
     rw [bends_snoc hl,if_pos hk,List.append_nil]
     exact hqs
    ·rw [decide_eq_false fun e=>hk (kb_1.mp e)]
     refine iteT ?_
     refine ⟨_,rfl,q,D.leg,d,_,_,rfl,hl',T.leg,T.leg_s,legF_s l,_,rfl,q,D.leg,d,_,_,rfl,hl',T.leg,T.leg_q,legF_q l,(by show 2 ≤ sizeLine; decide),fun tp htp=>?_⟩
     have s3 : Same H' (upd H' tp (.tup [.int (l.strike : Nat),.int l.qty])):=Same.new htp
     have hDe3:=s3 _ _ hDe
     refine ⟨_,hDe3,(by rw [List.length_map]; exact lt_line (by omega)),?_,qs ++ [tp],?_,?_,?_⟩
     ·exact fun c o e=>by rw [upd_ne (ne_of_none e hE)]; exact s3 c o (s2 c o e)
     ·rw [upd_same,List.map_append]; rfl
     ·rw [bends_snoc hl,if_neg hk]
      have up : ∀ (p : Addr) (x : Int × Int),TupAt (upd H' tp (.tup [.int (l.strike : Nat),.int l.qty])) p x → TupAt (upd (upd H' tp (.tup [.int (l.strike : Nat),.int l.qty])) De (.lst (qs.map V.ref ++ [V.ref tp]))) p x:=fun p x e=>by
       show upd _ De _ p = _
       rw [upd_ne (ne_of e hDe3 (by intro z; cases z))]; exact e
      exact (hqs.imp fun p x e=>up p x (s3 _ _ e)).append (.cons (up _ _ upd_same) .nil)
     ·rw [List.length_append]; show _ + 1 ≤ _; omega
   ·rintro H2 ⟨s2,qs,hDe,hqs,hql⟩
    rw [List.length_map,hps.length,List.take_length] at hqs
    refine ⟨De,qs,_,rfl,sqL_of hDe,hqs,fun ps' bs' bp h1 h2 h3 h4 hbp=>?_⟩
    have s3 : Same H2 (upd H2 bp (.lst (ps'.map V.ref))):=Same.new hbp
    refine fun x dx n1 n2 n3=>⟨x,dx,_,rfl,rfl,upd_same,fun H4 e1 e2=>⟨rfl,?_⟩⟩
    have s4:=Same.made n1 n2 e2
    have s02:=s1.trans s2
    refine k H4 x _ bs' ⟨dx,bp,ps',s02.free hbp,e1,s4 _ _ upd_same,h1.imp fun _ _ e=>s4 _ _ (s3 _ _ e)⟩ ⟨?_,h2,h3⟩ ((s02.trans s3).trans s4)
    rfl
end
end VD
set_option maxRecDepth 100000
set_option maxHeartbeats 2000000
namespace VD
open PySem PySem.Spec PyProof.Rows L2 VM VX XL
open Vbchai (Leg Book Member Scene State Prices)
section
variable {P : Program} {w : World} {K : PySem.W.Frag} {mg : Str → Option Value} {base : Heap} {D : Ads}
def CurvesAt (D : Ads) (N : Addr → Prop) (H : Hp) (p : Addr) (cs : List (Int × List (Int × Int))) : Prop:=N p ∧ ∃ qs : List Addr,H p = some (.lst (qs.map V.ref)) ∧ All2 (fun q c=>CurveAt D N H q c.1 c.2) qs cs
theorem CurvesAt.same {D : Ads} {N : Addr → Prop} {H H' : Hp} {p : Addr} {cs : List (Int × List (Int × Int))} (h : CurvesAt D N H p cs) (e : Same H H') : CurvesAt D N H' p cs:=by
 obtain ⟨h0,qs,h1,h2⟩:=h
 exact ⟨h0,qs,e _ _ h1,h2.imp fun _ _ x=>x.same e⟩
theorem CurvesAt.mono {D : Ads} {N N' : Addr → Prop} {H : Hp} {p : Addr} {cs : List (Int × List (Int × Int))} (h : CurvesAt D N H p cs) (e : ∀ x,N x → N' x) : CurvesAt D N' H p cs:=by
 obtain ⟨h0,qs,h1,h2⟩:=h
 exact ⟨e _ h0,qs,h1,h2.imp fun _ _ x=>x.mono e⟩
theorem CurvesAt.but {D : Ads} {N : Addr → Prop} {H H' : Hp} {p Dl : Addr} {cs : List (Int × List (Int × Int))} {xs : List V} (h : CurvesAt D N H p cs) (e : SameBut Dl H H') (hD : H Dl = some (.lst xs)) (n : ∀ x,N x → x ≠ Dl) : CurvesAt D N H' p cs:=by
 obtain ⟨h0,qs,h1,h2⟩:=h
 exact ⟨h0,qs,e _ _ h1 (n _ h0),h2.imp fun _ _ x=>x.but e hD n⟩
structure OwnAt (D : Ads) (H : Hp) (ow : Addr) (os : List Addr) (ls : Nat → Book) : Prop where
 lst : H ow = some (.lst (os.map V.ref))
 nd : os.Nodup
 len : os.length = 4
 at_ : ∀ (j : Nat) (a : Addr),os[j]? = some a → a ≠ ow ∧ BookAt D H a (ls j)
theorem OwnAt.step {D : Ads} {H : Hp} {ow q c : Addr} {os : List Addr} {ls ls' : Nat → Book} {j : Nat} {l : Leg} {ps : List Addr} (B : OwnAt D H ow os ls) (hc : os[j]? = some c) (hp : H c = some (.lst (ps.map V.ref))) (hb : All2 (LegAt D H) ps (ls j)) (hl : LegAt D H q l)
  (e1 : ls' j = ls j ++ [l]) (e2 : ∀ i,i ≠ j → ls' i = ls i) : OwnAt D (upd H c (.lst (ps.map V.ref ++ [V.ref q]))) ow os ls':=by
 have up : ∀ b l,LegAt D H b l → LegAt D (upd H c (.lst (ps.map V.ref ++ [V.ref q]))) b l:=fun b l ⟨dx,e⟩=>⟨dx,by rw [upd_ne (ne_of e hp (by intro z; cases z))]; exact e⟩
 obtain ⟨n1,_⟩:=B.at_ j c hc
 refine ⟨by rw [upd_ne n1.symm]; exact B.lst,B.nd,B.len,fun i a ha=>?_⟩
 obtain ⟨n2,ps2,h2,h3⟩:=B.at_ i a ha
 refine ⟨n2,?_⟩
 by_cases hij : i = j
 ·subst hij
  obtain rfl : a = c:=Option.some.inj (ha.symm.trans hc)
  exact ⟨ps ++ [q],by rw [upd_same,List.map_append]; rfl,by rw [e1]; exact (hb.imp up).append (.cons (up _ _ hl) .nil)⟩
 ·have hne : a ≠ c:=fun z=>hij (nd_ix B.nd ha (by rw [z]; exact hc))
  exact ⟨ps2,by rw [upd_ne hne]; exact h2,by rw [e2 i hij]; exact h3.imp up⟩
abbrev s_curves_of : Stmt:=top 50
def spCurves (D : Ads) : Sp:=fun vs H Q _=>∃ (a : Addr) (b : Book),vs = [.ref a] ∧ BookAt D H a b ∧ (∀ l ∈ b,LegOk l) ∧ b.length ≤ 1000 ∧
 ∀ H' p cs,CurvesAt D (fun x=>H x = none) H' p cs → cs.length = 4 → (∀ (u : Nat) (c : Int × List (Int × Int)),cs[u]? = some c → CurveOf (on b (u + 1)) c.1 c.2) → Same H H' → Q (.ref p) H'
theorem sc_curves : FnScope ["book","own","leg","legs"] ["book"] (defScope s_curves_of):=scm
theorem on_snoc {b : Book} {i : Nat} {l : Leg} (h : b[i]? = some l) (u : Nat) : on (b.take (i + 1)) u = on (b.take i) u ++ (if (l.kind != 0 && l.under == u) = true then [l] else []):=by
 rw [take_snoc h,on_app]
 congr 1
 unfold on
 rw [List.filter_cons,List.filter_nil]
theorem ok_curves (F : FunG K mg "curves_of" s_curves_of) (T : Txt K mg D) (cK : Cal P w K mg base CX0 3 "curve_of" ["legs"] (spCurveOf D)) : Cal P w K mg base CX0 4 "curves_of" ["book"] (spCurves D):=by
 obtain ⟨f,fd,F,hm⟩:=F
 refine ⟨f,fd,F.ok sc_curves (fun vs H Q E h=>?_) (fun cdv A outer s H vs Q E hr h=>?_),hm,F.kp,F.binds fun _ _ _ _ _ _ us hl=>match us,hl with | [_],_=>rfl⟩
 ·obtain ⟨a,b,rfl,_⟩:=h
  rfl
 ·obtain ⟨a,b,rfl,⟨ps,ha,hps⟩,lk,hlen,k⟩:=h
  refine ⟨_,pss_cons (ps_set (i:=1) sc_curves.nd rfl (Or.inl rfl) (pe_lst (pa_cons (pe_lst (pa_nil)) (pa_cons (pe_lst (pa_nil)) (pa_cons (pe_lst (pa_nil)) (pa_cons (pe_lst (pa_nil)) (pa_nil))))))) (pss_cons (ps_for PassesOwn.never rfl (pi_list (pv 0)) (pg_name (i:=2) sc_curves.nd rfl (Or.inl rfl)) (pss_one (ps_if (pt_cmpR op_ne (pe_fld (pv 2) rfl) (pe_gv rfl T.CASH) (nomark _)) (pss_one (ps_expr (pe_bm PySem.F.plainAttrs_list PySem.F.slot_list_append PySem.F.type_list_append mt_append (pe_ix ix_list (pv 1) (pe_op op_sub (pe_fld (pv 2) rfl) (pe_int)) (fun _ _=>rfl)) (pa_cons (pv 2) (pa_nil))))) (pss_nil)))) (pss_one (ps_ret (pe_lc rfl sc_curves.nd (pi_list (pv 1)) (blkOk_by (own:=[("legs",3)]) (by rfl)) (fun _ _ _ _ _=>pg_name (i:=3) sc_curves.nd rfl (Or.inl rfl)) (fun _ _ _ _ _=>pts_nil) (fun _ _ _ _ _=>pe_cal cK hr rfl pass0 (pa_cons (pv 3) (pa_nil))))))),?_⟩
  refine ⟨Nat.zero_le _,fun o0 h0=>⟨Nat.zero_le _,fun o1 h1=>⟨Nat.zero_le _,fun o2 h2=>⟨Nat.zero_le _,fun o3 h3=>⟨(by show 4 ≤ sizeLine; decide),fun ow how=>?_⟩⟩⟩⟩⟩
  have a1 : Same H (upd H o0 (.lst [])):=Same.new h0
  have a2 : Same (upd H o0 (.lst [])) (upd (upd H o0 (.lst [])) o1 (.lst [])):=Same.new h1
  have a3:=Same.new (o:=.lst []) h2
  have a4:=Same.new (o:=.lst []) h3
  have a5:=Same.new (o:=.lst [V.ref o0,V.ref o1,V.ref o2,V.ref o3]) how
  have f0 : H o0 = none:=h0
  have f1 : H o1 = none:=a1.free h1
  have f2 : H o2 = none:=(a1.trans a2).free h2
  have f3 : H o3 = none:=((a1.trans a2).trans a3).free h3
  have f4 : H ow = none:=(((a1.trans a2).trans a3).trans a4).free how
  have sH:=(((a1.trans a2).trans a3).trans a4).trans a5
  have b0 : (upd H o0 (.lst [])) o0 = some (.lst []):=upd_same
  have b1 : (upd (upd H o0 (.lst [])) o1 (.lst [])) o1 = some (.lst []):=upd_same
  have c0:=a2 _ _ b0
  have d0:=a3 _ _ c0
  have d1:=a3 _ _ b1
  have e0:=a4 _ _ d0
  have e1:=a4 _ _ d1
  have b2 : (upd (upd (upd H o0 (.lst [])) o1 (.lst [])) o2 (.lst [])) o2 = some (.lst []):=upd_same
  have e2:=a4 _ _ b2
  have e3 : (upd (upd (upd (upd H o0 (.lst [])) o1 (.lst [])) o2 (.lst [])) o3 (.lst [])) o3 = some (.lst []):=upd_same
  have n01 : o0 ≠ o1:=ne_of_none b0 h1
  have n02 : o0 ≠ o2:=ne_of_none c0 h2
  have n12 : o1 ≠ o2:=ne_of_none b1 h2
  have n03 : o0 ≠ o3:=ne_of_none d0 h3
  have n13 : o1 ≠ o3:=ne_of_none d1 h3
  have n23 : o2 ≠ o3:=ne_of_none b2 h3
  have B0 : OwnAt D (upd (upd (upd (upd (upd H o0 (.lst [])) o1 (.lst [])) o2 (.lst [])) o3 (.lst [])) ow (.lst [V.ref o0,V.ref o1,V.ref o2,V.ref o3])) ow [o0,o1,o2,o3] (fun j=>on (b.take 0) (j + 1)):=by
   refine ⟨upd_same,by simp [n01,n02,n03,n12,n13,n23],rfl,fun j x hx=>?_⟩
   match j,hx with
   | 0,hx=>cases hx; exact ⟨ne_of_none e0 how,[],a5 _ _ e0,.nil⟩
   | 1,hx=>cases hx; exact ⟨ne_of_none e1 how,[],a5 _ _ e1,.nil⟩
   | 2,hx=>cases hx; exact ⟨ne_of_none e2 how,[],a5 _ _ e2,.nil⟩
   | 3,hx=>cases hx; exact ⟨ne_of_none e3 how,[],a5 _ _ e3,.nil⟩
   | j + 4,hx=>simp at hx
  have fr : ∀ x ∈ [o0,o1,o2,o3],H x = none:=fun x hx=>by
   simp at hx
   rcases hx with rfl | rfl | rfl | rfl
   ·exact f0
   ·exact f1
   ·exact f2
   ·exact f3
  refine ⟨_,rfl,a,rfl,⟨_,sqL_of (sH _ _ ha)⟩,for_list (K:=K) (a:=a) (xs:=ps.map V.ref) (fun i σ H'=>∃ v2 : Option V,σ = [some (.ref a),some (.ref ow),v2,none] ∧ Same H H' ∧ OwnAt D H' ow [o0,o1,o2,o3] (fun j=>on (b.take i) (j + 1)))
   ⟨none,rfl,sH,B0⟩ (fun i σ H' _ ⟨_,_,s5,_⟩=>s5.seq (sqL_of ha)) ?_ ?_⟩
  ·rintro i y σ H' hi ⟨v2,rfl,s1,B⟩
   obtain ⟨q,hq,rfl⟩:=refs_at hi
   obtain ⟨l,hl,d,hleg⟩:=hps.get hq
   have hok:=lk l (List.mem_of_getElem? hl)
   have hl':=s1 _ _ hleg
   refine ⟨_,rfl,q,D.leg,d,_,_,rfl,hl',T.leg,T.leg_k,legF_k l,rfl,_,rfl,?_⟩
   rw [dec_int_eq]
   by_cases hk : l.kind = 0
   ·rw [kb_0.mpr hk]
    refine iteF ⟨_,rfl,s1,?_⟩
    have e : (fun j=>on (b.take (i + 1)) (j + 1)) = fun j=>on (b.take i) (j + 1):=by
     funext j
     rw [on_snoc hl,if_neg (by simp [hk]),List.append_nil]
    rw [e]
    exact B
   ·rw [decide_eq_false fun e=>hk (kb_0.mp e)]
    obtain ⟨u1,u4⟩:=hok.under hk
    have hj : l.under - 1 < [o0,o1,o2,o3].length:=by show _ < 4; omega
    obtain ⟨c,hc⟩ : ∃ c,([o0,o1,o2,o3] : List Addr)[l.under - 1]? = some c:=⟨_,List.getElem?_eq_getElem hj⟩
    obtain ⟨nc,qs,hqs,hall⟩:=B.at_ _ c hc
    have hat : atI (([o0,o1,o2,o3] : List Addr).map V.ref) ((l.under : Int) - 1) = some (V.ref c):=at_of (j:=l.under - 1) (by omega) (by rw [List.getElem?_map,hc]; rfl)
    have hql : qs.length ≤ 1000:=by
     rw [hall.length]
     unfold on
     exact Nat.le_trans (List.length_filter_le _ _) (by rw [List.length_take]; omega)
    refine iteT ⟨_,rfl,_,rfl,q,D.leg,d,_,_,rfl,hl',T.leg,T.leg_u,legF_u l,_,_,rfl,rfl,ow,_,_,_,rfl,rfl,sqL_of B.lst,hat,.inl ⟨rfl,_,sqL_of hqs⟩,_,rfl,c,_,_,rfl,rfl,hqs,(by rw [List.length_map]; exact lt_line (by omega)),?_⟩
    refine ⟨_,rfl,fun x o e=>?_,?_⟩
    ·rw [upd_ne (fun z=>by rw [z,fr c (List.mem_of_getElem? hc)] at e; cases e)]
     exact s1 x o e
    ·refine B.step (j:=l.under - 1) hc hqs hall ⟨d,hl'⟩ ?_ fun i2 hi2=>?_
     ·show on (b.take (i + 1)) (l.under - 1 + 1) = on (b.take i) (l.under - 1 + 1) ++ [l]
      rw [on_snoc hl,if_pos (by simp [hk]; omega)]
     ·show on (b.take (i + 1)) (i2 + 1) = on (b.take i) (i2 + 1)
      rw [on_snoc hl,if_neg (by simp; intro _; omega),List.append_nil]
  ·rintro σ H2 ⟨v2,rfl,s1,B⟩
   rw [List.length_map,hps.length,List.take_length] at B
   refine ⟨_,rfl,ow,rfl,⟨_,sqL_of B.lst⟩,fun Dl hD=>lc_one (K:=K) (a:=ow) (xs:=([o0,o1,o2,o3] : List Addr).map V.ref)
    (fun i H'=>Same H2 H' ∧ ∃ (qs : List Addr) (cs : List (Int × List (Int × Int))),H' Dl = some (.lst (qs.map V.ref)) ∧ All2 (fun q c=>CurveAt D (fun x=>H x = none ∧ x ≠ Dl) H' q c.1 c.2) qs cs ∧ cs.length = i ∧ ∀ (u : Nat) (c : Int × List (Int × Int)),cs[u]? = some c → CurveOf (on b (u + 1)) c.1 c.2)
    ⟨Same.new hD,[],[],upd_same,.nil,rfl,fun u c e=>by simp at e⟩ (fun i H' _ ⟨s2,_⟩=>s2.seq (sqL_of B.lst)) (fun _=>rfl) ?_ ?_⟩
   ·rintro i x H' hi ⟨s2,qs,cs,hDl,hqs,hcl,hcs⟩
    obtain ⟨c,hc,rfl⟩:=refs_at hi
    obtain ⟨nc,hbk⟩:=B.at_ i c hc
    have hi4 : i < 4:=(List.getElem?_eq_some_iff.mp hc).1
    refine ⟨_,rfl,c,_,rfl,hbk.same s2,Nat.le_trans (List.length_filter_le _ _) (by omega),fun H4 p s4 bs4 hcv hco s5=>?_⟩
    have hDl4:=s5 _ _ hDl
    have hcv' : CurveAt D (fun x=>H x = none ∧ x ≠ Dl) H4 p s4 bs4:=hcv.mono fun x hx=>⟨(s1.trans s2).free hx,fun z=>by rw [z,hDl] at hx; cases hx⟩
    have bu : SameBut Dl H4 (upd H4 Dl (.lst (qs.map V.ref ++ [V.ref p]))):=(SameBut.refl Dl H4).upd
    refine ⟨_,hDl4,(by rw [List.length_map,hqs.length,hcl]; exact lt_line (by omega)),?_,qs ++ [p],cs ++ [(s4,bs4)],by rw [upd_same,List.map_append]; rfl,?_,by rw [List.length_append,hcl]; rfl,fun u c e=>?_⟩
    ·exact fun c o e=>by rw [upd_ne (ne_of_none e hD)]; exact s5 c o (s2 c o e)
    ·exact (hqs.imp fun _ _ e=>(e.same s5).but bu hDl4 fun x hx=>hx.2).append (.cons (hcv'.but bu hDl4 fun x hx=>hx.2) .nil)
    ·rcases Nat.lt_or_ge u cs.length with hu | hu
     ·rw [List.getElem?_append_left hu] at e
      exact hcs u c e
     ·rw [List.getElem?_append_right hu] at e
      have : u = cs.length:=by
       have:=(List.getElem?_eq_some_iff.mp e).1
       simp at this
       omega
      subst this
      simp at e
      subst e
      rw [hcl]
      exact hco
   ·rintro H' ⟨s2,qs,cs,hDl,hqs,hcl,hcs⟩
    exact k H' Dl cs ⟨s1.free hD,qs,hDl,hqs.imp fun _ _ e=>e.mono fun x hx=>hx.1⟩ hcl hcs (s1.trans s2)
abbrev s_join_curves : Stmt:=top 51
def spJoin (D : Ads) : Sp:=fun vs H Q _=>∃ (a : Addr) (qs : List Addr) (cs : List (Int × List (Int × Int))),vs = [.ref a] ∧ H a = some (.lst (qs.map V.ref)) ∧ All2 (fun q c=>CurveAt D (fun _=>True) H q c.1 c.2) qs cs ∧ cs.length ≤ 100 ∧ (cs.flatMap fun c=>c.2).length ≤ 1000 ∧
 ∀ H' p s bs,CurveAt D (fun x=>H x = none) H' p s bs → s = (cs.map fun c=>c.1).sum → bs.Perm (cs.flatMap fun c=>c.2) → Rise bs → Same H H' → Q (.ref p) H'
theorem sc_jcurves : FnScope ["curves","bends","curve"] ["curves"] (defScope s_join_curves):=scm
theorem flat_take {α β : Type} (f : α → List β) (l : List α) (i : Nat) : ((l.take i).flatMap f).length ≤ (l.flatMap f).length:=by
 conv=>rhs; rw [← List.take_append_drop i l,List.flatMap_append,List.length_append]
 omega
theorem ok_jcurves (F : FunG K mg "join_curves" s_join_curves) (T : Txt K mg D) (cC : CalC P w K mg base 1 D.cur "Curve" ["self","slope","bends"] (spMade D.cur 2 curFs)) : Cal P w K mg base CX0 3 "join_curves" ["curves"] (spJoin D):=by
 obtain ⟨f,fd,F,hm⟩:=F
 refine ⟨f,fd,F.ok sc_jcurves (fun vs H Q E h=>?_) (fun cdv A outer s H vs Q E hr h=>?_),hm,F.kp,F.binds fun _ _ _ _ _ _ us hl=>match us,hl with | [_],_=>rfl⟩
 ·obtain ⟨a,qs,cs,rfl,_⟩:=h
  rfl
 ·obtain ⟨a,qs,cs,rfl,ha,hqs,hcl,hlen,k⟩:=h
  refine ⟨_,pss_cons (ps_set (i:=1) sc_jcurves.nd rfl (Or.inl rfl) (pe_lst (pa_nil))) (pss_cons (ps_for PassesOwn.never rfl (pi_list (pv 0)) (pg_name (i:=2) sc_jcurves.nd rfl (Or.inl rfl)) (pss_one (ps_expr (pe_bm PySem.F.plainAttrs_list PySem.F.slot_list_extend PySem.F.type_list_extend mt_extend (pv 1) (pa_cons (pe_fld (pv 2) rfl) (pa_nil)))))) (pss_one (ps_ret (pe_calC cC hr rfl (pa_cons (pe_callB (cr_sum rfl) (by rfl) T.bSum boot_sum (pa_cons (pe_lc rfl sc_jcurves.nd (pi_list (pv 0)) (blkOk_by (own:=[("curve",2)]) (by rfl)) (fun _ _ _ _ _=>pg_name (i:=2) sc_jcurves.nd rfl (Or.inl rfl)) (fun _ _ _ _ _=>pts_nil) (fun _ _ _ _ _=>pe_fldK (K:=K) rfl (pv 2) rfl)) (pa_nil))) (pa_cons (pe_callB cr_sortedT (by rfl) T.bSorted PyProof.Rows.boot_sorted (pa_cons (pv 1) (pa_nil))) (pa_nil))))))),?_⟩
  refine ⟨Nat.zero_le _,fun tp htp=>?_⟩
  have s0 : Same H (upd H tp (.lst [])):=Same.new htp
  refine ⟨_,rfl,a,rfl,⟨_,sqL_of (s0 _ _ ha)⟩,for_list (K:=K) (a:=a) (xs:=qs.map V.ref) (fun i σ H'=>∃ v2 : Option V,σ = [some (.ref a),some (.ref tp),v2] ∧ Same H H' ∧ ∃ ps : List Addr,H' tp = some (.lst (ps.map V.ref)) ∧ All2 (TupAt H') ps ((cs.take i).flatMap fun c=>c.2))
   ⟨none,rfl,s0,[],upd_same,.nil⟩ (fun i σ H' _ ⟨_,_,s5,_⟩=>s5.seq (sqL_of ha)) ?_ ?_⟩
  ·rintro i y σ H' hi ⟨v2,rfl,s1,ps,ht,hps⟩
   obtain ⟨q,hq,rfl⟩:=refs_at hi
   obtain ⟨c,hc,dx,bp,rs,_,h1,h2,h3⟩:=hqs.get hq
   have hfl:=flat_take (fun c : Int × List (Int × Int)=>c.2) cs (i + 1)
   rw [take_snoc hc,List.flatMap_append,List.length_append] at hfl
   have hcc : (([c] : List (Int × List (Int × Int))).flatMap fun c=>c.2) = c.2:=by simp
   rw [hcc] at hfl
   refine ⟨_,rfl,.inl ⟨rfl,_,sqL_of ht⟩,_,rfl,q,D.cur,dx,_,_,rfl,s1 _ _ h1,T.cur,T.cur_b,curF_b _ _,tp,bp,_,_,rfl,rfl,ht,s1 _ _ h2,(by rw [List.length_map,List.length_map,hps.length,h3.length]; exact le_line (by omega)),?_⟩
   have up : ∀ (p : Addr) (x : Int × Int),TupAt H' p x → TupAt (upd H' tp (.lst (ps.map V.ref ++ rs.map V.ref))) p x:=fun p x e=>by
    show upd _ tp _ p = _
    rw [upd_ne (ne_of e ht (by intro z; cases z))]; exact e
   refine ⟨_,rfl,fun x o e=>by rw [upd_ne (ne_of_none e htp)]; exact s1 x o e,ps ++ rs,by rw [upd_same,List.map_append],?_⟩
   rw [take_snoc hc,List.flatMap_append,hcc]
   exact (hps.imp up).append (h3.imp fun p x e=>up p x (s1 _ _ e))
  ·rintro σ H1 ⟨v2,rfl,s1,ps,ht,hps⟩
   rw [List.length_map,hqs.length,List.take_length] at hps
   refine ⟨_,rfl,a,rfl,⟨_,sqL_of (s1 _ _ ha)⟩,fun Dl hD=>lc_one (K:=K) (a:=a) (xs:=qs.map V.ref) (fun i H'=>Same H1 H' ∧ H' Dl = some (.lst (((cs.take i).map fun c=>c.1).map V.int))) ⟨Same.new hD,upd_same⟩ (fun i H' _ ⟨s2,_⟩=>s2.seq (sqL_of (s1 _ _ ha))) (fun _=>rfl) ?_ ?_⟩
   ·rintro i x H' hi ⟨s2,hDl⟩
    obtain ⟨q,hq,rfl⟩:=refs_at hi
    obtain ⟨c,hc,dx,bp,rs,_,h1,h2,h3⟩:=hqs.get hq
    refine ⟨_,rfl,q,D.cur,dx,_,_,rfl,s2 _ _ (s1 _ _ h1),T.cur,T.cur_s,curF_s _ _,_,hDl,?_,?_,?_⟩
    ·rw [List.length_map,List.length_map,List.length_take]
     exact lt_line (by omega)
    ·exact fun c o e=>by rw [upd_ne (ne_of_none e hD)]; exact s2 c o e
    ·rw [upd_same,take_snoc hc,List.map_append,List.map_append]
     rfl
   ·rintro H2 ⟨s2,hDl⟩
    rw [List.length_map,hqs.length,List.take_length] at hDl
    refine ⟨Dl,_,rfl,sqL_of hDl,?_⟩
    refine ⟨_,rfl,tp,ps,_,rfl,sqL_of (s2 _ _ ht),hps.imp (fun _ _ e=>s2 _ _ e),fun ps' bs' bp h1 h2 h3 h4 hbp=>?_⟩
    have s3 : Same H2 (upd H2 bp (.lst (ps'.map V.ref))):=Same.new hbp
    refine fun x dx n1 n2 n3=>⟨x,dx,_,rfl,rfl,upd_same,fun H4 e1 e2=>⟨rfl,?_⟩⟩
    have s4:=Same.made n1 n2 e2
    have s02:=s1.trans s2
    exact k H4 x _ bs' ⟨dx,bp,ps',s02.free hbp,e1,s4 _ _ upd_same,h1.imp fun _ _ e=>s4 _ _ (s3 _ _ e)⟩ rfl h2 h3 ((s02.trans s3).trans s4)
end
end VD
set_option maxRecDepth 100000
set_option maxHeartbeats 2000000
namespace VD
open PySem PySem.Spec PyProof.Rows L2 VM VX XL
open Vbchai (Leg Book Member Scene State Prices)
theorem for_list2 {K : PySem.W.Frag} {a : Addr} {xs : List V} {g : TG} {tb : TS} {D : Ends} {σ : L2.St} {H : Hp} (Pv : Nat → L2.St → Hp → Prop) (Fin : L2.St → Hp → Prop) (h0 : Pv 0 σ H) (hl : ∀ i σ H,i ≤ xs.length → Pv i σ H → SqL K H a xs)
  (hfin : ∀ σ H,Fin σ H → D.nx σ H)
  (hs : (∀ σ H,Fin σ H → D.nx σ H) → ∀ i x σ H,xs[i]? = some x → Pv i σ H → g x σ H fun σ2 H2=>tb { D with nx:=Pv (i + 1),ct:=Pv (i + 1),bk:=D.nx } σ2 H2) (hd : ∀ σ H,Pv xs.length σ H → Fin σ H) :
  ∃ W : Nat → Nat → L2.St → Hp → Prop,(∃ m,W 0 m σ H) ∧ ∀ i m σ H,W i m σ H →
   ((Itl K a).stop i H ∧ D.nx σ H) ∨ ((Itl K a).go i H ∧ ∃ N : L2.St → Hp → Prop,(∀ σ' H',N σ' H' → ∃ m',m' < m ∧ W (i + 1) m' σ' H') ∧ ∀ x H',(Itl K a).yld i H x H' → g x σ H' fun σ2 H2=>tb { D with nx:=N,ct:=N,bk:=D.nx } σ2 H2) :=
 for_list Pv h0 hl (hs hfin) fun σ H p=>hfin σ H (hd σ H p)
section
variable {P : Program} {w : World} {K : PySem.W.Frag} {mg : Str → Option Value} {base : Heap} {D : Ads}
abbrev s_worst_price : Stmt:=top 52
def spWorst (D : Ads) : Sp:=fun vs H Q _=>∃ (a : Addr) (s : Int) (bs : List (Int × Int)) (lo hi : Int),vs = [.ref a,.int lo,.int hi] ∧ CurveAt D (fun _=>True) H a s bs ∧ (∀ x ∈ bs,0 ≤ x.1 ∧ x.1 ≤ 1000000) ∧ bs.length ≤ 1000 ∧ 0 ≤ lo ∧ lo ≤ 1000000 ∧ 0 ≤ hi ∧ hi ≤ 1000000 ∧
 ∀ H' p,TupAt H' p (worstP s bs lo hi) → Same H H' → Q (.ref p) H'
theorem sc_worst : FnScope ["curve","least","greatest","slope","gain","strike","change","worst","price","bend"] ["curve","least","greatest"] (defScope s_worst_price):=scm
theorem drop_at {α : Type} {l : List α} {i : Nat} {x : α} (h : l[i]? = some x) : l.drop i = x :: l.drop (i + 1):=by
 obtain ⟨h1,h2⟩:=List.getElem?_eq_some_iff.mp h
 rw [List.drop_eq_getElem_cons h1,h2]
theorem ok_worst (F : FunG K mg "worst_price" s_worst_price) (T : Txt K mg D) : Cal P w K mg base CX0 1 "worst_price" ["curve","least","greatest"] (spWorst D):=by
 obtain ⟨f,fd,F,hm⟩:=F
 refine ⟨f,fd,F.ok sc_worst (fun vs H Q E h=>?_) (fun cdv A outer s H vs Q E hr h=>?_),hm,F.kp,F.binds fun _ _ _ _ _ _ us hl=>match us,hl with | [_,_,_],_=>rfl⟩
 ·obtain ⟨a,s,bs,lo,hi,rfl,_⟩:=h
  rfl
 ·obtain ⟨a,s0,bs,lo,hi,rfl,⟨dx,bp,ps,_,ha,hbp,hps⟩,hb,hlen,l0,l1,g0,g1,k⟩:=h
  refine ⟨_,pss_cons (ps_set (i:=3) sc_worst.nd rfl (Or.inl rfl) (pe_fld (pv 0) rfl)) (pss_cons (ps_set (i:=4) sc_worst.nd rfl (Or.inl rfl) (pe_op op_mul (pv 3) (pv 1))) (pss_cons (ps_for PassesOwn.never rfl (pi_list (pe_fld (pv 0) rfl)) (pg_tup rfl (pgs_cons (pg_name (i:=5) sc_worst.nd rfl (Or.inl rfl)) (pgs_cons (pg_name (i:=6) sc_worst.nd rfl (Or.inl rfl)) pgs_nil))) (pss_cons (ps_if (pt_cmpR op_gt (pv 5) (pv 1) (nomark _)) (pss_one (ps_break)) (pss_nil)) (pss_cons (ps_aug (i:=3) sc_worst.nd rfl (Or.inl rfl) (pv 6) ip_add) (pss_one (ps_aug (i:=4) sc_worst.nd rfl (Or.inl rfl) (pe_op op_mul (pv 6) (pe_op op_sub (pv 1) (pv 5))) ip_add))))) (pss_cons (ps_set (i:=7) sc_worst.nd rfl (Or.inl rfl) (pe_tup (pa_cons (pv 4) (pa_cons (pv 1) (pa_nil))))) (pss_cons (ps_set (i:=8) sc_worst.nd rfl (Or.inl rfl) (pv 1)) (pss_cons (ps_for PassesOwn.never rfl (pi_list (pe_op op_cat (pe_lc rfl sc_worst.nd (pi_list (pe_fld (pv 0) rfl)) (blkOk_by (own:=[("bend",9)]) (by rfl)) (fun _ _ _ _ _=>pg_name (i:=9) sc_worst.nd rfl (Or.inl rfl)) (fun _ _ _ _ _=>pts_one (pt_chain op_lt op_lt (pv 1) (pe_ix (ix_tupK (K:=K) rfl) (pv 9) pe_int (fun _ _=>rfl)) (pv 2))) (fun _ _ _ _ _=>pv 9)) (pe_lst (pa_cons (pe_tup (pa_cons (pv 2) (pa_cons (pe_int) (pa_nil)))) (pa_nil))))) (pg_tup rfl (pgs_cons (pg_name (i:=5) sc_worst.nd rfl (Or.inl rfl)) (pgs_cons (pg_name (i:=6) sc_worst.nd rfl (Or.inl rfl)) pgs_nil))) (pss_cons (ps_aug (i:=4) sc_worst.nd rfl (Or.inl rfl) (pe_op op_mul (pv 3) (pe_op op_sub (pv 5) (pv 8))) ip_add) (pss_cons (ps_aug (i:=3) sc_worst.nd rfl (Or.inl rfl) (pv 6) ip_add) (pss_cons (ps_set (i:=8) sc_worst.nd rfl (Or.inl rfl) (pv 5)) (pss_one (ps_if (pt_cmpR op_lt (pv 4) (pe_ix ix_tup (pv 7) (pe_int) (fun _ _=>rfl)) (nomark _)) (pss_one (ps_set (i:=7) sc_worst.nd rfl (Or.inl rfl) (pe_tup (pa_cons (pv 4) (pa_cons (pv 8) (pa_nil)))))) (pss_nil))))))) (pss_one (ps_ret (pv 7)))))))),?_⟩
  refine ⟨_,rfl,a,D.cur,dx,_,_,rfl,ha,T.cur,T.cur_s,curF_s _ _,?_⟩
  refine ⟨_,rfl,_,rfl,_,_,rfl,rfl,.inr ⟨by omega,by omega⟩,?_⟩
  refine ⟨_,rfl,a,D.cur,dx,_,_,rfl,ha,T.cur,T.cur_b,curF_b _ _,bp,rfl,⟨_,sqL_of hbp⟩,for_list2 (K:=K) (a:=bp) (xs:=ps.map V.ref)
   (fun i σ H'=>H' = H ∧ ∃ (s' g' : Int) (v5 v6 : Option V),σ = [some (.ref a),some (.int lo),some (.int hi),some (.int s'),some (.int g'),v5,v6,none,none,none] ∧ pre1 lo s0 (s0 * lo) bs = pre1 lo s' g' (bs.drop i))
   (fun σ H'=>H' = H ∧ ∃ (v5 v6 : Option V),σ = [some (.ref a),some (.int lo),some (.int hi),some (.int (pre1 lo s0 (s0 * lo) bs).1),some (.int (pre1 lo s0 (s0 * lo) bs).2),v5,v6,none,none,none])
   ⟨rfl,s0,s0 * lo,none,none,rfl,rfl⟩ (fun i σ H' _ ⟨e,_⟩=>by rw [e]; exact sqL_of hbp) ?_ ?_ ?_⟩
  ·rintro σ H' ⟨rfl,v5,v6,rfl⟩
   have hW : worstP s0 bs lo hi = run2 (pre1 lo s0 (s0 * lo) bs).2 (pre1 lo s0 (s0 * lo) bs).1 lo (pre1 lo s0 (s0 * lo) bs).2 lo (bs.filter (inB lo hi) ++ [(hi,0)]):=rfl
   generalize (pre1 lo s0 (s0 * lo) bs).1 = s1 at hW
   generalize (pre1 lo s0 (s0 * lo) bs).2 = g1 at hW
   refine ⟨_,rfl,_,rfl,(by show 2 ≤ sizeLine; decide),fun wp hwp=>?_⟩
   have sw : Same H' (upd H' wp (.tup [.int g1,.int lo])):=Same.new hwp
   have hwt : TupAt (upd H' wp (.tup [.int g1,.int lo])) wp (g1,lo):=upd_same
   generalize upd H' wp (.tup [.int g1,.int lo]) = H1 at sw hwt
   refine ⟨_,rfl,?_⟩
   refine ⟨_,rfl,a,D.cur,dx,_,_,rfl,sw _ _ ha,T.cur,T.cur_b,curF_b _ _,bp,rfl,⟨_,sqL_of (sw _ _ hbp)⟩,fun Dl hD=>lc_list (K:=K) (a:=bp) (xs:=ps.map V.ref) (g:=gName 9)
    (fun i H2=>Same H1 H2 ∧ ∃ qs : List Addr,H2 Dl = some (.lst (qs.map V.ref)) ∧ All2 (TupAt H2) qs ((bs.take i).filter (inB lo hi)) ∧ qs.length ≤ i) ⟨Same.new hD,[],upd_same,.nil,Nat.le_refl _⟩ (fun i H2 _ ⟨s2,_⟩=>s2.seq (sqL_of (sw _ _ hbp))) ?_ ?_⟩
   ·rintro i x H2 hi' ⟨s2,qs,hDl,hqs,hql⟩
    obtain ⟨q,hq,rfl⟩:=refs_at hi'
    obtain ⟨y,hy,hty⟩:=hps.get hq
    have hty2:=s2 _ _ (sw _ _ hty)
    have hib:=(List.getElem?_eq_some_iff.mp hy).1
    have skip : inB lo hi y = false → Same H1 H2 ∧ ∃ qs : List Addr,H2 Dl = some (.lst (qs.map V.ref)) ∧ All2 (TupAt H2) qs ((bs.take (i + 1)).filter (inB lo hi)) ∧ qs.length ≤ i + 1:=fun z=>by
     refine ⟨s2,qs,hDl,?_,by omega⟩
     rw [take_snoc hy,List.filter_append,List.filter_cons,if_neg (by simp [z]),List.filter_nil,List.append_nil]
     exact hqs
    refine ⟨rfl,?_⟩
    refine ⟨_,rfl,_,rfl,q,_,_,_,rfl,rfl,.inl (.inl hty2),rfl,_,_,rfl,rfl,_,rfl,?_⟩
    refine ite2 (fun z1=>?_) (fun z1=>?_)
    ·have z1:=of_decide_eq_true z1
     refine ⟨_,rfl,_,_,rfl,rfl,_,rfl,?_⟩
     refine ite2 (fun z2=>?_) (fun z2=>?_)
     ·have z2:=of_decide_eq_true z2
      refine ⟨_,rfl,_,hDl,(by rw [List.length_map]; exact lt_line (by omega)),?_,qs ++ [q],by rw [upd_same,List.map_append]; rfl,?_,by rw [List.length_append]; show _ + 1 ≤ _; omega⟩
      ·exact fun c o e=>by rw [upd_ne (ne_of_none e hD)]; exact s2 c o e
      ·rw [take_snoc hy,List.filter_append,List.filter_cons,if_pos (by simp [inB]; exact ⟨z1,z2⟩),List.filter_nil]
       have up : ∀ (p : Addr) (x : Int × Int),TupAt H2 p x → TupAt (upd H2 Dl (.lst (qs.map V.ref ++ [V.ref q]))) p x:=fun p x e=>by
        show upd _ Dl _ p = _
        rw [upd_ne (ne_of e hDl (by intro z; cases z))]; exact e
       exact (hqs.imp up).append (.cons (up _ _ hty2) .nil)
     ·have z2 : ¬ y.1 < hi:=fun q=>z2 (decide_eq_true q)
      exact skip (by simp [inB]; omega)
    ·have z1 : ¬ lo < y.1:=fun q=>z1 (decide_eq_true q)
     refine ⟨_,rfl,iteF ?_⟩
     exact skip (by simp [inB]; omega)
   ·rintro H2 ⟨s2,qs,hDl,hqs,hql⟩
    rw [List.length_map,hps.length,List.take_length] at hqs
    rw [List.length_map,hps.length] at hql
    refine ⟨_,rfl,(by show 2 ≤ sizeLine; decide),fun t2 ht2=>⟨(by show 1 ≤ sizeLine; decide),fun lp hlp=>?_⟩⟩
    have s3 : Same H2 (upd H2 t2 (.tup [.int hi,.int 0])):=Same.new ht2
    have s4 : Same (upd H2 t2 (.tup [.int hi,.int 0])) (upd (upd H2 t2 (.tup [.int hi,.int 0])) lp (.lst [V.ref t2])):=Same.new hlp
    refine ⟨Dl,lp,_,_,rfl,rfl,s4 _ _ (s3 _ _ hDl),upd_same,(by rw [List.length_map]; exact le_line (by show _ + 1 ≤ _; omega)),fun cp hcp=>?_⟩
    have s5:=Same.new (o:=.lst (qs.map V.ref ++ [V.ref t2])) hcp
    have hlst : (upd (upd (upd H2 t2 (.tup [.int hi,.int 0])) lp (.lst [V.ref t2])) cp (.lst (qs.map V.ref ++ [V.ref t2]))) cp = some (.lst ((qs ++ [t2]).map V.ref)):=by rw [upd_same,List.map_append]; rfl
    have s25:=(s3.trans s4).trans s5
    have htt : TupAt (upd (upd (upd H2 t2 (.tup [.int hi,.int 0])) lp (.lst [V.ref t2])) cp (.lst (qs.map V.ref ++ [V.ref t2]))) t2 (hi,0):=s5 _ _ (s4 _ _ upd_same)
    generalize upd (upd (upd H2 t2 (.tup [.int hi,.int 0])) lp (.lst [V.ref t2])) cp (.lst (qs.map V.ref ++ [V.ref t2])) = H5 at hlst s25 htt
    have hall : All2 (TupAt H5) (qs ++ [t2]) (bs.filter (inB lo hi) ++ [(hi,0)]):=(hqs.imp fun _ _ e=>s25 _ _ e).append (.cons htt .nil)
    have hb2 : ∀ x ∈ bs.filter (inB lo hi) ++ [(hi,0)],0 ≤ x.1 ∧ x.1 ≤ 1000000:=fun x hx=>by
     rcases List.mem_append.mp hx with hx | hx
     ·exact hb x (List.mem_filter.mp hx).1
     ·rw [List.mem_singleton] at hx; subst hx; exact ⟨g0,by assumption⟩
    have t5 : Same H' H5:=(sw.trans s2).trans s25
    refine ⟨cp,rfl,⟨_,sqL_of hlst⟩,for_list (K:=K) (a:=cp) (xs:=(qs ++ [t2]).map V.ref) (fun i σ H6=>∃ (sl ga pr wg wz : Int) (wq : Addr) (v5 v6 : Option V),σ = [some (.ref a),some (.int lo),some (.int hi),some (.int sl),some (.int ga),v5,v6,some (.ref wq),some (.int pr),none] ∧ Same H5 H6 ∧ TupAt H6 wq (wg,wz) ∧
     0 ≤ pr ∧ pr ≤ 1000000 ∧ worstP s0 bs lo hi = run2 ga sl pr wg wz ((bs.filter (inB lo hi) ++ [(hi,0)]).drop i)) ⟨s1,g1,lo,g1,lo,wp,v5,v6,rfl,Same.refl _,s25 _ _ (s2 _ _ hwt),l0,l1,hW⟩ (fun i σ H6 _ ⟨_,_,_,_,_,_,_,_,_,s6,_⟩=>s6.seq (sqL_of hlst)) ?_ ?_⟩
    ·rintro i x σ H6 hi' ⟨sl,ga,pr,wg,wz,wq,v5,v6,rfl,s6,hwq,p0,p1,he⟩
     obtain ⟨q,hq,rfl⟩:=refs_at hi'
     obtain ⟨y,hy,hty⟩:=hall.get hq
     have hby:=hb2 y (List.mem_of_getElem? hy)
     rw [drop_at hy,run2] at he
     refine ⟨q,_,rfl,.inl (.inl (s6 _ _ hty)),rfl,_,_,rfl,_,_,rfl,rfl,?_⟩
     refine ⟨_,rfl,_,rfl,_,rfl,_,rfl,_,_,rfl,rfl,_,_,rfl,rfl,.inr ⟨by omega,by omega⟩,_,_,rfl,rfl,?_⟩
     refine ⟨_,rfl,_,rfl,_,_,rfl,rfl,?_⟩
     refine ⟨_,rfl,?_⟩
     refine ⟨_,rfl,_,rfl,wq,_,_,_,rfl,rfl,.inl (.inl hwq),rfl,_,_,rfl,rfl,_,rfl,?_⟩
     refine ite2 (fun z=>?_) (fun z=>?_)
     ·have z:=of_decide_eq_true z
      rw [if_pos z] at he
      refine ⟨_,rfl,_,rfl,(by show 2 ≤ sizeLine; decide),fun np hnp=>?_⟩
      exact ⟨_,_,_,_,_,np,_,_,rfl,s6.trans (Same.new hnp),upd_same,hby.1,hby.2,he⟩
     ·rw [if_neg fun q=>z (decide_eq_true q)] at he
      exact ⟨_,_,_,_,_,wq,_,_,rfl,s6,hwq,hby.1,hby.2,he⟩
    ·rintro σ H6 ⟨sl,ga,pr,wg,wz,wq,v5,v6,rfl,s6,hwq,p0,p1,he⟩
     rw [List.length_map,hall.length,List.drop_length,run2] at he
     refine ⟨_,rfl,?_⟩
     refine k H6 wq ?_ (t5.trans s6)
     rw [he]
     exact hwq
  ·rintro after i x σ H' hi' ⟨rfl,s',g',v5,v6,rfl,he⟩
   obtain ⟨q,hq,rfl⟩:=refs_at hi'
   obtain ⟨y,hy,hty⟩:=hps.get hq
   have hby:=hb y (List.mem_of_getElem? hy)
   rw [drop_at hy,pre1] at he
   refine ⟨q,_,rfl,.inl (.inl hty),rfl,_,_,rfl,_,_,rfl,rfl,?_⟩
   refine ⟨_,rfl,_,rfl,_,_,rfl,rfl,_,rfl,?_⟩
   refine ite2 (fun z=>?_) (fun z=>?_)
   ·have z:=of_decide_eq_true z
    rw [if_pos z] at he
    exact after _ _ ⟨rfl,some (.int y.1),some (.int y.2),by rw [he]; rfl⟩
   ·have z : ¬ lo < y.1:=fun q=>z (decide_eq_true q)
    rw [if_neg z] at he
    refine ⟨_,rfl,_,rfl,_,_,rfl,rfl,?_⟩
    refine ⟨_,rfl,_,rfl,_,rfl,_,rfl,_,_,rfl,rfl,_,_,rfl,rfl,.inr ⟨by omega,by omega⟩,_,_,rfl,rfl,?_⟩
    exact ⟨rfl,_,_,_,_,rfl,he⟩
  ·rintro σ H' ⟨rfl,s',g',v5,v6,rfl,he⟩
   refine ⟨rfl,v5,v6,?_⟩
   rw [List.length_map,hps.length,List.drop_length,pre1] at he
   rw [he]
end
end VD
set_option maxRecDepth 100000
set_option maxHeartbeats 2000000
namespace VD
open PySem PySem.Spec PyProof.Rows L2 VM VX XL
open Vbchai (Leg Book Member Scene State Prices Box)
structure DRel {α : Type} (key : α → Nat) (R : α → V → Prop) (kvs : List (Key × V)) (ms : List α) : Prop where
 nd : (kvs.map fun kv=>kv.1).Nodup
 keys : ∀ k : Key,k ∈ (kvs.map fun kv=>kv.1) ↔ ∃ m ∈ ms,k = Sum.inl ((key m : Nat) : Int)
 val : ∀ m ∈ ms,∃ v,valV kvs (.inl ((key m : Nat) : Int)) = some v ∧ R m v
section
variable {α : Type} {key : α → Nat} {R : α → V → Prop} {kvs : List (Key × V)} {ms : List α}
theorem valV_mem {k : Key} : ∀ {kvs : List (Key × V)},(valV kvs k).isSome = true ↔ k ∈ (kvs.map fun kv=>kv.1)
 | []=>by simp [valV]
 | p :: r=>by
  rw [List.map_cons,List.mem_cons]
  by_cases e : p.1 = k
  ·rw [valV_pos e]; simp [e]
  ·rw [valV_neg e,valV_mem]
   constructor
   ·exact .inr
   ·rintro (h | h)
    ·exact absurd h.symm e
    ·exact h
theorem DRel.imp {R' : α → V → Prop} (h : DRel key R kvs ms) (k : ∀ m v,R m v → R' m v) : DRel key R' kvs ms :=
 ⟨h.nd,h.keys,fun m hm=>let ⟨v,e,r⟩:=h.val m hm; ⟨v,e,k m v r⟩⟩
theorem DRel.none (h : DRel key R kvs ms) {w : Int} (n : ∀ m ∈ ms,((key m : Nat) : Int) ≠ w) : valV kvs (.inl w) = none:=by
 cases e : valV kvs (.inl w) with
 | none=>rfl
 | some v =>
  have:=(h.keys (.inl w)).mp (valV_mem.mp (by rw [e]; rfl))
  obtain ⟨m,hm,z⟩:=this
  cases z
  exact absurd rfl (n m hm)
theorem DRel.ints (h : DRel key R kvs ms) (up : Up key ms) : ∃ ks : List Int,(kvs.map fun kv=>kv.1) = ks.map Sum.inl ∧ ks.Perm (ms.map fun m=>((key m : Nat) : Int)):=by
 have nd2 : (ms.map fun m=>(Sum.inl ((key m : Nat) : Int) : Key)).Nodup:=by
  show List.Pairwise _ _
  rw [List.pairwise_map]
  exact up.imp fun hh z=>by have:=Sum.inl.inj z; omega
 have hp : (kvs.map fun kv=>kv.1).Perm (ms.map fun m=>(Sum.inl ((key m : Nat) : Int) : Key)):=(List.perm_ext_iff_of_nodup h.nd nd2).mpr fun k=>by
  rw [h.keys,List.mem_map]
  constructor
  ·rintro ⟨m,hm,e⟩; exact ⟨m,hm,e.symm⟩
  ·rintro ⟨m,hm,e⟩; exact ⟨m,hm,e.symm⟩
 let un : Key → Int:=fun k=>match k with | .inl i=>i | .inr _=>0
 refine ⟨(kvs.map fun kv=>kv.1).map un,?_,?_⟩
 ·rw [List.map_map]
  refine Eq.symm ((List.map_congr_left fun k hk=>?_).trans (List.map_id _))
  obtain ⟨m,_,rfl⟩:=(h.keys k).mp hk
  rfl
 ·have:=hp.map un
  rw [show (ms.map fun m=>(Sum.inl ((key m : Nat) : Int) : Key)).map un = ms.map fun m=>((key m : Nat) : Int) from by rw [List.map_map]; rfl] at this
  exact this
theorem DRel.len (h : DRel key R kvs ms) (up : Up key ms) : kvs.length = ms.length:=by
 obtain ⟨ks,e,p⟩:=h.ints up
 have h1:=congrArg List.length e
 have h2:=p.length_eq
 simp only [List.length_map] at h1 h2
 omega
theorem mem_putK {k j : Key} {v : V} {kvs : List (Key × V)} : j ∈ ((putK kvs k v).map fun kv=>kv.1) ↔ j = k ∨ j ∈ (kvs.map fun kv=>kv.1):=by
 rw [← valV_mem,← valV_mem,valV_put]
 by_cases e : j = k
 ·rw [if_pos e]; simp [e]
 ·rw [if_neg e]; simp [e]
theorem nd_put {kvs : List (Key × V)} (h : (kvs.map fun kv=>kv.1).Nodup) (k : Key) (v : V) : ((putK kvs k v).map fun kv=>kv.1).Nodup:=by
 unfold putK
 split
 ·rw [List.map_map]
  have : ((fun kv : Key × V=>kv.1) ∘ fun kv : Key × V=>if kv.1 = k then (kv.1,v) else kv) = fun kv=>kv.1:=by
   funext kv
   show (if kv.1 = k then (kv.1,v) else kv).1 = kv.1
   split <;> rfl
  rw [this]; exact h
 ·rename_i hn
  rw [List.map_append]
  refine List.nodup_append.mpr ⟨h,by simp,fun x hx y hy z=>?_⟩
  simp at hy
  subst hy
  subst z
  rw [valV_any] at hn
  exact hn (valV_mem.mpr hx)
theorem DRel.put (h : DRel key R kvs ms) (up : Up key ms) {x : α} {v : V} (r : R x v) : DRel key R (putK kvs (.inl ((key x : Nat) : Int)) v) (putBy key x ms):=by
 refine ⟨nd_put h.nd _ _,fun k=>?_,fun m hm=>?_⟩
 ·rw [mem_putK,h.keys]
  constructor
  ·rintro (rfl | ⟨m,hm,rfl⟩)
   ·exact ⟨x,(mem_putBy key up x).mpr (.inl rfl),rfl⟩
   ·by_cases e : key m = key x
    ·exact ⟨x,(mem_putBy key up x).mpr (.inl rfl),by rw [e]⟩
    ·exact ⟨m,(mem_putBy key up m).mpr (.inr ⟨hm,e⟩),rfl⟩
  ·rintro ⟨m,hm,rfl⟩
   rcases (mem_putBy key up m).mp hm with rfl | ⟨hm,_⟩
   ·exact .inl rfl
   ·exact .inr ⟨m,hm,rfl⟩
 ·rcases (mem_putBy key up m).mp hm with rfl | ⟨hm,hn⟩
  ·exact ⟨v,by rw [valV_put,if_pos rfl],r⟩
  ·obtain ⟨u,e,ru⟩:=h.val m hm
   refine ⟨u,?_,ru⟩
   rw [valV_put,if_neg (fun z=>hn (by have:=Sum.inl.inj z; omega))]
   exact e
theorem DRel.keep (h : DRel key R kvs ms) (up : Up key ms) {x y : α} (hy : y ∈ ms) (e : key y = key x) (r : ∀ v,R y v → R x v) : DRel key R kvs (putBy key x ms):=by
 refine ⟨h.nd,fun k=>?_,fun m hm=>?_⟩
 ·rw [h.keys]
  constructor
  ·rintro ⟨m,hm,rfl⟩
   by_cases z : key m = key x
   ·exact ⟨x,(mem_putBy key up x).mpr (.inl rfl),by rw [z]⟩
   ·exact ⟨m,(mem_putBy key up m).mpr (.inr ⟨hm,z⟩),rfl⟩
  ·rintro ⟨m,hm,rfl⟩
   rcases (mem_putBy key up m).mp hm with rfl | ⟨hm,_⟩
   ·exact ⟨y,hy,by rw [e]⟩
   ·exact ⟨m,hm,rfl⟩
 ·rcases (mem_putBy key up m).mp hm with rfl | ⟨hm,hn⟩
  ·obtain ⟨v,e1,r1⟩:=h.val y hy
   exact ⟨v,by rw [← e]; exact e1,r v r1⟩
  ·exact h.val m hm
theorem valV_drop {k j : Key} : ∀ {kvs : List (Key × V)},j ≠ k → valV (dropK kvs k) j = valV kvs j
 | [],_=>rfl
 | p :: r,hn=>by
  unfold dropK
  rw [List.filter_cons]
  by_cases e : p.1 = k
  ·rw [if_neg (by simp [e]),valV_neg (p:=p) (fun z=>hn (z.symm.trans e))]
   exact valV_drop hn
  ·rw [if_pos (by simp [e])]
   by_cases e2 : p.1 = j
   ·rw [valV_pos e2,valV_pos e2]
   ·rw [valV_neg e2,valV_neg e2]
    exact valV_drop hn
theorem DRel.drop (h : DRel key R kvs ms) (w : Int) : DRel key R (dropK kvs (.inl w)) (ms.filter fun m=>((key m : Nat) : Int) != w):=by
 refine ⟨?_,fun k=>?_,fun m hm=>?_⟩
 ·unfold dropK
  exact h.nd.sublist (List.filter_sublist.map _)
 ·have e : k ∈ ((dropK kvs (.inl w)).map fun kv=>kv.1) ↔ k ∈ (kvs.map fun kv=>kv.1) ∧ k ≠ .inl w:=by
   unfold dropK
   simp only [List.mem_map,List.mem_filter,decide_eq_true_eq]
   constructor
   ·rintro ⟨p,⟨h1,h2⟩,rfl⟩; exact ⟨⟨p,h1,rfl⟩,h2⟩
   ·rintro ⟨⟨p,h1,rfl⟩,h2⟩; exact ⟨p,⟨h1,h2⟩,rfl⟩
  rw [e,h.keys]
  constructor
  ·rintro ⟨⟨m,hm,rfl⟩,hn⟩
   exact ⟨m,List.mem_filter.mpr ⟨hm,by simp; exact fun z=>hn (by rw [z])⟩,rfl⟩
  ·rintro ⟨m,hm,rfl⟩
   obtain ⟨h1,h2⟩:=List.mem_filter.mp hm
   simp at h2
   exact ⟨⟨m,h1,rfl⟩,fun z=>h2 (Sum.inl.inj z)⟩
 ·obtain ⟨h1,h2⟩:=List.mem_filter.mp hm
  simp at h2
  obtain ⟨v,e1,r1⟩:=h.val m h1
  exact ⟨v,by rw [valV_drop (fun z=>h2 (Sum.inl.inj z))]; exact e1,r1⟩
theorem DRel.nil : DRel key R [] []:=⟨by simp,fun k=>by simp,fun m hm=>by cases hm⟩
end
def houF (pn mp bp xp : Addr) : List (Str × V):=[("prices_now",.ref pn),("margins",.ref mp),("books",.ref bp),("boxes",.ref xp)]
theorem houF_p (pn mp bp xp : Addr) : (houF pn mp bp xp).lookup ("prices_now" : Str) = some (.ref pn):=rfl
theorem houF_m (pn mp bp xp : Addr) : (houF pn mp bp xp).lookup ("margins" : Str) = some (.ref mp):=rfl
theorem houF_b (pn mp bp xp : Addr) : (houF pn mp bp xp).lookup ("books" : Str) = some (.ref bp):=rfl
theorem houF_x (pn mp bp xp : Addr) : (houF pn mp bp xp).lookup ("boxes" : Str) = some (.ref xp):=rfl
def boxV (x : Box) : List V:=x.flatMap fun y=>[.int ((y.1 : Nat) : Int),.int ((y.2 : Nat) : Int)]
def marR (m : Member) (v : V) : Prop:=v = .int ((m.margin : Nat) : Int)
def bokR (D : Ads) (H : Hp) (m : Member) (v : V) : Prop:=∃ q : Addr,v = .ref q ∧ BookAt D H q m.book
def boxR (H : Hp) (x : Scene) (v : V) : Prop:=∃ q : Addr,v = .ref q ∧ H q = some (.lst (boxV x.box))
structure HouseAt (D : Ads) (H : Hp) (a dx pn mp bp xp : Addr) (mk bk xk : List (Key × V)) (s : State) : Prop where
 obj : H a = some (.ins D.hou dx (houF pn mp bp xp))
 now : H pn = some (.lst (natsV s.now))
 mar : H mp = some (.dK mk)
 bok : H bp = some (.dK bk)
 box : H xp = some (.dK xk)
 mb : mp ≠ bp
 mx : mp ≠ xp
 bx : bp ≠ xp
 rm : DRel Member.who marR mk s.members
 rb : DRel Member.who (bokR D H) bk s.members
 rx : DRel Scene.key (boxR H) xk s.scenes
theorem bokR.same {D : Ads} {H H' : Hp} {m : Member} {v : V} (h : bokR D H m v) (e : Same H H') : bokR D H' m v:=let ⟨q,h1,h2⟩:=h; ⟨q,h1,h2.same e⟩
theorem boxR.same {H H' : Hp} {m : Scene} {v : V} (h : boxR H m v) (e : Same H H') : boxR H' m v:=let ⟨q,h1,h2⟩:=h; ⟨q,h1,e _ _ h2⟩
theorem HouseAt.same {D : Ads} {H H' : Hp} {a dx pn mp bp xp : Addr} {mk bk xk : List (Key × V)} {s : State} (h : HouseAt D H a dx pn mp bp xp mk bk xk s) (e : Same H H') : HouseAt D H' a dx pn mp bp xp mk bk xk s :=
 ⟨e _ _ h.obj,e _ _ h.now,e _ _ h.mar,e _ _ h.bok,e _ _ h.box,h.mb,h.mx,h.bx,h.rm,h.rb.imp fun _ _ x=>x.same e,h.rx.imp fun _ _ x=>x.same e⟩
def HouAt (D : Ads) (H : Hp) (a : Addr) (s : State) : Prop:=∃ dx pn mp bp xp mk bk xk,HouseAt D H a dx pn mp bp xp mk bk xk s
theorem HouAt.same {D : Ads} {H H' : Hp} {a : Addr} {s : State} (h : HouAt D H a s) (e : Same H H') : HouAt D H' a s:=by
 obtain ⟨dx,pn,mp,bp,xp,mk,bk,xk,h⟩:=h
 exact ⟨dx,pn,mp,bp,xp,mk,bk,xk,h.same e⟩
structure HouseR (D : Ads) (H : Hp) (a dx pn mp bp xp : Addr) (mk bk xk : List (Key × V)) (s : State) : Prop where
 obj : H a = some (.ins D.hou dx (houF pn mp bp xp))
 now : H pn = some (.lst (natsV s.now))
 mar : H mp = some (.dK mk)
 bok : Rd H bp (.dK bk)
 box : H xp = some (.dK xk)
 rm : DRel Member.who marR mk s.members
 rb : DRel Member.who (bokR D H) bk s.members
 rx : DRel Scene.key (boxR H) xk s.scenes
theorem Same.rd {H H' : Hp} {a : Addr} {u : HO} (e : Same H H') (h : Rd H a u) : Rd H' a u:=by
 rcases h with h | ⟨o,h⟩
 ·exact .inl (e _ _ h)
 ·exact .inr ⟨o,e _ _ h⟩
theorem HouseR.same {D : Ads} {H H' : Hp} {a dx pn mp bp xp : Addr} {mk bk xk : List (Key × V)} {s : State} (h : HouseR D H a dx pn mp bp xp mk bk xk s) (e : Same H H') : HouseR D H' a dx pn mp bp xp mk bk xk s :=
 ⟨e _ _ h.obj,e _ _ h.now,e _ _ h.mar,Same.rd e h.bok,e _ _ h.box,h.rm,h.rb.imp fun _ _ x=>x.same e,h.rx.imp fun _ _ x=>x.same e⟩
theorem HouseAt.toR {D : Ads} {H : Hp} {a dx pn mp bp xp : Addr} {mk bk xk : List (Key × V)} {s : State} (h : HouseAt D H a dx pn mp bp xp mk bk xk s) : HouseR D H a dx pn mp bp xp mk bk xk s :=
 ⟨h.obj,h.now,h.mar,.inl h.bok,h.box,h.rm,h.rb,h.rx⟩
def HouR (D : Ads) (H : Hp) (a : Addr) (s : State) : Prop:=∃ dx pn mp bp xp mk bk xk,HouseR D H a dx pn mp bp xp mk bk xk s
theorem HouAt.toR {D : Ads} {H : Hp} {a : Addr} {s : State} (h : HouAt D H a s) : HouR D H a s:=by
 obtain ⟨dx,pn,mp,bp,xp,mk,bk,xk,h⟩:=h
 exact ⟨dx,pn,mp,bp,xp,mk,bk,xk,h.toR⟩
theorem free_upd {H : Hp} {a p : Addr} {o : HO} (h : upd H a o p = none) : H p = none:=by
 by_cases e : p = a
 ·subst e; rw [upd_same] at h; cases h
 ·rw [upd_ne e] at h; exact h
theorem isMem_eq {s : State} (g : Up Member.who s.members) {R : Member → V → Prop} {kvs : List (Key × V)} (h : DRel Member.who R kvs s.members) (w : Int) : (valV kvs (.inl w)).isSome = isMem s w:=by
 unfold isMem
 cases e : Vbchai.memberOf s w with
 | none=>rw [h.none (not_mem e)]; rfl
 | some m =>
  obtain ⟨h1,h2⟩:=mem_of e
  obtain ⟨v,e2,_⟩:=h.val m h1
  rw [h2] at e2
  rw [e2]; rfl
theorem box_at {x : Box} {u : Nat} {y : Nat × Nat} (h : x[u]? = some y) : (boxV x)[2 * u]? = some (.int ((y.1 : Nat) : Int)) ∧ (boxV x)[2 * u + 1]? = some (.int ((y.2 : Nat) : Int)):=by
 induction x generalizing u with
 | nil=>simp at h
 | cons z r ih =>
  cases u with
  | zero=>simp at h; subst h; exact ⟨rfl,rfl⟩
  | succ u =>
   have:=ih (u:=u) (by simpa using h)
   have e : boxV (z :: r) = .int ((z.1 : Nat) : Int) :: .int ((z.2 : Nat) : Int) :: boxV r:=rfl
   rw [e,show 2 * (u + 1) = 2 * u + 1 + 1 by omega,show 2 * u + 1 + 1 + 1 = (2 * u + 1) + 1 + 1 by omega]
   simp only [List.getElem?_cons_succ]
   exact this
end VD
set_option maxRecDepth 100000
set_option maxHeartbeats 2000000
namespace VD
open PySem PySem.Spec PyProof.Rows L2 VM VX XL
open Vbchai (Leg Book Member Scene State Prices Box)
section
variable {P : Program} {w : World} {K : PySem.W.Frag} {mg : Str → Option Value} {base : Heap} {D : Ads}
abbrev s_loss_at : Stmt:=top 56
def whosV (ms : List Member) : List V:=(whos ms).map V.int
theorem whosV_at {ms : List Member} {i : Nat} {x : V} (h : (whosV ms)[i]? = some x) : ∃ m,ms[i]? = some m ∧ x = .int ((m.who : Nat) : Int):=by
 unfold whosV whos at h
 rw [List.map_map,List.getElem?_map] at h
 cases e : ms[i]? with
 | none=>rw [e] at h; cases h
 | some m=>rw [e] at h; exact ⟨m,rfl,(Option.some.inj h).symm⟩
theorem whosV_len (ms : List Member) : (whosV ms).length = ms.length:=by simp [whosV,whos]
def spLoss (K : PySem.W.Frag) (D : Ads) : Sp:=fun vs H Q _=>∃ (a nl pp : Addr) (s : State) (ms : List Member) (p : Prices),vs = [.ref a,.ref nl,.ref pp] ∧ HouR D H a s ∧ Good s ∧ SqL K H nl (whosV ms) ∧ (∀ m ∈ ms,m ∈ s.members) ∧ PricesAt K H pp p ∧ p.length = 4 ∧
 ∀ H',Same H H' → Q (.int (Vbchai.lossAt s.now ms p)) H'
theorem sc_loss : FnScope ["house","numbers","prices","loss","who","book"] ["house","numbers","prices"] (defScope s_loss_at):=scm
theorem dget {H : Hp} {d : Addr} {kvs : List (Key × V)} {w : Int} {v : V} (hd : H d = some (.dK kvs)) (e : valV kvs (.inl w) = some v) : DGet H d (.int w) (some v):=by
 have:=DGet.k (k:=Sum.inl w) hd
 rw [e] at this
 exact this
theorem dgetR {H : Hp} {d : Addr} {kvs : List (Key × V)} {w : Int} {v : V} (hd : Rd H d (.dK kvs)) (e : valV kvs (.inl w) = some v) : DGet H d (.int w) (some v):=.inl ⟨kvs,Sum.inl w,hd,rfl,e.symm⟩
theorem ok_loss (F : FunG K mg "loss_at" s_loss_at) (T : Txt K mg D) (cW : Cal P w K mg base CX0 2 "worth" ["legs","prices"] (spWorth K D)) : Cal P w K mg base CX0 3 "loss_at" ["house","numbers","prices"] (spLoss K D):=by
 obtain ⟨f,fd,F,hm⟩:=F
 refine ⟨f,fd,F.ok sc_loss (fun vs H Q E h=>?_) (fun cdv A outer s H vs Q E hr h=>?_),hm,F.kp,F.binds fun _ _ _ _ _ _ us hl=>match us,hl with | [_,_,_],_=>rfl⟩
 ·obtain ⟨a,nl,pp,s,ms,p,rfl,_⟩:=h
  rfl
 ·obtain ⟨a,nl,pp,st,ms,p,rfl,⟨dx,pn,mp,bp,xp,mk,bk,xk,hH⟩,g,hnl,hms,hpp,h4,k⟩:=h
  have hu:=hu_of hr
  refine ⟨_,pss_cons (ps_set (i:=3) sc_loss.nd rfl (Or.inl rfl) (pe_int)) (pss_cons (ps_for PassesOwn.never rfl (pi_list (pv 1)) (pg_name (i:=4) sc_loss.nd rfl (Or.inl rfl)) (pss_cons (ps_set (i:=5) sc_loss.nd rfl (Or.inl rfl) (pe_dget hu (pe_fld (pv 0) rfl) (pv 4) (fun _ _=>rfl))) (pss_one (ps_aug (i:=3) sc_loss.nd rfl (Or.inl rfl) (pe_op op_sub (pe_op op_sub (pe_cal cW hr rfl pass0 (pa_cons (pv 5) (pa_cons (pe_fld (pv 0) rfl) (pa_nil)))) (pe_cal cW hr rfl pass0 (pa_cons (pv 5) (pa_cons (pv 2) (pa_nil))))) (pe_dget hu (pe_fld (pv 0) rfl) (pv 4) (fun _ _=>rfl))) ip_add)))) (pss_one (ps_ret (pv 3)))),?_⟩
  refine ⟨_,rfl,nl,rfl,⟨_,hnl⟩,for_list (K:=K) (a:=nl) (xs:=whosV ms) (fun i σ H'=>∃ v4 v5 : Option V,σ = [some (.ref a),some (.ref nl),some (.ref pp),some (.int (Vbchai.lossAt st.now (ms.take i) p)),v4,v5] ∧ Same H H')
   ⟨none,none,by rw [List.take_zero,loss_nil]; rfl,Same.refl H⟩ (fun i σ H' _ ⟨_,_,_,s5⟩=>s5.seq hnl) ?_ ?_⟩
  ·rintro i y σ H' hi ⟨v4,v5,rfl,s1⟩
   obtain ⟨m,hm',rfl⟩:=whosV_at hi
   have hmm:=hms m (List.mem_of_getElem? hm')
   have mok:=g.mem m hmm
   have hH1:=hH.same s1
   obtain ⟨v,ev,q,rfl,hq⟩:=hH1.rb.val m hmm
   obtain ⟨v2,ev2,rfl⟩:=hH1.rm.val m hmm
   refine ⟨_,rfl,a,D.hou,dx,_,_,rfl,hH1.obj,T.hou,T.hou_b,houF_b _ _ _ _,_,rfl,bp,_,rfl,dgetR hH1.bok ev,?_⟩
   refine ⟨_,rfl,_,rfl,_,rfl,a,D.hou,dx,_,_,rfl,hH1.obj,T.hou,T.hou_p,houF_p _ _ _ _,q,pn,m.book,st.now,rfl,hq,mok.legs,by have:=mok.len; omega,.inl (sqL_of hH1.now),g.now,fun H2 s2=>?_⟩
   refine ⟨_,rfl,_,rfl,q,pp,m.book,p,rfl,hq.same s2,mok.legs,by have:=mok.len; omega,(hpp.same s1).same s2,h4,fun H3 s3=>?_⟩
   have hH3:=(hH1.same s2).same s3
   refine ⟨_,_,rfl,rfl,_,rfl,a,D.hou,dx,_,_,rfl,hH3.obj,T.hou,T.hou_m,houF_m _ _ _ _,_,rfl,mp,_,rfl,dget hH3.mar ev2,_,_,rfl,rfl,_,_,rfl,rfl,?_⟩
   refine ⟨some (.int ((m.who : Nat) : Int)),some (.ref q),?_,(s1.trans s2).trans s3⟩
   rw [take_snoc hm',loss_app,loss_one]
   rfl
  ·rintro σ H' ⟨v4,v5,rfl,s1⟩
   rw [whosV_len,List.take_length]
   exact ⟨_,rfl,k H' s1⟩
def staF (l0 : Int) (cp : Addr) : List (Str × V):=[("loss_at_zeros",.int l0),("curves",.ref cp)]
theorem staF_l (l0 : Int) (cp : Addr) : (staF l0 cp).lookup ("loss_at_zeros" : Str) = some (.int l0):=rfl
theorem staF_c (l0 : Int) (cp : Addr) : (staF l0 cp).lookup ("curves" : Str) = some (.ref cp):=rfl
def StandAt (D : Ads) (N : Addr → Prop) (H : Hp) (a : Addr) (l0 : Int) (cs : List (Int × List (Int × Int))) : Prop:=∃ dx cp,H a = some (.ins D.sta dx (staF l0 cp)) ∧ CurvesAt D N H cp cs
theorem StandAt.same {D : Ads} {N : Addr → Prop} {H H' : Hp} {a : Addr} {l0 : Int} {cs : List (Int × List (Int × Int))} (h : StandAt D N H a l0 cs) (e : Same H H') : StandAt D N H' a l0 cs:=by
 obtain ⟨dx,cp,h1,h2⟩:=h
 exact ⟨dx,cp,e _ _ h1,h2.same e⟩
theorem StandAt.mono {D : Ads} {N N' : Addr → Prop} {H : Hp} {a : Addr} {l0 : Int} {cs : List (Int × List (Int × Int))} (h : StandAt D N H a l0 cs) (e : ∀ x,N x → N' x) : StandAt D N' H a l0 cs:=by
 obtain ⟨dx,cp,h1,h2⟩:=h
 exact ⟨dx,cp,h1,h2.mono e⟩
theorem StandAt.but {D : Ads} {N : Addr → Prop} {H H' : Hp} {a Dl : Addr} {l0 : Int} {cs : List (Int × List (Int × Int))} {xs : List V} (h : StandAt D N H a l0 cs) (e : SameBut Dl H H') (hD : H Dl = some (.lst xs)) (n : ∀ x,N x → x ≠ Dl) : StandAt D N H' a l0 cs:=by
 obtain ⟨dx,cp,h1,h2⟩:=h
 exact ⟨dx,cp,e _ _ h1 (ne_of h1 hD (by intro z; cases z)),h2.but e hD n⟩
abbrev s_Stand_init : Stmt:=inClass (top 55) 0
def staFs : List V → List (Str × V)
 | [a,b]=>[("loss_at_zeros",a),("curves",b)]
 | _=>[]
theorem sc_sinit : FnScope ["self","loss_at_zeros","curves"] ["self","loss_at_zeros","curves"] (defScope s_Stand_init):=scm
theorem ok_sinit (F : FunI K mg D.sta "Stand" "Stand.__init__" s_Stand_init) (T : Txt K mg D) : CalC P w K mg base 1 D.sta "Stand" ["self","loss_at_zeros","curves"] (spMade D.sta 2 staFs):=by
 obtain ⟨f,fd,F,M,hm⟩:=F
 refine ⟨f,fd,F.ok sc_sinit (fun vs H Q E h=>?_) (fun cdv A outer s H vs Q E hr h=>?_),M,hm,F.binds fun _ _ _ _ _ _ us hl=>match us,hl with | [_,_,_],_=>rfl⟩
 ·obtain ⟨p,dx,us,rfl,hl,_⟩:=h
  simp [hl]
 ·obtain ⟨p,dx,us,rfl,hl,hp,k⟩:=h
  match us,hl with
  | [a,b],_ =>
   refine ⟨_,pss_cons (ps_fld (pv 0) (pv 1) rfl) (pss_one (ps_fld (pv 0) (pv 2) rfl)),?_⟩
   refine ⟨_,rfl,_,rfl,p,D.sta,dx,_,rfl,hp,T.sta,T.sta_l,(by show 0 < 1000; decide),?_⟩
   refine ⟨_,rfl,_,rfl,p,D.sta,dx,_,rfl,upd_same,T.sta,T.sta_c,lp1,?_⟩
   have e : putF "curves" b (putF "loss_at_zeros" a []) = staFs [a,b]:=by
    have e : ¬ ("loss_at_zeros" : Str) = "curves":=by decide +kernel
    simp only [putF,if_neg e]
    rfl
   rw [e]
   refine k _ upd_same fun q o e hq=>?_
   rw [upd_ne hq,upd_ne hq]
   exact e
abbrev s_stand_of : Stmt:=top 57
def spStand (D : Ads) : Sp:=fun vs H Q _=>∃ (a : Addr) (s : State) (m : Member),vs = [.ref a,.int ((m.who : Nat) : Int)] ∧ HouR D H a s ∧ Good s ∧ m ∈ s.members ∧
 ∀ H' p l0 cs,StandAt D (fun x=>H x = none) H' p l0 cs → StandOf s.now [m] l0 cs → Same H H' → Q (.ref p) H'
theorem sc_stand : FnScope ["house","who"] ["house","who"] (defScope s_stand_of):=scm
theorem ok_stand (F : FunG K mg "stand_of" s_stand_of) (T : Txt K mg D) (cL : Cal P w K mg base CX0 3 "loss_at" ["house","numbers","prices"] (spLoss K D)) (cU : Cal P w K mg base CX0 4 "curves_of" ["book"] (spCurves D))
  (cT : CalC P w K mg base 1 D.sta "Stand" ["self","loss_at_zeros","curves"] (spMade D.sta 2 staFs)) : Cal P w K mg base CX0 5 "stand_of" ["house","who"] (spStand D):=by
 obtain ⟨f,fd,F,hm⟩:=F
 obtain ⟨az,hz,hzt⟩:=T.ZERO_PRICES
 refine ⟨f,fd,F.ok sc_stand (fun vs H Q E h=>?_) (fun cdv A outer s H vs Q E hr h=>?_),hm,F.kp,F.binds fun _ _ _ _ _ _ us hl=>match us,hl with | [_,_],_=>rfl⟩
 ·obtain ⟨a,s,m,rfl,_⟩:=h
  rfl
 ·obtain ⟨a,st,m,rfl,⟨dx,pn,mp,bp,xp,mk,bk,xk,hH⟩,g,hmm,k⟩:=h
  have hu:=hu_of hr
  have hr2 : Room 2 _:=hr.mono (by decide)
  have hr3 : Room 3 _:=hr.mono (by decide)
  have mok:=g.mem m hmm
  refine ⟨_,pss_one (ps_ret (pe_calC cT hr2 rfl (pa_cons (pe_cal cL hr3 rfl pass0 (pa_cons (pv 0) (pa_cons (pe_lst (pa_cons (pv 1) (pa_nil))) (pa_cons (pe_gv (v:=.ref az) rfl ⟨_,hz,rfl⟩) (pa_nil))))) (pa_cons (pe_cal cU hr rfl pass0 (pa_cons (pe_dget hu (pe_fld (pv 0) rfl) (pv 1) (fun _ _=>rfl)) (pa_nil))) (pa_nil))))),?_⟩
  refine ⟨_,rfl,_,rfl,(by show 1 ≤ sizeLine; decide),fun nl hnl=>?_⟩
  have s0 : Same H (upd H nl (.lst [.int ((m.who : Nat) : Int)])):=Same.new hnl
  refine ⟨a,nl,az,st,[m],[0,0,0,0],rfl,⟨dx,pn,mp,bp,xp,mk,bk,xk,hH.same s0⟩,g,sqL_of upd_same,fun x hx=>by rw [List.mem_singleton] at hx; subst hx; exact hmm,.inr (hzt _),rfl,fun H1 s1=>?_⟩
  have hH1:=(hH.same s0).same s1
  obtain ⟨v,ev,q,rfl,hq⟩:=hH1.rb.val m hmm
  refine ⟨_,rfl,a,D.hou,dx,_,_,rfl,hH1.obj,T.hou,T.hou_b,houF_b _ _ _ _,_,rfl,bp,_,rfl,dgetR hH1.bok ev,?_⟩
  refine ⟨q,m.book,rfl,hq,mok.legs,by have:=mok.len; omega,fun H2 cp cs hcs hcl hco s2=>?_⟩
  refine fun x d n1 n2 n3=>⟨x,d,_,rfl,rfl,upd_same,fun H4 e1 e2=>⟨rfl,?_⟩⟩
  have s4:=Same.made n1 n2 e2
  have s01:=s0.trans s1
  exact k H4 x _ cs ⟨d,cp,e1,(hcs.mono fun y hy=>s01.free hy).same s4⟩ (one_ok hcl hco) ((s01.trans s2).trans s4)
abbrev s_join_stands : Stmt:=top 58
def spJStands (D : Ads) : Sp:=fun vs H Q _=>∃ (a : Addr) (qs : List Addr) (ss : List (Int × List (Int × List (Int × Int)))),vs = [.ref a] ∧ H a = some (.lst (qs.map V.ref)) ∧ All2 (fun q s=>StandAt D (fun _=>True) H q s.1 s.2) qs ss ∧ ss.length ≤ 16 ∧
 (∀ s ∈ ss,s.2.length = 4 ∧ ∀ u,(cAt s.2 u).2.length ≤ 24) ∧
 ∀ H' p cs,StandAt D (fun x=>H x = none) H' p (ss.map fun s=>s.1).sum cs → cs.length = 4 → (∀ (u : Nat) (c : Int × List (Int × Int)),cs[u]? = some c → c.1 = (ss.map fun s=>(cAt s.2 u).1).sum ∧ c.2.Perm (ss.flatMap fun s=>(cAt s.2 u).2) ∧ Rise c.2) → Same H H' → Q (.ref p) H'
theorem sc_jstands : FnScope ["stands","curves","at","stand"] ["stands"] (defScope s_join_stands):=scm
theorem cAt_some {cs : List (Int × List (Int × Int))} {u : Nat} (h : u < cs.length) : cs[u]? = some (cAt cs u):=by
 unfold cAt
 rw [List.getD_eq_getElem?_getD,List.getElem?_eq_getElem h]; rfl
theorem flat_len {α β : Type} {f : α → List β} {n : Nat} : ∀ {l : List α},(∀ x ∈ l,(f x).length ≤ n) → (l.flatMap f).length ≤ n * l.length
 | [],_=>Nat.le_refl _
 | x :: r,h=>by
  have h1:=h x List.mem_cons_self
  have h2:=flat_len (l:=r) fun y hy=>h y (List.mem_cons_of_mem _ hy)
  rw [List.flatMap_cons,List.length_append,List.length_cons,Nat.mul_add]
  omega
theorem snoc_all {α : Type} {l : List α} {x : α} {p : Nat → α → Prop} (h : ∀ (u : Nat) (c : α),l[u]? = some c → p u c) (hx : p l.length x) : ∀ (u : Nat) (c : α),(l ++ [x])[u]? = some c → p u c:=fun u c e=>by
 rcases Nat.lt_or_ge u l.length with hu | hu
 ·rw [List.getElem?_append_left hu] at e
  exact h u c e
 ·rw [List.getElem?_append_right hu] at e
  have : u = l.length:=by
   have:=(List.getElem?_eq_some_iff.mp e).1
   simp at this
   omega
  subst this
  simp at e
  subst e
  exact hx
theorem ok_jstands (F : FunG K mg "join_stands" s_join_stands) (T : Txt K mg D) (cJ : Cal P w K mg base CX0 3 "join_curves" ["curves"] (spJoin D)) (cT : CalC P w K mg base 1 D.sta "Stand" ["self","loss_at_zeros","curves"] (spMade D.sta 2 staFs)) :
  Cal P w K mg base CX0 4 "join_stands" ["stands"] (spJStands D):=by
 obtain ⟨f,fd,F,hm⟩:=F
 refine ⟨f,fd,F.ok sc_jstands (fun vs H Q E h=>?_) (fun cdv A outer s H vs Q E hr h=>?_),hm,F.kp,F.binds fun _ _ _ _ _ _ us hl=>match us,hl with | [_],_=>rfl⟩
 ·obtain ⟨a,qs,ss,rfl,_⟩:=h
  rfl
 ·obtain ⟨a,qs,ss,rfl,ha,hqs,hsl,hss,k⟩:=h
  have hr2 : Room 2 _:=hr.mono (by decide)
  refine ⟨_,pss_cons (ps_set (i:=1) sc_jstands.nd rfl (Or.inl rfl) (pe_lst (pa_nil))) (pss_cons (ps_for PassesOwn.never rfl (pi_range1 rfl T.bRange (pa_cons pe_int pa_nil)) (pg_name (i:=2) sc_jstands.nd rfl (Or.inr rfl)) (pss_one (ps_expr (pe_bm PySem.F.plainAttrs_list PySem.F.slot_list_append PySem.F.type_list_append mt_append (pv 1) (pa_cons (pe_cal cJ hr rfl pass0 (pa_cons (pe_lc rfl sc_jstands.nd (pi_list (pv 0)) (blkOk_by (own:=[("stand",3)]) (by rfl)) (fun _ _ _ _ _=>pg_name (i:=3) sc_jstands.nd rfl (Or.inl rfl)) (fun _ _ _ _ _=>pts_nil) (fun _ _ _ _ _=>pe_ix (ix_listK (K:=K) rfl) (pe_fldK (K:=K) rfl (pv 3) rfl) (pv 2) (fun _ _=>rfl))) (pa_nil))) (pa_nil)))))) (pss_one (ps_ret (pe_calC cT hr2 rfl (pa_cons (pe_callB (cr_sum rfl) (by rfl) T.bSum boot_sum (pa_cons (pe_lc rfl sc_jstands.nd (pi_list (pv 0)) (blkOk_by (own:=[("stand",3)]) (by rfl)) (fun _ _ _ _ _=>pg_name (i:=3) sc_jstands.nd rfl (Or.inl rfl)) (fun _ _ _ _ _=>pts_nil) (fun _ _ _ _ _=>pe_fldK (K:=K) rfl (pv 3) rfl)) (pa_nil))) (pa_cons (pv 1) (pa_nil))))))),?_⟩
  refine ⟨Nat.zero_le _,fun tp htp=>?_⟩
  have s0 : Same H (upd H tp (.lst [])):=Same.new htp
  refine ⟨4,rfl,by decide,by decide,for_range (n:=4) (fun i σ H'=>∃ v2 : Option V,σ = [some (.ref a),some (.ref tp),v2,none] ∧ Same H H' ∧ ∃ (rs : List Addr) (cs : List (Int × List (Int × Int))),H' tp = some (.lst (rs.map V.ref)) ∧ All2 (fun q c=>CurveAt D (fun x=>H x = none ∧ x ≠ tp) H' q c.1 c.2) rs cs ∧ cs.length = i ∧
    ∀ (u : Nat) (c : Int × List (Int × Int)),cs[u]? = some c → c.1 = (ss.map fun s=>(cAt s.2 u).1).sum ∧ c.2.Perm (ss.flatMap fun s=>(cAt s.2 u).2) ∧ Rise c.2) ⟨none,rfl,s0,[],[],upd_same,.nil,rfl,fun u c e=>by simp at e⟩ ?_ ?_⟩
  ·rintro i σ H' hi ⟨v2,rfl,s1,rs,cs,ht,hrs,hcl,hcs⟩
   refine ⟨_,rfl,.inl ⟨rfl,_,sqL_of ht⟩,_,rfl,a,rfl,⟨_,sqL_of (s1 _ _ ha)⟩,fun Dl hD=>lc_one (K:=K) (a:=a) (xs:=qs.map V.ref)
    (fun j H2=>Same H' H2 ∧ ∃ ts : List Addr,H2 Dl = some (.lst (ts.map V.ref)) ∧ All2 (fun q c=>CurveAt D (fun x=>x ≠ Dl) H2 q c.1 c.2) ts ((ss.take j).map fun s=>cAt s.2 i)) ⟨Same.new hD,[],upd_same,.nil⟩ (fun j H2 _ ⟨s2,_⟩=>s2.seq (sqL_of (s1 _ _ ha))) (fun _=>rfl) ?_ ?_⟩
   ·rintro j x H2 hj ⟨s2,ts,hDl,hts⟩
    obtain ⟨q,hq,rfl⟩:=refs_at hj
    obtain ⟨sd,hsd,dx,cp,h1,_,us,h2,h3⟩:=hqs.get hq
    have hs4:=hss sd (List.mem_of_getElem? hsd)
    have hci:=cAt_some (cs:=sd.2) (u:=i) (by rw [hs4.1]; exact hi)
    obtain ⟨u,hu,hcv⟩:=h3.getR hci
    have s02:=s1.trans s2
    have hat : atI (us.map V.ref) (0 + (i : Int)) = some (V.ref u):=at_of (j:=i) (by omega) (by rw [List.getElem?_map,hu]; rfl)
    refine ⟨_,rfl,q,D.sta,dx,_,_,rfl,s02 _ _ h1,T.sta,T.sta_c,staF_c _ _,_,rfl,cp,_,_,_,rfl,rfl,sqL_of (s02 _ _ h2),hat,_,hDl,?_,?_,ts ++ [u],by rw [upd_same,List.map_append]; rfl,?_⟩
    ·rw [List.length_map,hts.length,List.length_map,List.length_take]
     exact lt_line (by omega)
    ·exact fun c o e=>by rw [upd_ne (ne_of_none e hD)]; exact s2 c o e
    ·have bu : SameBut Dl H2 (upd H2 Dl (.lst (ts.map V.ref ++ [V.ref u]))):=(SameBut.refl Dl H2).upd
     rw [take_snoc hsd,List.map_append]
     refine (hts.imp fun _ _ e=>e.but bu hDl fun x hx=>hx).append (.cons ?_ .nil)
     obtain ⟨d3,bp3,ps3,_,k1,k2,k3⟩:=hcv
     have nb : bp3 ≠ Dl:=ne_of_none (s1 _ _ k2) hD
     exact CurveAt.but (N:=fun x=>x ≠ Dl) ⟨d3,bp3,ps3,nb,s02 _ _ k1,s02 _ _ k2,k3.imp fun _ _ e=>s02 _ _ e⟩ bu hDl fun x hx=>hx
   ·rintro H2 ⟨s2,ts,hDl,hts⟩
    rw [List.length_map,hqs.length,List.take_length] at hts
    have ht2:=s2 _ _ ht
    have hfl : ((ss.map fun s=>cAt s.2 i).flatMap fun c=>c.2).length ≤ 1000:=by
     rw [List.flatMap_map]
     have:=flat_len (f:=fun s : Int × List (Int × List (Int × Int))=>(cAt s.2 i).2) (n:=24) (l:=ss) fun s hs=>(hss s hs).2 i
     exact Nat.le_trans this (by omega)
    refine ⟨Dl,ts,_,rfl,hDl,hts.imp (fun _ _ e=>e.mono fun _ _=>trivial),by rw [List.length_map]; omega,hfl,fun H3 p s3' bs3 hcv e1 e2 e3 s3=>?_⟩
    have ht3:=s3 _ _ ht2
    have bu : SameBut tp H3 (upd H3 tp (.lst (rs.map V.ref ++ [V.ref p]))):=(SameBut.refl tp H3).upd
    have hcv' : CurveAt D (fun x=>H x = none ∧ x ≠ tp) H3 p s3' bs3:=hcv.mono fun x hx=>⟨(s1.trans s2).free hx,fun z=>by rw [z,ht2] at hx; cases hx⟩
    refine ⟨tp,_,_,rfl,rfl,ht3,(by rw [List.length_map,hrs.length,hcl]; exact lt_line (by omega)),?_⟩
    refine ⟨_,rfl,fun x o e=>by rw [upd_ne (ne_of_none e htp)]; exact s3 x o (s2 x o (s1 x o e)),rs ++ [p],cs ++ [(s3',bs3)],by rw [upd_same,List.map_append]; rfl,?_,by rw [List.length_append,hcl]; rfl,?_⟩
    ·exact (hrs.imp fun _ _ e=>((e.same s2).same s3).but bu ht3 fun x hx=>hx.2).append (.cons (hcv'.but bu ht3 fun x hx=>hx.2) .nil)
    ·refine snoc_all (p:=fun u (c : Int × List (Int × Int))=>c.1 = (ss.map fun s=>(cAt s.2 u).1).sum ∧ c.2.Perm (ss.flatMap fun s=>(cAt s.2 u).2) ∧ Rise c.2) hcs ?_
     rw [hcl]
     refine ⟨?_,?_,e3⟩
     ·rw [e1,List.map_map]; rfl
     ·rw [List.flatMap_map] at e2; exact e2
  ·rintro σ H1 ⟨v2,rfl,s1,rs,cs,ht,hrs,hcl,hcs⟩
   refine ⟨_,rfl,a,rfl,⟨_,sqL_of (s1 _ _ ha)⟩,fun Dl hD=>lc_one (K:=K) (a:=a) (xs:=qs.map V.ref) (fun i H'=>Same H1 H' ∧ H' Dl = some (.lst (((ss.take i).map fun s=>s.1).map V.int))) ⟨Same.new hD,upd_same⟩ (fun i H' _ ⟨s2,_⟩=>s2.seq (sqL_of (s1 _ _ ha))) (fun _=>rfl) ?_ ?_⟩
   ·rintro i x H' hi ⟨s2,hDl⟩
    obtain ⟨q,hq,rfl⟩:=refs_at hi
    obtain ⟨sd,hsd,dx,cp,h1,_⟩:=hqs.get hq
    refine ⟨_,rfl,q,D.sta,dx,_,_,rfl,s2 _ _ (s1 _ _ h1),T.sta,T.sta_l,staF_l _ _,_,hDl,?_,?_,?_⟩
    ·rw [List.length_map,List.length_map,List.length_take]
     exact lt_line (by omega)
    ·exact fun c o e=>by rw [upd_ne (ne_of_none e hD)]; exact s2 c o e
    ·rw [upd_same,take_snoc hsd,List.map_append,List.map_append]
     rfl
   ·rintro H2 ⟨s2,hDl⟩
    rw [List.length_map,hqs.length,List.take_length] at hDl
    refine ⟨Dl,_,rfl,sqL_of hDl,?_⟩
    refine ⟨_,rfl,fun x d n1 n2 n3=>⟨x,d,_,rfl,rfl,upd_same,fun H4 e1 e2=>⟨rfl,?_⟩⟩⟩
    have s4:=Same.made n1 n2 e2
    refine k H4 x cs ⟨d,tp,e1,htp,rs,s4 _ _ (s2 _ _ ht),hrs.imp fun _ _ e=>((e.mono fun x hx=>hx.1).same s2).same s4⟩ hcl hcs ((s1.trans s2).trans s4)
end
end VD
set_option maxRecDepth 100000
set_option maxHeartbeats 2000000
namespace VD
open PySem PySem.Spec PyProof.Rows L2 VM VX XL
open Vbchai (Leg Book Member Scene State Prices Box)
theorem for_enum {K : PySem.W.Frag} {a : Addr} {xs : List V} {g : TG} {tb : TS} {D : Ends} {σ : L2.St} {H : Hp} (Pv : Nat → L2.St → Hp → Prop) (h0 : Pv 0 σ H) (hl : ∀ i σ H,i ≤ xs.length → Pv i σ H → SqL K H a xs)
  (hs : ∀ i x T σ H,xs[i]? = some x → Pv i σ H → H T = none → g (.ref T) σ (upd H T (.tup [.int (i : Nat),x])) fun σ2 H2=>tb { D with nx:=Pv (i + 1),ct:=Pv (i + 1),bk:=D.nx } σ2 H2) (hd : ∀ σ H,Pv xs.length σ H → D.nx σ H) :
  ∃ W : Nat → Nat → L2.St → Hp → Prop,(∃ m,W 0 m σ H) ∧ ∀ i m σ H,W i m σ H →
   ((Ite K a).stop i H ∧ D.nx σ H) ∨ ((Ite K a).go i H ∧ ∃ N : L2.St → Hp → Prop,(∀ σ' H',N σ' H' → ∃ m',m' < m ∧ W (i + 1) m' σ' H') ∧ ∀ x H',(Ite K a).yld i H x H' → g x σ H' fun σ2 H2=>tb { D with nx:=N,ct:=N,bk:=D.nx } σ2 H2):=by
 refine ⟨fun i m σ H=>m = xs.length - i ∧ i ≤ xs.length ∧ Pv i σ H,⟨xs.length,by simp,Nat.zero_le _,h0⟩,?_⟩
 rintro i m σ H ⟨rfl,hi,p⟩
 have q:=hl i σ H hi p
 by_cases hlt : i < xs.length
 ·refine .inr ⟨⟨xs,xs[i],q,by simp [hlt]⟩,Pv (i + 1),fun σ' H' p'=>⟨xs.length - (i + 1),by omega,rfl,hlt,p'⟩,fun x H' y=>?_⟩
  obtain ⟨T,z,rfl,hT,rfl,hz⟩:=y
  exact hs i z T σ _ (hz xs q) p hT
 ·have e : i = xs.length:=by omega
  subst e
  exact .inl ⟨⟨xs,q,Nat.le_refl _⟩,hd σ H p⟩
section
variable {P : Program} {w : World} {K : PySem.W.Frag} {mg : Str → Option Value} {base : Heap} {D : Ads}
def intsV (l : List Int) : List V:=l.map V.int
abbrev s_need_in_box : Stmt:=top 59
def boxNeed (l0 : Int) (cs : List (Int × List (Int × Int))) (x : Box) : List Int:=(l0 - ((List.range 4).map fun u=>(wbox cs x u).1).sum) :: (List.range 4).map fun u=>(wbox cs x u).2
def spNeedBox (D : Ads) : Sp:=fun vs H Q _=>∃ (a xb : Addr) (l0 : Int) (cs : List (Int × List (Int × Int))) (x : Box),vs = [.ref a,.ref xb] ∧ StandAt D (fun _=>True) H a l0 cs ∧ cs.length = 4 ∧ (∀ c ∈ cs,c.2.length ≤ 1000 ∧ ∀ y ∈ c.2,0 ≤ y.1 ∧ y.1 ≤ 1000000) ∧ H xb = some (.lst (boxV x)) ∧ BoxOk x ∧
 ∀ H' p,H' p = some (.lst (intsV (boxNeed l0 cs x))) → Same H H' → Q (.ref p) H'
theorem sc_nbox : FnScope ["stand","box","need","prices","at","curve","worst"] ["stand","box"] (defScope s_need_in_box):=scm
theorem range_map {α : Type} (f : Nat → α) (i : Nat) : (List.range (i + 1)).map f = (List.range i).map f ++ [f i]:=by rw [List.range_succ,List.map_append]; rfl
theorem ok_nbox (F : FunG K mg "need_in_box" s_need_in_box) (T : Txt K mg D) (cW : Cal P w K mg base CX0 1 "worst_price" ["curve","least","greatest"] (spWorst D)) : Cal P w K mg base CX0 2 "need_in_box" ["stand","box"] (spNeedBox D):=by
 obtain ⟨f,fd,F,hm⟩:=F
 refine ⟨f,fd,F.ok sc_nbox (fun vs H Q E h=>?_) (fun cdv A outer s H vs Q E hr h=>?_),hm,F.kp,F.binds fun _ _ _ _ _ _ us hl=>match us,hl with | [_,_],_=>rfl⟩
 ·obtain ⟨a,xb,l0,cs,x,rfl,_⟩:=h
  rfl
 ·obtain ⟨a,xb,l0,cs,x,rfl,⟨dx,cp,ha,_,us,hcp,hus⟩,hcl,hcs,hxb,hx,k⟩:=h
  refine ⟨_,pss_cons (ps_set (i:=2) sc_nbox.nd rfl (Or.inl rfl) (pe_fld (pv 0) rfl)) (pss_cons (ps_set (i:=3) sc_nbox.nd rfl (Or.inl rfl) (pe_lst (pa_nil))) (pss_cons (ps_for PassesOwn.never rfl (pi_enum rfl T.bEnum (pa_cons (pe_fld (pv 0) rfl) (pa_nil))) (pg_tup rfl (pgs_cons (pg_name (i:=4) sc_nbox.nd rfl (Or.inl rfl)) (pgs_cons (pg_name (i:=5) sc_nbox.nd rfl (Or.inl rfl)) pgs_nil))) (pss_cons (ps_set (i:=6) sc_nbox.nd rfl (Or.inl rfl) (pe_cal cW hr rfl pass0 (pa_cons (pv 5) (pa_cons (pe_ix ix_list (pv 1) (pe_op op_mul (pe_int) (pv 4)) (fun _ _=>rfl)) (pa_cons (pe_ix ix_list (pv 1) (pe_op op_add (pe_op op_mul (pe_int) (pv 4)) (pe_int)) (fun _ _=>rfl)) (pa_nil)))))) (pss_cons (ps_aug (i:=2) sc_nbox.nd rfl (Or.inl rfl) (pe_ix ix_tup (pv 6) (pe_int) (fun _ _=>rfl)) ip_sub) (pss_one (ps_expr (pe_bm PySem.F.plainAttrs_list PySem.F.slot_list_append PySem.F.type_list_append mt_append (pv 3) (pa_cons (pe_ix ix_tup (pv 6) (pe_int) (fun _ _=>rfl)) (pa_nil)))))))) (pss_one (ps_ret (pe_op op_cat (pe_lst (pa_cons (pv 2) (pa_nil))) (pv 3)))))),?_⟩
  refine ⟨_,rfl,a,D.sta,dx,_,_,rfl,ha,T.sta,T.sta_l,staF_l _ _,?_⟩
  refine ⟨Nat.zero_le _,fun pp hpp=>?_⟩
  have s0 : Same H (upd H pp (.lst [])):=Same.new hpp
  refine ⟨_,rfl,a,D.sta,dx,_,_,rfl,s0 _ _ ha,T.sta,T.sta_c,staF_c _ _,cp,_,rfl,sqL_of (s0 _ _ hcp),for_enum (K:=K) (a:=cp) (xs:=us.map V.ref) (fun i σ H'=>∃ v4 v5 v6 : Option V,σ = [some (.ref a),some (.ref xb),some (.int (l0 - ((List.range i).map fun u=>(wbox cs x u).1).sum)),some (.ref pp),v4,v5,v6] ∧ Same H H' ∧
    H' pp = some (.lst (intsV ((List.range i).map fun u=>(wbox cs x u).2)))) ⟨none,none,none,by simp; rfl,s0,upd_same⟩ (fun i σ H' _ ⟨_,_,_,_,s5,_⟩=>s5.seq (sqL_of hcp)) ?_ ?_⟩
  ·rintro i y Tp σ H' hi ⟨v4,v5,v6,rfl,s1,hp1⟩ hTp
   obtain ⟨u,hu,rfl⟩:=refs_at hi
   obtain ⟨c,hc,hcv⟩:=hus.get hu
   have hi4 : i < 4:=by rw [← hcl]; exact (List.getElem?_eq_some_iff.mp hc).1
   have ec : cAt cs i = c:=Option.some.inj ((cAt_some (by omega)).symm.trans hc)
   obtain ⟨bl,bb⟩:=hcs c (List.mem_of_getElem? hc)
   have hxi : x[i]? = some (Vbchai.rangeOf x (i + 1)):=by
    unfold Vbchai.rangeOf
    rw [Nat.add_sub_cancel,List.getD_eq_getElem?_getD,List.getElem?_eq_getElem (by rw [hx.len]; exact hi4)]; rfl
   obtain ⟨b1,b2⟩:=box_at hxi
   obtain ⟨r1,r2⟩:=hx.range hi4
   have r2' : (Vbchai.rangeOf x (i + 1)).2 ≤ 1000000:=r2
   have sT : Same H' (upd H' Tp (.tup [.int (i : Nat),.ref u])):=Same.new hTp
   have s2 : Same H (upd H' Tp (.tup [.int (i : Nat),.ref u])):=s1.trans sT
   have hx2:=s2 _ _ hxb
   refine ⟨Tp,_,rfl,.inl (.inl upd_same),rfl,_,_,rfl,_,_,rfl,rfl,?_⟩
   refine ⟨_,rfl,_,rfl,_,rfl,_,_,rfl,rfl,.inl ⟨by decide,by decide⟩,xb,_,_,_,rfl,rfl,sqL_of hx2,at_of (j:=2 * i) (by show 2 * ((i : Nat) : Int) = _; omega) b1,
    _,rfl,_,rfl,_,_,rfl,rfl,.inl ⟨by decide,by decide⟩,_,_,rfl,rfl,xb,_,_,_,rfl,rfl,sqL_of hx2,at_of (j:=2 * i + 1) (by show 2 * ((i : Nat) : Int) + 1 = _; omega) b2,
    u,c.1,c.2,_,_,rfl,(hcv.mono fun _ _=>trivial).same s2,bb,bl,by omega,by omega,by omega,by omega,fun H3 wp hwp s3=>?_⟩
   have hw : worstP c.1 c.2 ((Vbchai.rangeOf x (i + 1)).1 : Nat) ((Vbchai.rangeOf x (i + 1)).2 : Nat) = wbox cs x i:=by unfold wbox; rw [ec]
   rw [hw] at hwp
   refine ⟨_,rfl,_,rfl,wp,_,_,_,rfl,rfl,.inl (.inl hwp),rfl,_,_,rfl,rfl,?_⟩
   have hp3:=s3 _ _ (sT _ _ hp1)
   refine ⟨_,rfl,.inl ⟨rfl,_,sqL_of hp3⟩,_,rfl,wp,_,_,_,rfl,rfl,.inl (.inl hwp),rfl,pp,_,_,rfl,rfl,hp3,(by unfold intsV; rw [List.length_map,List.length_map,List.length_range]; exact lt_line (by omega)),?_⟩
   refine ⟨some (.int ((i : Nat) : Int)),some (.ref u),some (.ref wp),?_,fun b o e=>by rw [upd_ne (ne_of_none e hpp)]; exact s3 b o (s2 b o e),?_⟩
   ·rw [range_map,sum_app]
    show [some (V.ref a),some (V.ref xb),some (V.int (l0 - ((List.range i).map fun u=>(wbox cs x u).1).sum - (wbox cs x i).1)),_,_,_,_] = _
    have : l0 - ((List.range i).map fun u=>(wbox cs x u).1).sum - (wbox cs x i).1 = l0 - (((List.range i).map fun u=>(wbox cs x u).1).sum + [(wbox cs x i).1].sum):=by simp; omega
    rw [this]
   ·rw [upd_same,range_map]
    unfold intsV
    rw [List.map_append]
    rfl
  ·rintro σ H' ⟨v4,v5,v6,rfl,s1,hp1⟩
   rw [List.length_map,hus.length,hcl] at hp1 ⊢
   refine ⟨_,rfl,(by show 1 ≤ sizeLine; decide),fun lp hlp=>?_⟩
   have s2:=Same.new (o:=.lst [V.int (l0 - ((List.range 4).map fun u=>(wbox cs x u).1).sum)]) hlp
   refine ⟨_,rfl,lp,pp,_,_,rfl,rfl,upd_same,s2 _ _ hp1,(by unfold intsV; rw [List.length_map,List.length_map,List.length_range]; show 1 + 4 ≤ sizeLine; decide),fun rp hrp=>?_⟩
   exact k _ rp upd_same ((s1.trans s2).trans (Same.new hrp))
abbrev s_need_in_all : Stmt:=top 60
def needsV (s : State) (ms : List Member) : List V:=intsV (toldMost ms (Vbchai.uncovered s ms))
def StandsAt (D : Ads) (H : Hp) (a : Addr) (s : State) (ms : List Member) : Prop:=∃ (qs : List Addr) (ss : List (Int × List (Int × List (Int × Int)))),H a = some (.lst (qs.map V.ref)) ∧ All2 (fun q s=>StandAt D (fun _=>True) H q s.1 s.2) qs ss ∧ All2 (fun m sd=>StandOf s.now [m] sd.1 sd.2) ms ss
def spNeedAll (D : Ads) : Sp:=fun vs H Q _=>∃ (a xp : Addr) (s : State) (ms : List Member) (xk : List (Key × V)),vs = [.ref a,.ref xp] ∧ StandsAt D H a s ms ∧ ms.length ≤ 16 ∧ (∀ m ∈ ms,m ∈ s.members) ∧ Good s ∧ H xp = some (.dK xk) ∧ DRel Scene.key (boxR H) xk s.scenes ∧
 ∀ H' p,H p = none → H' p = some (.lst (needsV s ms)) → Same H H' → Q (.ref p) H'
theorem sc_nall : FnScope ["stands","boxes","together","most","key","need"] ["stands","boxes"] (defScope s_need_in_all):=scm
theorem curve_bounds {b : Book} {u : Nat} {s : Int} {bs : List (Int × Int)} (h : CurveOf (on b u) s bs) (hb : ∀ l ∈ b,LegOk l) : bs.length ≤ b.length ∧ ∀ y ∈ bs,0 ≤ y.1 ∧ y.1 ≤ 1000000:=by
 constructor
 ·rw [h.bends.length_eq]
  unfold bendsOf on
  rw [List.length_map]
  exact Nat.le_trans (List.length_filter_le _ _) (List.length_filter_le _ _)
 ·intro y hy
  obtain ⟨l,hl,rfl⟩:=List.mem_map.mp (h.bends.mem_iff.mp hy)
  have:=(hb l (List.mem_filter.mp (List.mem_filter.mp hl).1).1).strike
  have : l.strike ≤ 1000000:=this
  exact ⟨by show (0 : Int) ≤ ((l.strike : Nat) : Int); omega,by show ((l.strike : Nat) : Int) ≤ _; omega⟩
theorem together_ok {s : State} (g : Good s) {ms : List Member} (h : ∀ m ∈ ms,m ∈ s.members) : (∀ l ∈ Vbchai.together ms,LegOk l) ∧ (Vbchai.together ms).length ≤ 24 * ms.length:=by
 constructor
 ·intro l hl
  obtain ⟨m,hm,hl⟩:=List.mem_flatMap.mp hl
  exact (g.mem m (h m hm)).legs l hl
 ·exact flat_len fun m hm=>(g.mem m (h m hm)).len
theorem cut_1 (x : V) (r : List V) : cutV (x :: r) (some 1) none = r:=by
 unfold cutV HT.sIx
 simp
theorem keys_sorted {s : State} (g : Good s) {R : Scene → V → Prop} {xk : List (Key × V)} (h : DRel Scene.key R xk s.scenes) : ∃ ks : List Int,(xk.map fun kv=>kv.1) = ks.map Sum.inl ∧ ks.length < 64 ∧ ∀ ns : List Int,ns.Perm ks → ns.Pairwise (· ≤ ·) → ns = s.scenes.map fun x=>((x.key : Nat) : Int):=by
 obtain ⟨ks,e,p⟩:=h.ints g.sasc
 refine ⟨ks,e,?_,fun ns hp hs=>sorted_same (hp.trans p) hs ?_⟩
 ·have:=p.length_eq
  have:=g.slen
  simp only [List.length_map] at *
  omega
 ·rw [List.pairwise_map]
  exact g.sasc.imp fun hh=>by omega
theorem ok_nall (F : FunG K mg "need_in_all" s_need_in_all) (T : Txt K mg D) (cJ : Cal P w K mg base CX0 4 "join_stands" ["stands"] (spJStands D)) (cB : Cal P w K mg base CX0 2 "need_in_box" ["stand","box"] (spNeedBox D)) :
  Cal P w K mg base CX0 5 "need_in_all" ["stands","boxes"] (spNeedAll D):=by
 obtain ⟨f,fd,F,hm⟩:=F
 refine ⟨f,fd,F.ok sc_nall (fun vs H Q E h=>?_) (fun cdv A outer s H vs Q E hr h=>?_),hm,F.kp,F.binds fun _ _ _ _ _ _ us hl=>match us,hl with | [_,_],_=>rfl⟩
 ·obtain ⟨a,xp,s,ms,xk,rfl,_⟩:=h
  rfl
 ·obtain ⟨a,xp,st,ms,xk,rfl,⟨qs,ss,ha,hqs,hss⟩,hml,hms,g,hxp,hxk,k⟩:=h
  have hu:=hu_of hr
  have hr2 : Room 2 _:=hr.mono (by decide)
  obtain ⟨tok,tlen⟩:=together_ok g hms
  have hsl : ss.length ≤ 16:=by rw [← hss.length]; exact hml
  refine ⟨_,pss_cons (ps_set (i:=2) sc_nall.nd rfl (Or.inl rfl) (pe_cal cJ hr rfl pass0 (pa_cons (pv 0) (pa_nil)))) (pss_cons (ps_set (i:=3) sc_nall.nd rfl (Or.inl rfl) (pe_lst (pa_cons (pe_int) (pa_cons (pe_int) (pa_cons (pe_int) (pa_cons (pe_int) (pa_cons (pe_int) (pa_cons (pe_int) (pa_nil))))))))) (pss_cons (ps_for PassesOwn.never rfl (pi_list (pe_callB (cr_sortedD rfl) (by rfl) T.bSorted PyProof.Rows.boot_sorted (pa_cons (pv 1) (pa_nil)))) (pg_name (i:=4) sc_nall.nd rfl (Or.inl rfl)) (pss_cons (ps_set (i:=5) sc_nall.nd rfl (Or.inl rfl) (pe_cal cB hr2 rfl pass0 (pa_cons (pv 2) (pa_cons (pe_dget hu (pv 1) (pv 4) (fun _ _=>rfl)) (pa_nil))))) (pss_one (ps_if (pt_cmpR op_gt (pe_ix ix_list (pv 5) (pe_int) (fun _ _=>rfl)) (pe_ix ix_list (pv 3) (pe_int) (fun _ _=>rfl)) (nomark _)) (pss_one (ps_set (i:=3) sc_nall.nd rfl (Or.inl rfl) (pe_op op_cat (pe_lst (pa_cons (pe_ix ix_list (pv 5) (pe_int) (fun _ _=>rfl)) (pa_cons (pv 4) (pa_nil)))) (pe_slice sl_list (pv 5) (po_some pe_int) po_none)))) (pss_nil))))) (pss_one (ps_ret (pv 3))))),?_⟩
  refine ⟨_,rfl,a,qs,ss,rfl,ha,hqs,hsl,fun sd hsd=>?_,fun H1 tg cs htg hcl hcs s1=>?_⟩
  ·obtain ⟨i,hi⟩:=List.getElem?_of_mem hsd
   obtain ⟨m,hmi,hst⟩:=hss.getR hi
   refine ⟨hst.len,fun u=>?_⟩
   rcases Nat.lt_or_ge u 4 with hu4 | hu4
   ·have hmm:=g.mem m (hms m (List.mem_of_getElem? hmi))
    have hc:=hst.at_ hu4
    rw [show Vbchai.together [m] = m.book by simp [Vbchai.together]] at hc
    exact Nat.le_trans (curve_bounds hc hmm.legs).1 hmm.len
   ·unfold cAt
    rw [List.getD_eq_getElem?_getD,List.getElem?_eq_none_iff.mpr (by rw [hst.len]; exact hu4)]
    exact Nat.zero_le _
  ·have hS : StandOf st.now ms (ss.map fun s=>s.1).sum cs:=join_ok hss hcl hcs
   refine ⟨(by show 6 ≤ sizeLine; decide),fun mo0 hmo0=>?_⟩
   have s2 : Same H1 (upd H1 mo0 (.lst [.int 0,.int 0,.int 0,.int 0,.int 0,.int 0])):=Same.new hmo0
   have s02:=s1.trans s2
   obtain ⟨ks,ek,kl,hks⟩:=keys_sorted g hxk
   refine ⟨_,rfl,xp,xk,ks,rfl,.inl (s02 _ _ hxp),ek,kl,fun ns sp hp1 hp2 hsp=>?_⟩
   have hns:=hks ns hp1 hp2
   subst hns
   have s3:=Same.new (o:=.lst ((st.scenes.map fun x=>((x.key : Nat) : Int)).map V.int)) hsp
   refine ⟨sp,rfl,⟨_,sqL_of upd_same⟩,for_list (K:=K) (a:=sp) (xs:=(st.scenes.map fun x=>((x.key : Nat) : Int)).map V.int) (fun i σ H'=>∃ (mo : Addr) (v4 v5 : Option V),σ = [some (.ref a),some (.ref xp),some (.ref tg),some (.ref mo),v4,v5] ∧ Same (upd (upd H1 mo0 (.lst [.int 0,.int 0,.int 0,.int 0,.int 0,.int 0])) sp (.lst ((st.scenes.map fun x=>((x.key : Nat) : Int)).map V.int))) H' ∧
     H mo = none ∧ H' mo = some (.lst (intsV (toldMost ms (Vbchai.most st.now ms 0 none (st.scenes.take i)))))) ⟨mo0,none,none,rfl,Same.refl _,s1.free hmo0,s3 _ _ upd_same⟩ (fun i σ H' _ ⟨_,_,_,_,s5,_⟩=>s5.seq (sqL_of upd_same)) ?_ ?_⟩
   ·rintro i y σ H' hi ⟨mo,v4,v5,rfl,s4,hmof,hmo⟩
    obtain ⟨sn,hsn,rfl⟩ : ∃ sn,st.scenes[i]? = some sn ∧ y = .int ((sn.key : Nat) : Int):=by
     rw [List.map_map,List.getElem?_map] at hi
     cases e : st.scenes[i]? with
     | none=>rw [e] at hi; cases hi
     | some x=>rw [e] at hi; exact ⟨x,rfl,(Option.some.inj hi).symm⟩
    have hsm:=List.mem_of_getElem? hsn
    have s04:=(s02.trans s3).trans s4
    have s14:=(s2.trans s3).trans s4
    obtain ⟨v,ev,q,rfl,hq⟩:=hxk.val sn hsm
    refine ⟨_,rfl,_,rfl,_,rfl,xp,_,rfl,dget (s04 _ _ hxp) ev,tg,q,_,cs,sn.box,rfl,(htg.mono fun _ _=>trivial).same s14,hcl,fun c hc=>?_,s04 _ _ hq,(g.scn sn hsm).1,fun H5 np hnp s5=>?_⟩
    ·obtain ⟨j,hj⟩:=List.getElem?_of_mem hc
     have:=curve_bounds (hS.curve j c hj) tok
     exact ⟨by have:=this.1; omega,this.2⟩
    ·obtain ⟨e1,e2⟩:=need_ok hS tok (g.scn sn hsm).1
     have en : boxNeed (ss.map fun s=>s.1).sum cs sn.box = Vbchai.lossAt st.now ms (Vbchai.worstAt (Vbchai.together ms) sn.box) :: Vbchai.ints (Vbchai.worstAt (Vbchai.together ms) sn.box):=by unfold boxNeed; rw [e1,e2]
     rw [en] at hnp
     have hmo5:=s5 _ _ hmo
     refine ⟨_,rfl,np,_,_,_,rfl,rfl,sqL_of hnp,rfl,_,rfl,mo,_,_,_,rfl,rfl,sqL_of hmo5,at_of (j:=0) rfl rfl,_,_,rfl,rfl,_,rfl,?_⟩
     refine ite2 (fun z=>?_) (fun z=>?_)
     ·have z:=of_decide_eq_true z
      refine ⟨_,rfl,np,_,_,_,rfl,rfl,sqL_of hnp,rfl,_,rfl,(by show 2 ≤ sizeLine; decide),fun p1 hp1=>?_⟩
      have s6:=Same.new (o:=.lst [V.int (Vbchai.lossAt st.now ms (Vbchai.worstAt (Vbchai.together ms) sn.box)),V.int ((sn.key : Nat) : Int)]) hp1
      refine ⟨_,rfl,_,rfl,np,_,rfl,sqL_of (s6 _ _ hnp),fun p2 hp2=>?_⟩
      have s7:=Same.new (o:=.lst (cutV (intsV (Vbchai.lossAt st.now ms (Vbchai.worstAt (Vbchai.together ms) sn.box) :: Vbchai.ints (Vbchai.worstAt (Vbchai.together ms) sn.box))) (some 1) none)) hp2
      refine ⟨p1,p2,_,_,rfl,rfl,s7 _ _ upd_same,upd_same,?_,fun p3 hp3=>?_⟩
      ·unfold intsV
       rw [List.map_cons,cut_1]
       show 2 + _ ≤ _
       rw [List.length_map]
       exact le_line (by show 2 + (Vbchai.ints (Vbchai.worstAt (Vbchai.together ms) sn.box)).length ≤ _; simp [Vbchai.ints,Vbchai.worstAt,Vbchai.UNDERLYINGS])
      ·refine ⟨p3,some (.int ((sn.key : Nat) : Int)),some (.ref np),rfl,(((s4.trans s5).trans s6).trans s7).trans (Same.new hp3),(((((s02.trans s3).trans s4).trans s5).trans s6).trans s7).free hp3,?_⟩
       rw [upd_same,take_snoc hsn,toldMost_snoc,if_pos z]
       unfold intsV
       rw [List.map_cons,cut_1]
       rfl
     ·have z : ¬ (Vbchai.most st.now ms 0 none (st.scenes.take i)).1 < Vbchai.lossAt st.now ms (Vbchai.worstAt (Vbchai.together ms) sn.box):=fun q=>z (decide_eq_true q)
      refine ⟨mo,some (.int ((sn.key : Nat) : Int)),some (.ref np),rfl,s4.trans s5,hmof,?_⟩
      rw [take_snoc hsn,toldMost_snoc,if_neg z]
      exact hmo5
   ·rintro σ H' ⟨mo,v4,v5,rfl,s4,hmof,hmo⟩
    rw [List.length_map,List.length_map,List.take_length] at hmo
    exact ⟨_,rfl,k H' mo hmof hmo ((s02.trans s3).trans s4)⟩
abbrev s_need_of_set : Stmt:=top 61
def spNeedSet (K : PySem.W.Frag) (D : Ads) : Sp:=fun vs H Q _=>∃ (a nl : Addr) (s : State) (ms : List Member),vs = [.ref a,.ref nl] ∧ HouR D H a s ∧ Good s ∧ SqL K H nl (whosV ms) ∧ ms.length ≤ 16 ∧ (∀ m ∈ ms,m ∈ s.members) ∧ ∀ H' p,H p = none → H' p = some (.lst (needsV s ms)) → Same H H' → Q (.ref p) H'
theorem sc_nset : FnScope ["house","numbers","who"] ["house","numbers"] (defScope s_need_of_set):=scm
theorem ok_nset (F : FunG K mg "need_of_set" s_need_of_set) (T : Txt K mg D) (cS : Cal P w K mg base CX0 5 "stand_of" ["house","who"] (spStand D)) (cA : Cal P w K mg base CX0 5 "need_in_all" ["stands","boxes"] (spNeedAll D)) :
  Cal P w K mg base CX0 6 "need_of_set" ["house","numbers"] (spNeedSet K D):=by
 obtain ⟨f,fd,F,hm⟩:=F
 refine ⟨f,fd,F.ok sc_nset (fun vs H Q E h=>?_) (fun cdv A outer s H vs Q E hr h=>?_),hm,F.kp,F.binds fun _ _ _ _ _ _ us hl=>match us,hl with | [_,_],_=>rfl⟩
 ·obtain ⟨a,nl,s,ms,rfl,_⟩:=h
  rfl
 ·obtain ⟨a,nl,st,ms,rfl,⟨dx,pn,mp,bp,xp,mk,bk,xk,hH⟩,g,hnl,hml,hms,k⟩:=h
  refine ⟨_,pss_one (ps_ret (pe_cal cA hr rfl pass0 (pa_cons (pe_lc rfl sc_nset.nd (pi_list (pv 1)) (blkOk_by (own:=[("who",2)]) (by rfl)) (fun _ _ _ _ _=>pg_name (i:=2) sc_nset.nd rfl (Or.inl rfl)) (fun _ _ _ _ _=>pts_nil) (fun _ _ _ _ _=>pe_cal cS hr rfl pass0 (pa_cons (pv 0) (pa_cons (pv 2) (pa_nil))))) (pa_cons (pe_fld (pv 0) rfl) (pa_nil))))),?_⟩
  refine ⟨_,rfl,nl,rfl,⟨_,hnl⟩,fun Dl hD=>lc_one (K:=K) (a:=nl) (xs:=whosV ms) (fun i H'=>Same H H' ∧ ∃ (qs : List Addr) (ss : List (Int × List (Int × List (Int × Int)))),H' Dl = some (.lst (qs.map V.ref)) ∧ All2 (fun q s=>StandAt D (fun x=>x ≠ Dl) H' q s.1 s.2) qs ss ∧ All2 (fun m sd=>StandOf st.now [m] sd.1 sd.2) (ms.take i) ss)
   ⟨Same.new hD,[],[],upd_same,.nil,.nil⟩ (fun i H' _ ⟨s1,_⟩=>s1.seq hnl) (fun _=>rfl) ?_ ?_⟩
  ·rintro i x H' hi ⟨s1,qs,ss,hDl,hqs,hss⟩
   obtain ⟨m,hm',rfl⟩:=whosV_at hi
   refine ⟨_,rfl,_,rfl,a,st,m,rfl,⟨dx,pn,mp,bp,xp,mk,bk,xk,hH.same s1⟩,g,hms m (List.mem_of_getElem? hm'),fun H4 p l0 cs hst hso s4=>?_⟩
   have hDl4:=s4 _ _ hDl
   have bu : SameBut Dl H4 (upd H4 Dl (.lst (qs.map V.ref ++ [V.ref p]))):=(SameBut.refl Dl H4).upd
   refine ⟨_,hDl4,(by rw [List.length_map,hqs.length,← hss.length,List.length_take]; exact lt_line (by omega)),fun c o e=>by rw [upd_ne (ne_of_none e hD)]; exact s4 c o (s1 c o e),qs ++ [p],ss ++ [(l0,cs)],by rw [upd_same,List.map_append]; rfl,?_,?_⟩
   ·exact (hqs.imp fun _ _ e=>(e.same s4).but bu hDl4 fun x hx=>hx).append (.cons ((hst.mono fun x hx z=>by rw [z,hDl] at hx; cases hx).but bu hDl4 fun x hx=>hx) .nil)
   ·rw [take_snoc hm']
    exact hss.append (.cons hso .nil)
  ·rintro H1 ⟨s1,qs,ss,hDl,hqs,hss⟩
   rw [whosV_len,List.take_length] at hss
   have hH1:=hH.same s1
   refine ⟨_,rfl,a,D.hou,dx,_,_,rfl,hH1.obj,T.hou,T.hou_x,houF_x _ _ _ _,Dl,xp,st,ms,xk,rfl,⟨qs,ss,hDl,hqs.imp (fun _ _ e=>e.mono fun _ _=>trivial),hss⟩,hml,hms,g,hH1.box,hH1.rx,fun H2 p hf hp s2=>k H2 p (s1.free hf) hp (s1.trans s2)⟩
end
end VD
set_option maxRecDepth 100000
set_option maxHeartbeats 2000000
namespace VD
open PySem PySem.Spec PyProof.Rows L2 VM VX XL
open Vbchai (Leg Book Member Scene State Prices Box)
section
variable {P : Program} {w : World} {K : PySem.W.Frag} {mg : Str → Option Value} {base : Heap} {D : Ads}
abbrev s_sets_up_to : Stmt:=top 62
def SetsAt (N : Addr → Prop) (H : Hp) (p : Addr) (cs : List (List Member)) : Prop:=∃ qs : List Addr,H p = some (.lst (qs.map V.ref)) ∧ All2 (fun q c=>N q ∧ H q = some (.lst (whosV c))) qs cs
def spSets (K : PySem.W.Frag) : Sp:=fun vs H Q _=>∃ (ml : Addr) (ms : List Member) (k : Nat),vs = [.ref ml,.int (k : Nat)] ∧ SqL K H ml (whosV ms) ∧ Up Member.who ms ∧ ms.length ≤ 8 ∧ k ≤ 3 ∧ ∀ H' p,SetsAt (fun _=>True) H' p (Vbchai.setsTo k ms) → Same H H' → Q (.ref p) H'
theorem sc_sets : FnScope ["members","k","sets","largest","size","larger","chosen","who"] ["members","k"] (defScope s_sets_up_to):=scm
theorem ext_len (ms c : List Member) : (ext ms c).length ≤ ms.length:=by
 unfold ext
 rw [List.length_map]
 exact List.length_filter_le _ _
theorem sets_len {ms : List Member} (h : Up Member.who ms) (h8 : ms.length ≤ 8) : ∀ n,(Vbchai.sets n ms).length ≤ 8 ^ n
 | 0=>by rw [Vbchai.sets]; exact Nat.le_refl _
 | n + 1=>by
  rw [sets_succ h]
  have h1:=flat_len (f:=ext ms) (n:=8) (l:=Vbchai.sets n ms) fun c _=>Nat.le_trans (ext_len ms c) h8
  have h2:=sets_len h h8 n
  rw [Nat.pow_succ]
  omega
theorem pow_le {n : Nat} (h : n ≤ 3) : 8 ^ n ≤ 512:=by
 rcases (show n = 0 ∨ n = 1 ∨ n = 2 ∨ n = 3 by omega) with rfl | rfl | rfl | rfl <;> decide
theorem setsTo_len {ms : List Member} (h : Up Member.who ms) (h8 : ms.length ≤ 8) : ∀ n,n ≤ 3 → (Vbchai.setsTo n ms).length ≤ 512 * n
 | 0,_=>Nat.le_refl _
 | n + 1,hn=>by
  rw [setsTo_succ,List.length_append]
  have h1:=setsTo_len h h8 n (by omega)
  have h2:=Nat.le_trans (sets_len h h8 (n + 1)) (pow_le hn)
  omega
theorem ext_snoc {ms : List Member} {j : Nat} {m : Member} (c : List Member) (h : ms[j]? = some m) : ext (ms.take (j + 1)) c = ext (ms.take j) c ++ (if isAfter c m = true then [c ++ [m]] else []):=by
 rw [take_snoc h]
 unfold ext
 rw [List.filter_append,List.map_append]
 congr 1
 rw [List.filter_cons,List.filter_nil]
 split <;> simp_all
theorem whosV_app (c : List Member) (m : Member) : whosV (c ++ [m]) = whosV c ++ [.int ((m.who : Nat) : Int)]:=by unfold whosV whos; rw [List.map_append,List.map_append]; rfl
theorem last_at {c : List Member} {x : Member} (h : c.getLast? = some x) : atI (whosV c) (-1) = some (.int ((x.who : Nat) : Int)):=by
 have hne : c ≠ []:=by rintro rfl; simp at h
 have hl : 0 < c.length:=List.length_pos_iff.mpr hne
 unfold atI ixN
 rw [if_neg (by decide),whosV_len,if_pos (by omega)]
 show (whosV c)[((-1 : Int) + (c.length : Nat)).toNat]? = _
 rw [show ((-1 : Int) + (c.length : Nat)).toNat = c.length - 1 by omega]
 unfold whosV whos
 rw [List.map_map,List.getElem?_map,← List.getLast?_eq_getElem?,h]
 rfl
theorem whosV_nil (c : List Member) : whos c = [] ↔ c = []:=by unfold whos; exact List.map_eq_nil_iff
theorem ok_sets (F : FunG K mg "sets_up_to" s_sets_up_to) (T : Txt K mg D) : Cal P w K mg base CX0 1 "sets_up_to" ["members","k"] (spSets K):=by
 obtain ⟨f,fd,F,hm⟩:=F
 refine ⟨f,fd,F.ok sc_sets (fun vs H Q E h=>?_) (fun cdv A outer s H vs Q E hr h=>?_),hm,F.kp,F.binds fun _ _ _ _ _ _ us hl=>match us,hl with | [_,_],_=>rfl⟩
 ·obtain ⟨ml,ms,k,rfl,_⟩:=h
  rfl
 ·obtain ⟨ml,ms,k,rfl,hml,hup,h8,hk3,kk⟩:=h
  refine ⟨_,pss_cons (ps_set (i:=2) sc_sets.nd rfl (Or.inl rfl) (pe_lst (pa_nil))) (pss_cons (ps_set (i:=3) sc_sets.nd rfl (Or.inl rfl) (pe_lst (pa_cons (pe_lst (pa_nil)) (pa_nil)))) (pss_cons (ps_for PassesOwn.never rfl (pi_range1 rfl T.bRange (pa_cons (pv 1) pa_nil)) (pg_name (i:=4) sc_sets.nd rfl (Or.inl rfl)) (pss_cons (ps_set (i:=5) sc_sets.nd rfl (Or.inl rfl) (pe_lst (pa_nil))) (pss_cons (ps_for PassesOwn.never rfl (pi_list (pv 3)) (pg_name (i:=6) sc_sets.nd rfl (Or.inr rfl)) (pss_one (ps_expr (pe_bm PySem.F.plainAttrs_list PySem.F.slot_list_extend PySem.F.type_list_extend mt_extend (pv 5) (pa_cons (pe_lc rfl sc_sets.nd (pi_list (pv 0)) (blkOk_by (own:=[("who",7)]) (by rfl)) (fun _ _ _ _ _=>pg_name (i:=7) sc_sets.nd rfl (Or.inl rfl)) (fun _ _ _ _ _=>pts_one (L2.PW.pt (pw_or (pt_cmpR (op_eqInts (K:=K) rfl hr.units) (pv 6) (pe_lst pa_nil) (nomark _)) (pw_or1 (pt_cmpR op_gt (pv 7) (pe_ix (ix_listK (K:=K) rfl) (pv 6) (pe_un un_neg pe_int) (fun _ _=>rfl)) (nomark _)))))) (fun _ _ _ _ _=>pe_op op_cat (pv 6) (pe_lst (pa_cons (pv 7) pa_nil)))) (pa_nil)))))) (pss_cons (ps_expr (pe_bm PySem.F.plainAttrs_list PySem.F.slot_list_extend PySem.F.type_list_extend mt_extend (pv 2) (pa_cons (pv 5) (pa_nil)))) (pss_one (ps_set (i:=3) sc_sets.nd rfl (Or.inl rfl) (pv 5))))))) (pss_one (ps_ret (pv 2))))),?_⟩
  refine ⟨Nat.zero_le _,fun sp hsp=>?_⟩
  have a1 : Same H (upd H sp (.lst [])):=Same.new hsp
  refine ⟨Nat.zero_le _,fun e0 he0=>⟨(by show 1 ≤ sizeLine; decide),fun la hla=>?_⟩⟩
  have a2:=Same.new (o:=.lst []) he0
  have a3:=Same.new (o:=.lst [V.ref e0]) hla
  have hsp2:=a3 _ _ (a2 _ _ (upd_same (H:=H) (a:=sp) (o:=.lst [])))
  have ne0 : e0 ≠ sp:=fun z=>by rw [z,upd_same] at he0; cases he0
  have nla : la ≠ sp:=(ne_of_none (a2 _ _ (upd_same (H:=H) (a:=sp) (o:=.lst []))) hla).symm
  refine ⟨_,rfl,_,rfl,by omega,by omega,for_range (n:=((k : Nat) : Int).toNat) (fun n σ H'=>∃ (la : Addr) (v4 v5 v6 : Option V),σ = [some (.ref ml),some (.int (k : Nat)),some (.ref sp),some (.ref la),v4,v5,v6,none] ∧ Same H H' ∧ la ≠ sp ∧ SetsAt (fun q=>q ≠ sp) H' sp (Vbchai.setsTo n ms) ∧ SetsAt (fun q=>q ≠ sp) H' la (Vbchai.sets n ms))
   ⟨la,none,none,none,rfl,(a1.trans a2).trans a3,nla,⟨[],hsp2,.nil⟩,⟨[e0],upd_same,by rw [Vbchai.sets]; exact .cons ⟨ne0,a3 _ _ upd_same⟩ .nil⟩⟩ ?_ ?_⟩
  ·rintro n σ H1 hn ⟨la,v4,v5,v6,rfl,s1,nls,⟨qs,hq1,hq2⟩,⟨rs,hr1,hr2⟩⟩
   rw [Int.toNat_natCast] at hn
   refine ⟨Nat.zero_le _,fun lg hlg=>?_⟩
   have s2 : Same H1 (upd H1 lg (.lst [])):=Same.new hlg
   have nlg : lg ≠ sp:=fun z=>by rw [z,hq1] at hlg; cases hlg
   have hsl:=Nat.le_trans (sets_len hup h8 n) (pow_le (by omega : n ≤ 3))
   refine ⟨_,rfl,la,rfl,⟨_,sqL_of (s2 _ _ hr1)⟩,for_list (K:=K) (a:=la) (xs:=rs.map V.ref) (fun i σ H'=>∃ v6 : Option V,σ = [some (.ref ml),some (.int (k : Nat)),some (.ref sp),some (.ref la),some (.int (0 + (n : Nat))),some (.ref lg),v6,none] ∧ Same H1 H' ∧ SetsAt (fun q=>H1 q = none ∧ q ≠ lg) H' lg (((Vbchai.sets n ms).take i).flatMap (ext ms)))
    ⟨v6,rfl,s2,[],upd_same,.nil⟩ (fun i σ H' _ ⟨_,_,s5,_⟩=>s5.seq (sqL_of hr1)) ?_ ?_⟩
   ·rintro i y σ H2 hi ⟨v6',rfl,s3,ts,ht1,ht2⟩
    obtain ⟨q,hq,rfl⟩:=refs_at hi
    obtain ⟨c,hc,nq,hqc⟩:=hr2.get hq
    have hqc2:=s3 _ _ hqc
    have hflen : (((Vbchai.sets n ms).take i).flatMap (ext ms)).length + 8 ≤ 10000:=by
     have:=flat_len (f:=ext ms) (n:=8) (l:=(Vbchai.sets n ms).take i) fun c _=>Nat.le_trans (ext_len ms c) h8
     rw [List.length_take] at this
     omega
    refine ⟨_,rfl,.inl ⟨rfl,_,sqL_of ht1⟩,_,rfl,ml,rfl,⟨_,(s1.trans s3).seq hml⟩,fun Dl hD=>lc_list (K:=K) (a:=ml) (xs:=whosV ms) (g:=gName 7) (fun j H3=>Same H2 H3 ∧ ∃ us : List Addr,H3 Dl = some (.lst (us.map V.ref)) ∧ All2 (fun q c=>(H2 q = none ∧ q ≠ Dl) ∧ H3 q = some (.lst (whosV c))) us (ext (ms.take j) c))
     ⟨Same.new hD,[],upd_same,.nil⟩ (fun j H3 _ ⟨s4,_⟩=>s4.seq ((s1.trans s3).seq hml)) ?_ ?_⟩
    ·rintro j x H3 hj ⟨s4,us,hu1,hu2⟩
     obtain ⟨m,hmj,rfl⟩:=whosV_at hj
     have hqc3:=s4 _ _ hqc2
     have hmlen : (ms.take j).length ≤ 8:=by rw [List.length_take]; omega
     have hul : us.length ≤ 8:=by rw [hu2.length]; exact Nat.le_trans (ext_len _ _) hmlen
     have hcl : c.length ≤ 3:=by rw [(sets_mem (List.mem_of_getElem? hc)).1]; omega
     have skip : isAfter c m = false → ∀ H4,Same H3 H4 → Same H2 H4 ∧ ∃ us : List Addr,H4 Dl = some (.lst (us.map V.ref)) ∧ All2 (fun q c=>(H2 q = none ∧ q ≠ Dl) ∧ H4 q = some (.lst (whosV c))) us (ext (ms.take (j + 1)) c):=fun z H4 s5=>by
      refine ⟨s4.trans s5,us,s5 _ _ hu1,?_⟩
      rw [ext_snoc c hmj,if_neg (by simp [z]),List.append_nil]
      exact hu2.imp fun _ _ e=>⟨e.1,s5 _ _ e.2⟩
     have take : isAfter c m = true → ∀ H4,Same H3 H4 → H4 q = some (.lst (whosV c)) → tOp rCat (tVar 6) (tLst (tCons (tVar 7) tNil)) [some (.ref ml),some (.int (k : Nat)),some (.ref sp),some (.ref la),some (.int (0 + (n : Nat))),some (.ref lg),some (.ref q),some (.int ((m.who : Nat) : Int))] H4 fun y H5=>∃ acc,H5 Dl = some (.lst acc) ∧ acc.length < sizeLine ∧ (Same H2 (upd H5 Dl (.lst (acc ++ [y]))) ∧ ∃ us : List Addr,(upd H5 Dl (.lst (acc ++ [y]))) Dl = some (.lst (us.map V.ref)) ∧ All2 (fun q c=>(H2 q = none ∧ q ≠ Dl) ∧ (upd H5 Dl (.lst (acc ++ [y]))) q = some (.lst (whosV c))) us (ext (ms.take (j + 1)) c)):=fun z H4 s5 hq4=>by
      refine ⟨_,rfl,_,rfl,(by show 1 ≤ sizeLine; decide),fun p1 hp1=>?_⟩
      have s6:=Same.new (o:=.lst [V.int ((m.who : Nat) : Int)]) hp1
      refine ⟨q,p1,_,_,rfl,rfl,s6 _ _ hq4,upd_same,(by rw [whosV_len]; exact le_line (by show _ + 1 ≤ _; omega)),fun p2 hp2=>?_⟩
      have s7:=Same.new (o:=.lst (whosV c ++ [V.int ((m.who : Nat) : Int)])) hp2
      have s37:=(s5.trans s6).trans s7
      have hDl7:=s37 _ _ hu1
      have n2 : p2 ≠ Dl:=fun zz=>by
       have:=(s5.trans s6) _ _ hu1
       rw [← zz,hp2] at this; cases this
      refine ⟨_,hDl7,(by rw [List.length_map]; exact lt_line (by omega)),fun b o e=>by rw [upd_ne (ne_of_none e hD)]; exact s37 b o (s4 b o e),us ++ [p2],by rw [upd_same,List.map_append]; rfl,?_⟩
      rw [ext_snoc c hmj,if_pos z]
      refine (hu2.imp fun b x e=>⟨e.1,by rw [upd_ne e.1.2]; exact s37 _ _ e.2⟩).append (.cons ⟨⟨((s4.trans s5).trans s6).free hp2,n2⟩,?_⟩ .nil)
      rw [upd_ne n2,upd_same,whosV_app]
     refine ⟨rfl,?_⟩
     refine ⟨_,rfl,Nat.zero_le _,fun p0 hp0=>?_⟩
     have s5 : Same H3 (upd H3 p0 (.lst [])):=Same.new hp0
     refine ⟨q,p0,whos c,[],rfl,rfl,sqL_of (s5 _ _ hqc3),sqL_of upd_same,_,rfl,?_⟩
     by_cases hcn : c = []
     ·rw [decide_eq_true ((whosV_nil c).mpr hcn)]
      refine iteT (iteT ?_)
      exact take (by subst hcn; rfl) _ s5 (s5 _ _ hqc3)
     ·rw [decide_eq_false fun z=>hcn ((whosV_nil c).mp z)]
      refine iteF ?_
      obtain ⟨x,hx⟩ : ∃ x,c.getLast? = some x:=⟨_,List.getLast?_eq_some_getLast hcn⟩
      have haf : isAfter c m = decide (x.who < m.who):=by unfold isAfter; rw [hx]
      refine ⟨_,rfl,_,rfl,_,rfl,q,_,_,_,rfl,rfl,sqL_of (s5 _ _ hqc3),last_at hx,_,_,rfl,rfl,_,rfl,?_⟩
      refine ite2 (fun z=>?_) (fun z=>?_)
      ·have z:=of_decide_eq_true z
       exact take (by rw [haf]; exact decide_eq_true (by omega)) _ s5 (s5 _ _ hqc3)
      ·have z : ¬ ((x.who : Nat) : Int) < ((m.who : Nat) : Int):=fun q=>z (decide_eq_true q)
       exact skip (by rw [haf]; exact decide_eq_false (by omega)) _ s5
    ·rintro H3 ⟨s4,us,hu1,hu2⟩
     rw [whosV_len,List.take_length] at hu2
     have ht3:=s4 _ _ ht1
     refine ⟨lg,Dl,_,_,rfl,rfl,ht3,hu1,(by rw [List.length_map,List.length_map,ht2.length,hu2.length]; have:=ext_len ms c; exact le_line (by omega)),?_⟩
     refine ⟨some (.ref q),rfl,fun b o e=>by rw [upd_ne (ne_of_none e hlg)]; exact s4 b o (s3 b o e),ts ++ us,by rw [upd_same,List.map_append],?_⟩
     rw [take_snoc hc,List.flatMap_append]
     refine (ht2.imp fun b x e=>⟨e.1,by rw [upd_ne e.1.2]; exact s4 _ _ e.2⟩).append ?_
     rw [show ([c] : List (List Member)).flatMap (ext ms) = ext ms c by simp]
     refine hu2.imp fun b x e=>?_
     have nb : b ≠ lg:=fun z=>by have:=e.1.1; rw [z,ht1] at this; cases this
     exact ⟨⟨s3.free e.1.1,nb⟩,by rw [upd_ne nb]; exact e.2⟩
   ·rintro σ H2 ⟨v6',rfl,s3,ts,ht1,ht2⟩
    rw [List.length_map,hr2.length,List.take_length,← sets_succ hup] at ht2
    have hq2':=s3 _ _ hq1
    have hl1:=setsTo_len hup h8 n (by omega)
    have hl2:=Nat.le_trans (sets_len hup h8 (n + 1)) (pow_le (by omega : n + 1 ≤ 3))
    refine ⟨_,rfl,.inl ⟨rfl,_,sqL_of hq2'⟩,_,rfl,sp,lg,_,_,rfl,rfl,hq2',ht1,(by rw [List.length_map,List.length_map,hq2.length,ht2.length]; exact le_line (by omega)),?_⟩
    refine ⟨_,rfl,?_⟩
    have up : ∀ (b : Addr) (xs : List V),b ≠ sp → H2 b = some (.lst xs) → (upd H2 sp (.lst (qs.map V.ref ++ ts.map V.ref))) b = some (.lst xs):=fun b xs nb e=>by rw [upd_ne nb]; exact e
    have nts : ∀ (b : Addr),H1 b = none → b ≠ sp:=fun b e z=>by rw [z,hq1] at e; cases e
    have ht2' : All2 (fun q c=>q ≠ sp ∧ (upd H2 sp (.lst (qs.map V.ref ++ ts.map V.ref))) q = some (.lst (whosV c))) ts (Vbchai.sets (n + 1) ms):=ht2.imp fun b x e=>⟨nts b e.1.1,up _ _ (nts b e.1.1) e.2⟩
    refine ⟨lg,_,_,_,rfl,fun b o e=>by rw [upd_ne (ne_of_none e hsp)]; exact s3 b o (s1 b o e),nlg,⟨qs ++ ts,by rw [upd_same,List.map_append],?_⟩,⟨ts,up _ _ nlg ht1,ht2'⟩⟩
    rw [setsTo_succ]
    exact (hq2.imp fun b x e=>⟨e.1,up _ _ e.1 (s3 _ _ e.2)⟩).append ht2'
  ·rintro σ H1 ⟨la,v4,v5,v6,rfl,s1,nls,⟨qs,hq1,hq2⟩,_⟩
   rw [Int.toNat_natCast] at hq2
   exact ⟨_,rfl,kk H1 sp ⟨qs,hq1,hq2.imp fun _ _ e=>⟨trivial,e.2⟩⟩ s1⟩
end
end VD
set_option maxRecDepth 100000
set_option maxHeartbeats 2000000
namespace VD
open PySem PySem.Spec PyProof.Rows L2 VM VX XL
open Vbchai (Leg Book Member Scene State Prices Box)
section
variable {D : Ads} {N : Addr → Prop} {H H' : Hp} {a d Dl : Addr} {s l0 : Int} {bs : List (Int × Int)} {cs : List (Int × List (Int × Int))} {kvs : List (Key × V)}
theorem CurveAt.dict (h : CurveAt D N H a s bs) (e : SameBut d H H') (hd : H d = some (.dK kvs)) : CurveAt D N H' a s bs:=by
 obtain ⟨dx,bp,ps,h1,h2,h3,h4⟩:=h
 exact ⟨dx,bp,ps,h1,e _ _ h2 (ne_of h2 hd (by intro z; cases z)),e _ _ h3 (ne_of h3 hd (by intro z; cases z)),h4.imp fun p _ x=>e _ _ x (ne_of x hd (by intro z; cases z))⟩
theorem StandAt.dict (h : StandAt D N H a l0 cs) (e : SameBut d H H') (hd : H d = some (.dK kvs)) : StandAt D N H' a l0 cs:=by
 obtain ⟨dx,cp,h1,h0,qs,h2,h3⟩:=h
 exact ⟨dx,cp,e _ _ h1 (ne_of h1 hd (by intro z; cases z)),h0,qs,e _ _ h2 (ne_of h2 hd (by intro z; cases z)),h3.imp fun _ _ x=>x.dict e hd⟩
theorem StandAt.fresh (h : StandAt D N H a l0 cs) (hD : H Dl = none) : StandAt D (fun x=>x ≠ Dl) H a l0 cs:=by
 obtain ⟨dx,cp,h1,h0,qs,h2,h3⟩:=h
 refine ⟨dx,cp,h1,ne_of_none h2 hD,qs,h2,h3.imp fun _ _ x=>?_⟩
 obtain ⟨dx,bp,ps,h1,h2,h3,h4⟩:=x
 exact ⟨dx,bp,ps,ne_of_none h3 hD,h2,h3,h4⟩
end
section
variable {P : Program} {w : World} {K : PySem.W.Frag} {mg : Str → Option Value} {base : Heap} {D : Ads}
abbrev s_fund_for : Stmt:=top 63
def StandIn (D : Ads) (H : Hp) (kvs : List (Key × V)) (st : State) (m : Member) : Prop:=∃ q l0 cs,valV kvs (.inl ((m.who : Nat) : Int)) = some (.ref q) ∧ StandAt D (fun _=>True) H q l0 cs ∧ StandOf st.now [m] l0 cs
theorem StandIn.same {H H' : Hp} {kvs : List (Key × V)} {st : State} {m : Member} (h : StandIn D H kvs st m) (e : Same H H') : StandIn D H' kvs st m:=let ⟨q,l0,cs,h1,h2,h3⟩:=h; ⟨q,l0,cs,h1,h2.same e,h3⟩
def fundV (s : State) (k : Nat) : List V:=intsV (Vbchai.needTold (Vbchai.fund s k))
def spFund (D : Ads) : Sp:=fun vs H Q _=>∃ (a : Addr) (s : State) (k : Nat),vs = [.ref a,.int (k : Nat)] ∧ HouAt D H a s ∧ Good s ∧ k ≤ 3 ∧ ∀ H' p,H p = none → H' p = some (.lst (fundV s k)) → Same H H' → Q (.ref p) H'
theorem sc_fund : FnScope ["house","k","stands","who","most","needy","numbers","need"] ["house","k"] (defScope s_fund_for):=scm
theorem members_sorted {s : State} (g : Good s) {R : Member → V → Prop} {xk : List (Key × V)} (h : DRel Member.who R xk s.members) : ∃ ks : List Int,(xk.map fun kv=>kv.1) = ks.map Sum.inl ∧ ks.length < 64 ∧ ks.Perm (whos s.members) ∧ ∀ ns : List Int,ns.Perm ks → ns.Pairwise (· ≤ ·) → ns = whos s.members:=by
 obtain ⟨ks,e,p⟩:=h.ints g.asc
 refine ⟨ks,e,?_,p,fun ns hp hs=>sorted_same (hp.trans p) hs ?_⟩
 ·have:=p.length_eq
  have:=g.len
  simp only [List.length_map] at *
  omega
 ·exact (up_whos g.asc).imp fun hh=>by omega
theorem up_take_ne {ms : List Member} (h : Up Member.who ms) {i : Nat} {m : Member} (hm : ms[i]? = some m) : ∀ x ∈ ms.take i,x.who < m.who:=fun x hx=>by
 obtain ⟨j,hj,e⟩:=List.mem_iff_getElem.mp hx
 rw [List.length_take] at hj
 obtain ⟨hi,e2⟩:=List.getElem?_eq_some_iff.mp hm
 have:=(List.pairwise_iff_getElem.mp h) j i (by omega) hi (by omega)
 rw [List.getElem_take] at e
 rw [e,e2] at this
 exact this
def needV (n : Vbchai.Need) : List V:=intsV (n.amount :: Vbchai.whereTold n.who n.scene)
theorem setsTo_mem {k : Nat} {ms c : List Member} (h : c ∈ Vbchai.setsTo k ms) (hk : k ≤ 3) : c.length ≤ 3 ∧ ∀ m ∈ c,m ∈ ms:=by
 unfold Vbchai.setsTo at h
 obtain ⟨n,hn,hc⟩:=List.mem_flatMap.mp h
 have:=List.mem_range.mp hn
 obtain ⟨h1,h2⟩:=sets_mem hc
 exact ⟨by omega,h2⟩
theorem where_len (l : List Member) (o : Option Scene) : (Vbchai.whereTold l o).length = 5:=by
 cases o with
 | none=>rfl
 | some x=>rfl
def noNeed : Vbchai.Need:={ amount:=0,who:=[],scene:=none }
theorem worst_mem {s : State} : ∀ (ls : List (List Member)) (n : Vbchai.Need),(Vbchai.worstSet s n ls).who = n.who ∨ (Vbchai.worstSet s n ls).who ∈ ls
 | [],n=>.inl rfl
 | l :: r,n=>by
  rw [Vbchai.worstSet]
  split
  ·rcases worst_mem r { amount:=(Vbchai.uncovered s l).1,who:=l,scene:=(Vbchai.uncovered s l).2 } with h | h
   ·exact .inr (by rw [h]; exact List.mem_cons_self)
   ·exact .inr (List.mem_cons_of_mem _ h)
  ·rcases worst_mem r n with h | h
   ·exact .inl h
   ·exact .inr (List.mem_cons_of_mem _ h)
theorem ok_fund (F : FunG K mg "fund_for" s_fund_for) (T : Txt K mg D) (cS : Cal P w K mg base CX0 5 "stand_of" ["house","who"] (spStand D)) (cA : Cal P w K mg base CX0 5 "need_in_all" ["stands","boxes"] (spNeedAll D))
  (cU : Cal P w K mg base CX0 1 "sets_up_to" ["members","k"] (spSets K)) : Cal P w K mg base CX0 6 "fund_for" ["house","k"] (spFund D):=by
 obtain ⟨f,fd,F,hm⟩:=F
 refine ⟨f,fd,F.ok sc_fund (fun vs H Q E h=>?_) (fun cdv A outer s H vs Q E hr h=>?_),hm,F.kp,F.binds fun _ _ _ _ _ _ us hl=>match us,hl with | [_,_],_=>rfl⟩
 ·obtain ⟨a,s,k,rfl,_⟩:=h
  rfl
 ·obtain ⟨a,st,k,rfl,⟨dx,pn,mp,bp,xp,mk,bk,xk,hH⟩,g,hk3,kk⟩:=h
  have hu:=hu_of hr
  have hr1 : Room 1 _:=hr.mono (by decide)
  have hr5 : Room 5 _:=hr
  refine ⟨_,pss_cons (ps_set (i:=2) sc_fund.nd rfl (Or.inr rfl) (pe_dnewK)) (pss_cons (ps_for PassesOwn.never rfl (pi_list (pe_callB (cr_sortedD rfl) (by rfl) T.bSorted PyProof.Rows.boot_sorted (pa_cons (pe_fld (pv 0) rfl) (pa_nil)))) (pg_name (i:=3) sc_fund.nd rfl (Or.inl rfl)) (pss_one (ps_dput hu (pv 2) (pv 3) (pe_cal cS hr5 rfl pass0 (pa_cons (pv 0) (pa_cons (pv 3) (pa_nil)))) rfl))) (pss_cons (ps_set (i:=4) sc_fund.nd rfl (Or.inl rfl) (pe_lst (pa_cons (pe_int) (pa_cons (pe_int) (pa_cons (pe_int) (pa_cons (pe_int) (pa_cons (pe_int) (pa_cons (pe_int) (pa_nil))))))))) (pss_cons (ps_set (i:=5) sc_fund.nd rfl (Or.inl rfl) (pe_lst (pa_nil))) (pss_cons (ps_for PassesOwn.never rfl (pi_list (pe_cal cU hr1 rfl pass0 (pa_cons (pe_callTy (cr_listD rfl) (by rfl) T.bList PyProof.Rows.boot_list (pa_cons (pv 2) (pa_nil))) (pa_cons (pv 1) (pa_nil))))) (pg_name (i:=6) sc_fund.nd rfl (Or.inl rfl)) (pss_cons (ps_set (i:=7) sc_fund.nd rfl (Or.inl rfl) (pe_cal cA hr5 rfl pass0 (pa_cons (pe_lc rfl sc_fund.nd (pi_list (pv 6)) (blkOk_by (own:=[("who",3)]) (by rfl)) (fun _ _ _ _ _=>pg_name (i:=3) sc_fund.nd rfl (Or.inl rfl)) (fun _ _ _ _ _=>pts_nil) (fun _ _ _ _ _=>pe_dget hu (pv 2) (pv 3) (fun _ _=>rfl))) (pa_cons (pe_fld (pv 0) rfl) (pa_nil))))) (pss_one (ps_if (pt_cmpR op_gt (pe_ix ix_list (pv 7) (pe_int) (fun _ _=>rfl)) (pe_ix ix_list (pv 4) (pe_int) (fun _ _=>rfl)) (nomark _)) (pss_cons (ps_set (i:=4) sc_fund.nd rfl (Or.inl rfl) (pv 7)) (pss_one (ps_set (i:=5) sc_fund.nd rfl (Or.inl rfl) (pv 6)))) (pss_nil))))) (pss_one (ps_ret (pe_op op_cat (pe_op op_cat (pe_lst (pa_cons (pe_ix ix_list (pv 4) (pe_int) (fun _ _=>rfl)) (pa_cons (pe_callB call_len_seq (by rfl) T.bLen PySem.boot_len (pa_cons (pv 5) (pa_nil))) (pa_nil)))) (pv 5)) (pe_slice sl_list (pv 4) (po_some pe_int) po_none)))))))),?_⟩
  refine fun sd hsd=>?_
  have s0 : Same H (upd H sd (.dK [])):=Same.new hsd
  obtain ⟨ks,ek,kl,kp,hks⟩:=members_sorted g hH.rb
  refine ⟨_,rfl,a,D.hou,dx,_,_,rfl,s0 _ _ hH.obj,T.hou,T.hou_b,houF_b _ _ _ _,bp,bk,ks,rfl,.inl (s0 _ _ hH.bok),ek,kl,fun ns sl p1 p2 hsl=>?_⟩
  have hns:=hks ns p1 p2
  subst hns
  have s1:=Same.new (o:=.lst ((whos st.members).map V.int)) hsl
  have hsd1:=s1 _ _ (upd_same (H:=H) (a:=sd) (o:=.dK []))
  have h8:=g.len
  refine ⟨sl,rfl,⟨_,sqL_of upd_same⟩,for_list (K:=K) (a:=sl) (xs:=whosV st.members) (fun i σ H'=>∃ v3 : Option V,σ = [some (.ref a),some (.int (k : Nat)),some (.ref sd),v3,none,none,none,none] ∧ Same H H' ∧ H' sl = some (.lst (whosV st.members)) ∧ sl ≠ sd ∧ ∃ kvs : List (Key × V),H' sd = some (.dK kvs) ∧ kvs.map (fun kv=>kv.1) = (whos (st.members.take i)).map Sum.inl ∧ ∀ m ∈ st.members.take i,StandIn D H' kvs st m)
   ⟨none,rfl,s0.trans s1,upd_same,(ne_of_none (upd_same (H:=H) (a:=sd) (o:=.dK [])) hsl).symm,[],hsd1,rfl,fun m hm=>by simp at hm⟩ (fun i σ H' _ ⟨_,_,_,h,_⟩=>sqL_of h) ?_ ?_⟩
  ·rintro i y σ H' hi ⟨v3,rfl,s2,hsl2,nsl,kvs,hsd2,hkeys,hst⟩
   obtain ⟨m,hmi,rfl⟩:=whosV_at hi
   have hmm:=List.mem_of_getElem? hmi
   refine ⟨_,rfl,_,rfl,a,st,m,rfl,⟨dx,pn,mp,bp,xp,mk,bk,xk,(hH.same s2).toR⟩,g,hmm,fun H3 p l0 cs hsa hso s3=>?_⟩
   have hsd3:=s3 _ _ hsd2
   have hlt:=up_take_ne g.asc hmi
   have hnone : valV kvs (.inl ((m.who : Nat) : Int)) = none:=by
    cases e : valV kvs (.inl ((m.who : Nat) : Int)) with
    | none=>rfl
    | some v =>
     have h1:=valV_mem.mp (show (valV kvs (.inl ((m.who : Nat) : Int))).isSome = true by rw [e]; rfl)
     rw [hkeys] at h1
     obtain ⟨z,hz,ez⟩:=List.mem_map.mp h1
     unfold whos at hz
     obtain ⟨x,hx,rfl⟩:=List.mem_map.mp hz
     have:=hlt x hx
     have:=Sum.inl.inj ez
     omega
   have hklen : kvs.length ≤ 8:=by
    have:=congrArg List.length hkeys
    simp only [List.length_map,whos,List.length_take] at this
    omega
   refine ⟨_,rfl,_,rfl,sd,_,rfl,DPut.k (k:=Sum.inl ((m.who : Nat) : Int)) hsd3 (lt_line (by omega)),?_⟩
   have bu : SameBut sd H3 (upd H3 sd (.dK (putK kvs (Sum.inl ((m.who : Nat) : Int)) (.ref p)))):=(SameBut.refl sd H3).upd
   refine ⟨some (.int ((m.who : Nat) : Int)),rfl,fun b o e=>by rw [upd_ne (ne_of_none e hsd)]; exact s3 b o (s2 b o e),by rw [upd_ne nsl]; exact s3 _ _ hsl2,nsl,_,upd_same,?_,fun x hx=>?_⟩
   ·rw [putK_new _ hnone,List.map_append,hkeys,take_snoc hmi]
    unfold whos
    rw [List.map_append,List.map_append]
    rfl
   ·rw [take_snoc hmi] at hx
    rcases List.mem_append.mp hx with hx | hx
    ·obtain ⟨q,l1,c1,e1,e2,e3⟩:=hst x hx
     have:=hlt x hx
     exact ⟨q,l1,c1,by rw [valV_put,if_neg (fun z=>by have:=Sum.inl.inj z; omega)]; exact e1,(e2.same s3).dict bu hsd3,e3⟩
    ·rw [List.mem_singleton] at hx
     subst hx
     exact ⟨p,l0,cs,by rw [valV_put,if_pos rfl],(hsa.mono fun _ _=>trivial).dict bu hsd3,hso⟩
  ·rintro σ H1 ⟨v3,rfl,s2,hsl2,nsl,kvs,hsd2,hkeys,hst⟩
   rw [whosV_len,List.take_length] at hkeys hst
   refine ⟨(by show 6 ≤ sizeLine; decide),fun mo0 hmo0=>?_⟩
   have s3:=Same.new (o:=.lst [.int 0,.int 0,.int 0,.int 0,.int 0,.int 0]) hmo0
   refine ⟨Nat.zero_le _,fun ne0 hne0=>?_⟩
   have s4:=Same.new (o:=.lst []) hne0
   have s14:=s3.trans s4
   refine ⟨_,rfl,sd,kvs,_,rfl,.inl (s14 _ _ hsd2),hkeys,fun ml hml=>?_⟩
   have s5:=Same.new (o:=.lst ((whos st.members).map V.int)) hml
   refine ⟨_,rfl,ml,st.members,k,rfl,sqL_of upd_same,g.asc,h8,hk3,fun H2 sp ⟨qs,hq1,hq2⟩ s6=>?_⟩
   have s12:=(s14.trans s5).trans s6
   have hmo2:=s6 _ _ (s5 _ _ (s4 _ _ (upd_same (H:=H1) (a:=mo0) (o:=.lst [.int 0,.int 0,.int 0,.int 0,.int 0,.int 0]))))
   have hne2:=s6 _ _ (s5 _ _ (upd_same (H:=upd H1 mo0 (.lst [.int 0,.int 0,.int 0,.int 0,.int 0,.int 0])) (a:=ne0) (o:=.lst [])))
   have hH2:=(hH.same s2).same s12
   have hst2 : ∀ m ∈ st.members,StandIn D H2 kvs st m:=fun m hm=>(hst m hm).same s12
   have hsd3:=s12 _ _ hsd2
   refine ⟨sp,rfl,⟨_,sqL_of hq1⟩,for_list (K:=K) (a:=sp) (xs:=qs.map V.ref) (fun i σ H'=>∃ (mo ne : Addr) (v6 v7 : Option V),σ = [some (.ref a),some (.int (k : Nat)),some (.ref sd),v3,some (.ref mo),some (.ref ne),v6,v7] ∧ Same H2 H' ∧
     H' mo = some (.lst (needV (Vbchai.worstSet st noNeed ((Vbchai.setsTo k st.members).take i)))) ∧ H' ne = some (.lst (whosV (Vbchai.worstSet st noNeed ((Vbchai.setsTo k st.members).take i)).who)))
    ⟨mo0,ne0,none,none,rfl,Same.refl _,hmo2,hne2⟩ (fun i σ H' _ ⟨_,_,_,_,_,h,_⟩=>h.seq (sqL_of hq1)) ?_ ?_⟩
   ·rintro i y σ H3 hi ⟨mo,ne,v6,v7,rfl,s7,hmo,hne⟩
    obtain ⟨q,hq,rfl⟩:=refs_at hi
    obtain ⟨c,hc,_,hqc⟩:=hq2.get hq
    obtain ⟨hc3,hcm⟩:=setsTo_mem (List.mem_of_getElem? hc) hk3
    have hqc3:=s7 _ _ hqc
    have hH3:=hH2.same s7
    refine ⟨_,rfl,q,rfl,⟨_,sqL_of hqc3⟩,fun Dl hD=>lc_one (K:=K) (a:=q) (xs:=whosV c) (fun j H'=>Same H3 H' ∧ ∃ (us : List Addr) (ss : List (Int × List (Int × List (Int × Int)))),H' Dl = some (.lst (us.map V.ref)) ∧ All2 (fun q s=>StandAt D (fun x=>x ≠ Dl) H' q s.1 s.2) us ss ∧ All2 (fun m sd=>StandOf st.now [m] sd.1 sd.2) (c.take j) ss)
     ⟨Same.new hD,[],[],upd_same,.nil,.nil⟩ (fun j H' _ ⟨s8,_⟩=>s8.seq (sqL_of hqc3)) (fun _=>rfl) ?_ ?_⟩
    ·rintro j x H4 hj ⟨s8,us,ss,hDl,hus,hss⟩
     obtain ⟨m,hmj,rfl⟩:=whosV_at hj
     obtain ⟨u,l0,cs,ev,hsa,hso⟩:=hst2 m (hcm m (List.mem_of_getElem? hmj))
     have hsa3:=((hsa.same s7).fresh hD).same s8
     have bu : SameBut Dl H4 (upd H4 Dl (.lst (us.map V.ref ++ [V.ref u]))):=(SameBut.refl Dl H4).upd
     refine ⟨_,rfl,_,rfl,sd,_,rfl,dget (s8 _ _ (s7 _ _ hsd3)) ev,_,hDl,(by rw [List.length_map,hus.length,← hss.length,List.length_take]; exact lt_line (by omega)),fun b o e=>by rw [upd_ne (ne_of_none e hD)]; exact s8 b o e,us ++ [u],ss ++ [(l0,cs)],by rw [upd_same,List.map_append]; rfl,?_,?_⟩
     ·exact (hus.imp fun _ _ e=>e.but bu hDl fun x hx=>hx).append (.cons (hsa3.but bu hDl fun x hx=>hx) .nil)
     ·rw [take_snoc hmj]
      exact hss.append (.cons hso .nil)
    ·rintro H4 ⟨s8,us,ss,hDl,hus,hss⟩
     rw [whosV_len,List.take_length] at hss
     have hH4:=hH3.same s8
     refine ⟨_,rfl,a,D.hou,dx,_,_,rfl,hH4.obj,T.hou,T.hou_x,houF_x _ _ _ _,Dl,xp,st,c,xk,rfl,⟨us,ss,hDl,hus.imp (fun _ _ e=>e.mono fun _ _=>trivial),hss⟩,by omega,hcm,g,hH4.box,hH4.rx,fun H5 np _ hnp s9=>?_⟩
     have s39:=s8.trans s9
     refine ⟨_,rfl,np,_,_,_,rfl,rfl,sqL_of hnp,at_of (j:=0) rfl rfl,_,rfl,mo,_,_,_,rfl,rfl,sqL_of (s39 _ _ hmo),at_of (j:=0) rfl rfl,_,_,rfl,rfl,_,rfl,?_⟩
     refine ite2 (fun z=>?_) (fun z=>?_)
     ·have z:=of_decide_eq_true z
      refine ⟨_,rfl,_,rfl,np,q,_,_,rfl,s7.trans s39,?_,?_⟩
      ·rw [take_snoc hc,worstSet_snoc,if_pos z]
       exact hnp
      ·rw [take_snoc hc,worstSet_snoc,if_pos z]
       exact s39 _ _ hqc3
     ·have z : ¬ (Vbchai.worstSet st noNeed ((Vbchai.setsTo k st.members).take i)).amount < (Vbchai.uncovered st c).1:=fun q=>z (decide_eq_true q)
      refine ⟨mo,ne,_,_,rfl,s7.trans s39,?_,?_⟩
      ·rw [take_snoc hc,worstSet_snoc,if_neg z]
       exact s39 _ _ hmo
      ·rw [take_snoc hc,worstSet_snoc,if_neg z]
       exact s39 _ _ hne
   ·rintro σ H3 ⟨mo,ne,v6,v7,rfl,s7,hmo,hne⟩
    rw [List.length_map,hq2.length,List.take_length] at hmo hne
    have hW : Vbchai.worstSet st noNeed (Vbchai.setsTo k st.members) = Vbchai.fund st k:=rfl
    rw [hW] at hmo hne
    have hwl : (Vbchai.fund st k).who.length ≤ 3:=by
     rcases worst_mem (s:=st) (Vbchai.setsTo k st.members) noNeed with h | h
     ·rw [← hW,h]; exact Nat.zero_le _
     ·rw [← hW]; exact (setsTo_mem h hk3).1
    refine ⟨_,rfl,mo,_,_,_,rfl,rfl,sqL_of hmo,at_of (j:=0) rfl rfl,_,rfl,ne,_,rfl,.inl (sqL_of hne),(by show 2 ≤ sizeLine; decide),fun p1 hp1=>?_⟩
    have s8:=Same.new (o:=.lst [V.int (Vbchai.fund st k).amount,V.int ((whosV (Vbchai.fund st k).who).length : Nat)]) hp1
    refine ⟨_,rfl,p1,ne,_,_,rfl,rfl,upd_same,s8 _ _ hne,(by rw [whosV_len]; exact le_line (by show 2 + _ ≤ _; omega)),fun p2 hp2=>?_⟩
    have s9:=Same.new (o:=.lst ([V.int (Vbchai.fund st k).amount,V.int ((whosV (Vbchai.fund st k).who).length : Nat)] ++ whosV (Vbchai.fund st k).who)) hp2
    refine ⟨_,rfl,_,rfl,mo,_,rfl,sqL_of (s9 _ _ (s8 _ _ hmo)),fun p3 hp3=>?_⟩
    have s10:=Same.new (o:=.lst (cutV (needV (Vbchai.fund st k)) (some 1) none)) hp3
    have ecut : cutV (needV (Vbchai.fund st k)) (some 1) none = intsV (Vbchai.whereTold (Vbchai.fund st k).who (Vbchai.fund st k).scene):=cut_1 _ _
    refine ⟨p2,p3,_,_,rfl,rfl,s10 _ _ upd_same,upd_same,?_,fun p4 hp4=>?_⟩
    ·rw [ecut]
     unfold intsV
     rw [List.length_append,whosV_len,List.length_map,where_len]
     exact le_line (by show 2 + _ + 5 ≤ _; omega)
    ·refine kk _ p4 ((((((s2.trans s12).trans s7).trans s8).trans s9).trans s10).free hp4) ?_ (((((s2.trans s12).trans s7).trans s8).trans s9).trans (s10.trans (Same.new hp4)))
     rw [upd_same,ecut,whosV_len]
     unfold fundV Vbchai.needTold intsV whosV whos
     simp only [List.map_cons,List.map_append,List.cons_append,List.nil_append]
end
end VD
set_option maxRecDepth 100000
set_option maxHeartbeats 2000000
namespace VD
open PySem PySem.Spec PyProof.Rows L2 VM VX XL
open Vbchai (Leg Book Member Scene State Prices Box)
section
variable {P : Program} {w : World} {K : PySem.W.Frag} {mg : Str → Option Value} {base : Heap} {D : Ads}
abbrev s_House_init : Stmt:=inClass (top 34) 0
def NewHouse (D : Ads) (H H' : Hp) (a : Addr) (s : State) : Prop:=∃ dx pn mp bp xp mk bk xk,HouseAt D H' a dx pn mp bp xp mk bk xk s ∧ H mp = none ∧ H bp = none ∧ H xp = none
def spHInit (D : Ads) : Sp:=fun vs H Q _=>∃ (p dx : Addr),vs = [.ref p] ∧ H p = some (.ins D.hou dx []) ∧ ∀ H' : Hp,NewHouse D H H' p Vbchai.start → (∀ b o,H b = some o → b ≠ p → H' b = some o) → Q .non H'
theorem sc_hinit : FnScope ["self"] ["self"] (defScope s_House_init):=scm
theorem put_hou (a b c d : Addr) : putF "boxes" (.ref d) (putF "books" (.ref c) (putF "margins" (.ref b) (putF "prices_now" (.ref a) []))) = houF a b c d:=by
 have e1 : ¬ ("prices_now" : Str) = "margins":=by decide +kernel
 have e2 : ¬ ("prices_now" : Str) = "books":=by decide +kernel
 have e3 : ¬ ("prices_now" : Str) = "boxes":=by decide +kernel
 have e4 : ¬ ("margins" : Str) = "books":=by decide +kernel
 have e5 : ¬ ("margins" : Str) = "boxes":=by decide +kernel
 have e6 : ¬ ("books" : Str) = "boxes":=by decide +kernel
 simp only [putF,if_neg e1,if_neg e2,if_neg e3,if_neg e4,if_neg e5,if_neg e6]
 rfl
theorem put_now (a b c d e : Addr) : putF "prices_now" (.ref e) (houF a b c d) = houF e b c d:=by
 simp only [houF,putF]
 rfl
theorem put_mar (a b c d e : Addr) : putF "margins" (.ref e) (houF a b c d) = houF a e c d:=by
 have e1 : ¬ ("prices_now" : Str) = "margins":=by decide +kernel
 simp only [houF,putF,if_neg e1]
 rfl
theorem put_bok (a b c d e : Addr) : putF "books" (.ref e) (houF a b c d) = houF a b e d:=by
 have e2 : ¬ ("prices_now" : Str) = "books":=by decide +kernel
 have e4 : ¬ ("margins" : Str) = "books":=by decide +kernel
 simp only [houF,putF,if_neg e2,if_neg e4]
 rfl
theorem put_box (a b c d e : Addr) : putF "boxes" (.ref e) (houF a b c d) = houF a b c e:=by
 have e3 : ¬ ("prices_now" : Str) = "boxes":=by decide +kernel
 have e5 : ¬ ("margins" : Str) = "boxes":=by decide +kernel
 have e6 : ¬ ("books" : Str) = "boxes":=by decide +kernel
 simp only [houF,putF,if_neg e3,if_neg e5,if_neg e6]
 rfl
theorem ok_hinit (F : FunI K mg D.hou "House" "House.__init__" s_House_init) (T : Txt K mg D) : CalC P w K mg base 1 D.hou "House" ["self"] (spHInit D):=by
 obtain ⟨f,fd,F,M,hm⟩:=F
 refine ⟨f,fd,F.ok sc_hinit (fun vs H Q E h=>?_) (fun cdv A outer s H vs Q E hr h=>?_),M,hm,F.binds fun _ _ _ _ _ _ us hl=>match us,hl with | [_],_=>rfl⟩
 ·obtain ⟨p,dx,rfl,_⟩:=h
  rfl
 ·obtain ⟨p,dx,rfl,hp,k⟩:=h
  refine ⟨_,pss_cons (ps_fld (pv 0) (pe_lst (pa_cons (pe_int) (pa_cons (pe_int) (pa_cons (pe_int) (pa_cons (pe_int) (pa_nil)))))) rfl) (pss_cons (ps_fld (pv 0) pe_dnewK rfl) (pss_cons (ps_fld (pv 0) pe_dnewK rfl) (pss_one (ps_fld (pv 0) pe_dnewK rfl)))),?_⟩
  refine ⟨(by show 4 ≤ sizeLine; decide),fun pn hpn=>?_⟩
  have s1:=Same.new (o:=.lst [.int 0,.int 0,.int 0,.int 0]) hpn
  have np : pn ≠ p:=(ne_of_none hp hpn).symm
  refine ⟨_,rfl,p,D.hou,dx,_,rfl,s1 _ _ hp,T.hou,T.hou_p,(by show 0 < 1000; decide),?_⟩
  refine fun mp hmp=>?_
  have nmp : mp ≠ p:=(ne_of_none upd_same hmp).symm
  rw [upd_ne nmp] at hmp
  have nmpn : mp ≠ pn:=(ne_of_none upd_same hmp).symm
  have hmp0 : H mp = none:=by rw [upd_ne nmpn] at hmp; exact hmp
  refine ⟨_,rfl,p,D.hou,dx,_,rfl,by rw [upd_ne nmp.symm]; exact upd_same,T.hou,T.hou_m,lp1,?_⟩
  refine fun bp hbp=>?_
  have nbp : bp ≠ p:=(ne_of_none upd_same hbp).symm
  rw [upd_ne nbp] at hbp
  have nbm : bp ≠ mp:=(ne_of_none upd_same hbp).symm
  rw [upd_ne nbm,upd_ne nbp] at hbp
  have nbpn : bp ≠ pn:=(ne_of_none upd_same hbp).symm
  have hbp0 : H bp = none:=by rw [upd_ne nbpn] at hbp; exact hbp
  refine ⟨_,rfl,p,D.hou,dx,_,rfl,by rw [upd_ne nbp.symm]; exact upd_same,T.hou,T.hou_b,lp2,?_⟩
  refine fun xp hxp=>?_
  have nxp : xp ≠ p:=(ne_of_none upd_same hxp).symm
  rw [upd_ne nxp] at hxp
  have nxb : xp ≠ bp:=(ne_of_none upd_same hxp).symm
  rw [upd_ne nxb,upd_ne nxp] at hxp
  have nxm : xp ≠ mp:=(ne_of_none upd_same hxp).symm
  rw [upd_ne nxm,upd_ne nxp] at hxp
  have nxpn : xp ≠ pn:=(ne_of_none upd_same hxp).symm
  have hxp0 : H xp = none:=by rw [upd_ne nxpn] at hxp; exact hxp
  refine ⟨_,rfl,p,D.hou,dx,_,rfl,by rw [upd_ne nxp.symm]; exact upd_same,T.hou,T.hou_x,lp3,?_⟩
  rw [put_hou]
  refine k _ ⟨dx,pn,mp,bp,xp,[],[],[],⟨upd_same,?_,?_,?_,?_,nbm.symm,nxm.symm,nxb.symm,DRel.nil,DRel.nil,DRel.nil⟩,hmp0,hbp0,hxp0⟩ fun b o e hb=>?_
  ·rw [upd_ne np,upd_ne nxpn.symm,upd_ne np,upd_ne nbpn.symm,upd_ne np,upd_ne nmpn.symm,upd_ne np,upd_same]
   rfl
  ·rw [upd_ne nmp,upd_ne nxm.symm,upd_ne nmp,upd_ne nbm.symm,upd_ne nmp,upd_same]
  ·rw [upd_ne nbp,upd_ne nxb.symm,upd_ne nbp,upd_same]
  ·rw [upd_ne nxp,upd_same]
  ·rw [upd_ne hb,upd_ne (ne_of_none e hxp0),upd_ne hb,upd_ne (ne_of_none e hbp0),upd_ne hb,upd_ne (ne_of_none e hmp0),upd_ne hb,upd_ne (ne_of_none e hpn)]
   exact e
abbrev s_copy_of : Stmt:=top 35
def spCopy (D : Ads) : Sp:=fun vs H Q _=>∃ (a : Addr) (s : State),vs = [.ref a] ∧ HouAt D H a s ∧ ∀ H' p,NewHouse D H H' p s → H p = none → Same H H' → Q (.ref p) H'
theorem sc_copy : FnScope ["house","other"] ["house"] (defScope s_copy_of):=scm
theorem ok_copy (F : FunG K mg "copy_of" s_copy_of) (T : Txt K mg D) (cH : CalC P w K mg base 1 D.hou "House" ["self"] (spHInit D)) : Cal P w K mg base CX0 3 "copy_of" ["house"] (spCopy D):=by
 obtain ⟨f,fd,F,hm⟩:=F
 refine ⟨f,fd,F.ok sc_copy (fun vs H Q E h=>?_) (fun cdv A outer s H vs Q E hr h=>?_),hm,F.kp,F.binds fun _ _ _ _ _ _ us hl=>match us,hl with | [_],_=>rfl⟩
 ·obtain ⟨a,s,rfl,_⟩:=h
  rfl
 ·obtain ⟨a,st,rfl,⟨dx,pn,mp,bp,xp,mk,bk,xk,hH⟩,k⟩:=h
  refine ⟨_,pss_cons (ps_set (i:=1) sc_copy.nd rfl (Or.inl rfl) (pe_calC0 cH hr rfl)) (pss_cons (ps_fld (pv 1) (pe_fld (pv 0) rfl) rfl) (pss_cons (ps_fld (pv 1) (pe_callTy cr_dictD (by rfl) T.bDict PyProof.Rows.boot_dict (pa_cons (pe_fld (pv 0) rfl) (pa_nil))) rfl) (pss_cons (ps_fld (pv 1) (pe_callTy cr_dictD (by rfl) T.bDict PyProof.Rows.boot_dict (pa_cons (pe_fld (pv 0) rfl) (pa_nil))) rfl) (pss_cons (ps_fld (pv 1) (pe_callTy cr_dictD (by rfl) T.bDict PyProof.Rows.boot_dict (pa_cons (pe_fld (pv 0) rfl) (pa_nil))) rfl) (pss_one (ps_ret (pv 1))))))),?_⟩
  refine fun x d n1 n2 n3=>⟨x,d,rfl,upd_same,fun H1 ⟨dx1,pn1,mp1,bp1,xp1,mk1,bk1,xk1,h1,_⟩ e2=>⟨rfl,?_⟩⟩
  have s1 : Same H H1:=Same.made n1 n2 e2
  have nx : ∀ b o,H b = some o → b ≠ x:=fun b o e=>ne_of_none e n1
  have g1:=hH.same s1
  have sx : ∀ {H' : Hp} {o : HO},Same H H' → Same H (upd H' x o):=fun s b o e=>by rw [upd_ne (nx b o e)]; exact s b o e
  refine ⟨_,rfl,a,D.hou,dx,_,_,rfl,g1.obj,T.hou,T.hou_p,houF_p _ _ _ _,_,rfl,x,D.hou,dx1,_,rfl,h1.obj,T.hou,T.hou_p,(by show 4 < 1000; decide),?_⟩
  rw [put_now]
  have s2:=sx (o:=.ins D.hou dx1 (houF pn mp1 bp1 xp1)) s1
  have g2:=hH.same s2
  refine ⟨_,rfl,a,D.hou,dx,_,_,rfl,g2.obj,T.hou,T.hou_m,houF_m _ _ _ _,mp,mk,rfl,.inl g2.mar,fun m2 hm2=>?_⟩
  have nm2 : m2 ≠ x:=(ne_of_none upd_same hm2).symm
  have s3 : Same H (upd (upd H1 x (.ins D.hou dx1 (houF pn mp1 bp1 xp1))) m2 (.dK mk)):=s2.trans (Same.new hm2)
  refine ⟨_,rfl,x,D.hou,dx1,_,rfl,by rw [upd_ne nm2.symm]; exact upd_same,T.hou,T.hou_m,(by show 4 < 1000; decide),?_⟩
  rw [put_mar]
  have s4:=sx (o:=.ins D.hou dx1 (houF pn m2 bp1 xp1)) s3
  have hmm : (upd (upd (upd H1 x (.ins D.hou dx1 (houF pn mp1 bp1 xp1))) m2 (.dK mk)) x (.ins D.hou dx1 (houF pn m2 bp1 xp1))) m2 = some (.dK mk):=by rw [upd_ne nm2,upd_same]
  have hobj4 : (upd (upd (upd H1 x (.ins D.hou dx1 (houF pn mp1 bp1 xp1))) m2 (.dK mk)) x (.ins D.hou dx1 (houF pn m2 bp1 xp1))) x = some (.ins D.hou dx1 (houF pn m2 bp1 xp1)):=upd_same
  have fm2 : H m2 = none:=s2.free hm2
  generalize upd (upd (upd H1 x (.ins D.hou dx1 (houF pn mp1 bp1 xp1))) m2 (.dK mk)) x (.ins D.hou dx1 (houF pn m2 bp1 xp1)) = H4 at s4 hmm hobj4
  have g4:=hH.same s4
  refine ⟨_,rfl,a,D.hou,dx,_,_,rfl,g4.obj,T.hou,T.hou_b,houF_b _ _ _ _,bp,bk,rfl,.inl g4.bok,fun b2 hb2=>?_⟩
  have nb2 : b2 ≠ x:=(ne_of_none hobj4 hb2).symm
  have nbm : b2 ≠ m2:=(ne_of_none hmm hb2).symm
  have s5 : Same H (upd H4 b2 (.dK bk)):=s4.trans (Same.new hb2)
  refine ⟨_,rfl,x,D.hou,dx1,_,rfl,by rw [upd_ne nb2.symm]; exact hobj4,T.hou,T.hou_b,(by show 4 < 1000; decide),?_⟩
  rw [put_bok]
  have s6:=sx (o:=.ins D.hou dx1 (houF pn m2 b2 xp1)) s5
  have hmm6 : (upd (upd H4 b2 (.dK bk)) x (.ins D.hou dx1 (houF pn m2 b2 xp1))) m2 = some (.dK mk):=by rw [upd_ne nm2,upd_ne nbm.symm]; exact hmm
  have hbb6 : (upd (upd H4 b2 (.dK bk)) x (.ins D.hou dx1 (houF pn m2 b2 xp1))) b2 = some (.dK bk):=by rw [upd_ne nb2,upd_same]
  have hobj6 : (upd (upd H4 b2 (.dK bk)) x (.ins D.hou dx1 (houF pn m2 b2 xp1))) x = some (.ins D.hou dx1 (houF pn m2 b2 xp1)):=upd_same
  have fb2 : H b2 = none:=s4.free hb2
  generalize upd (upd H4 b2 (.dK bk)) x (.ins D.hou dx1 (houF pn m2 b2 xp1)) = H6 at s6 hmm6 hbb6 hobj6
  have g6:=hH.same s6
  refine ⟨_,rfl,a,D.hou,dx,_,_,rfl,g6.obj,T.hou,T.hou_x,houF_x _ _ _ _,xp,xk,rfl,.inl g6.box,fun x2 hx2=>?_⟩
  have nx2 : x2 ≠ x:=(ne_of_none hobj6 hx2).symm
  have nxm : x2 ≠ m2:=(ne_of_none hmm6 hx2).symm
  have nxb : x2 ≠ b2:=(ne_of_none hbb6 hx2).symm
  have s7 : Same H (upd H6 x2 (.dK xk)):=s6.trans (Same.new hx2)
  refine ⟨_,rfl,x,D.hou,dx1,_,rfl,by rw [upd_ne nx2.symm]; exact hobj6,T.hou,T.hou_x,(by show 4 < 1000; decide),?_⟩
  rw [put_box]
  have s8:=sx (o:=.ins D.hou dx1 (houF pn m2 b2 x2)) s7
  have g8:=hH.same s8
  refine ⟨_,rfl,?_⟩
  refine k _ x ⟨dx1,pn,m2,b2,x2,mk,bk,xk,⟨upd_same,g8.now,?_,?_,?_,nbm.symm,nxm.symm,nxb.symm,g8.rm,g8.rb,g8.rx⟩,fm2,fb2,s6.free hx2⟩ n1 s8
  ·rw [upd_ne nm2,upd_ne nxm.symm]; exact hmm6
  ·rw [upd_ne nb2,upd_ne nxb.symm]; exact hbb6
  ·rw [upd_ne nx2,upd_same]
abbrev s_are_prices : Stmt:=top 36
def spPrices : Sp:=fun vs H Q _=>∃ (rp : Addr) (row : List Int) (n : Nat),vs = [.ref rp,.int (n : Nat)] ∧ H rp = some (.lst (intsV row)) ∧ row.length ≤ 10000 ∧ ∀ H',Same H H' → Q (.bl (decide (row.length = n) && row.all Vbchai.isPrice)) H'
theorem sc_prices : FnScope ["row","how_many","price"] ["row","how_many"] (defScope s_are_prices):=scm
theorem intsV_at {l : List Int} {i : Nat} {x : V} (h : (intsV l)[i]? = some x) : ∃ n,l[i]? = some n ∧ x = .int n:=by
 unfold intsV at h
 rw [List.getElem?_map] at h
 cases e : l[i]? with
 | none=>rw [e] at h; cases h
 | some n=>rw [e] at h; exact ⟨n,rfl,(Option.some.inj h).symm⟩
theorem intsV_len (l : List Int) : (intsV l).length = l.length:=by unfold intsV; rw [List.length_map]
theorem all_map_id {α : Type} (f : α → Bool) (l : List α) : (l.map f).all id = l.all f:=by rw [List.all_map]; rfl
theorem ok_prices (F : FunG K mg "are_prices" s_are_prices) (T : Txt K mg D) : Cal P w K mg base CX0 1 "are_prices" ["row","how_many"] spPrices:=by
 obtain ⟨f,fd,F,hm⟩:=F
 refine ⟨f,fd,F.ok sc_prices (fun vs H Q E h=>?_) (fun cdv A outer s H vs Q E hr h=>?_),hm,F.kp,F.binds fun _ _ _ _ _ _ us hl=>match us,hl with | [_,_],_=>rfl⟩
 ·obtain ⟨rp,row,n,rfl,_⟩:=h
  rfl
 ·obtain ⟨rp,row,n,rfl,hrp,hlen,k⟩:=h
  refine ⟨_,pss_one (ps_ret (pe_and (pe_cmpR op_eq (pe_callB call_len_seq (by rfl) T.bLen PySem.boot_len (pa_cons (pv 0) (pa_nil))) (pv 1) (nomark _)) (pe_one (pe_callB (cr_all rfl) (by rfl) T.bAll boot_all (pa_cons (pe_lc rfl sc_prices.nd (pi_list (pv 0)) (blkOk_by (own:=[("price",2)]) (by rfl)) (fun _ _ _ _ _=>pg_name (i:=2) sc_prices.nd rfl (Or.inl rfl)) (fun _ _ _ _ _=>pts_nil) (fun _ _ _ _ _=>pe_chain op_le op_le (pe_int) (pv 2) (pe_gv rfl T.MOST_PRICE))) (pa_nil)))))),?_⟩
  refine ⟨_,rfl,rp,_,rfl,.inl (sqL_of hrp),_,rfl,rfl,_,rfl,?_⟩
  rw [dec_int_eq,intsV_len]
  by_cases hn : row.length = n
  ·rw [decide_eq_true hn] at k
   rw [decide_eq_true (show ((row.length : Nat) : Int) = ((n : Nat) : Int) by omega)]
   refine iteT ?_
   refine ⟨_,rfl,rp,rfl,⟨_,sqL_of hrp⟩,fun Dl hD=>lc_one (K:=K) (a:=rp) (xs:=intsV row) (fun i H'=>Same H H' ∧ H' Dl = some (.lst (((row.take i).map Vbchai.isPrice).map V.bl))) ⟨Same.new hD,upd_same⟩ (fun i H' _ ⟨s1,_⟩=>s1.seq (sqL_of hrp)) (fun _=>rfl) ?_ ?_⟩
   ·rintro i x H' hi ⟨s1,hDl⟩
    obtain ⟨p,hp,rfl⟩:=intsV_at hi
    have fin : ∀ b,Vbchai.isPrice p = b → ∃ acc,H' Dl = some (.lst acc) ∧ acc.length < sizeLine ∧ (Same H (upd H' Dl (.lst (acc ++ [V.bl b]))) ∧ (upd H' Dl (.lst (acc ++ [V.bl b]))) Dl = some (.lst (((row.take (i + 1)).map Vbchai.isPrice).map V.bl))):=fun b hb=>by
     refine ⟨_,hDl,(by rw [List.length_map,List.length_map,List.length_take]; exact lt_line (by omega)),fun c o e=>by rw [upd_ne (ne_of_none e hD)]; exact s1 c o e,?_⟩
     rw [upd_same,take_snoc hp,List.map_append,List.map_append,← hb]
     rfl
    refine ⟨_,rfl,_,_,rfl,rfl,_,rfl,?_⟩
    refine ite2 (fun z=>?_) (fun z=>?_)
    ·have z:=of_decide_eq_true z
     refine ⟨_,_,rfl,rfl,?_⟩
     refine fin _ ?_
     unfold Vbchai.isPrice Vbchai.within
     rw [decide_eq_true (show (((0 : Nat) : Int)) ≤ p from z),Bool.true_and]
     rfl
    ·have z : ¬ (0 : Int) ≤ p:=fun q=>z (decide_eq_true q)
     refine fin _ ?_
     unfold Vbchai.isPrice Vbchai.within
     rw [decide_eq_false (show ¬ (((0 : Nat) : Int)) ≤ p from z),Bool.false_and]
   ·rintro H' ⟨s1,hDl⟩
    rw [intsV_len,List.take_length] at hDl
    refine ⟨Dl,_,rfl,sqL_of hDl,?_⟩
    rw [all_map_id]
    exact k H' s1
  ·rw [decide_eq_false hn] at k
   rw [decide_eq_false (show ¬ ((row.length : Nat) : Int) = ((n : Nat) : Int) by omega)]
   exact iteF (k H (Same.refl H))
theorem lc_rangeC {lo c : Int} {n j : Nat} {te : TE} {vs : List Nat} {σ : L2.St} {H1 : Hp} {D : Addr} {Qd : Hp → Prop} (Pv : Nat → Hp → Prop) (h0 : Pv 0 (upd H1 D (.lst [])))
  (hw : ∀ x,wipe ((wipe σ vs).set j (some x)) vs = wipe σ vs)
  (hs : ∀ i H,i < n → Pv i H → te ((wipe σ vs).set j (some (.int (lo + (i : Nat) * c)))) H fun y H4=>∃ acc,H4 D = some (.lst acc) ∧ acc.length < sizeLine ∧ Pv (i + 1) (upd H4 D (.lst (acc ++ [y])))) (hd : ∀ H,Pv n H → Qd H) :
  ∃ W : Nat → Nat → Hp → Prop,(∃ m,W 0 m (upd H1 D (.lst []))) ∧ ∀ i m H,W i m H →
   ((Itc lo c n).stop i H ∧ Qd H) ∨ ((Itc lo c n).go i H ∧ ∃ Nx : Hp → Prop,(∀ H',Nx H' → ∃ m',m' < m ∧ W (i + 1) m' H') ∧ ∀ z H',(Itc lo c n).yld i H z H' → gName j z (wipe σ vs) H' fun σ2 H2=>wipe σ2 vs = wipe σ vs ∧ tYes σ2 H2 fun b H3 =>
    if b = true then te σ2 H3 fun y H4=>∃ acc,H4 D = some (.lst acc) ∧ acc.length < sizeLine ∧ Nx (upd H4 D (.lst (acc ++ [y]))) else Nx H3):=by
 refine ⟨fun i m H=>m = n - i ∧ i ≤ n ∧ Pv i H,⟨n,by simp,Nat.zero_le _,h0⟩,?_⟩
 rintro i m H ⟨rfl,hi,p⟩
 by_cases hlt : i < n
 ·refine .inr ⟨hlt,Pv (i + 1),fun H' p'=>⟨n - (i + 1),by omega,rfl,hlt,p'⟩,fun z H' y=>?_⟩
  obtain ⟨rfl,rfl⟩:=y
  exact ⟨hw _,by unfold tYes; exact iteT (hs i _ hlt p)⟩
 ·have e : i = n:=by omega
  subst e
  exact .inl ⟨Nat.le_refl _,hd H p⟩
abbrev s_is_box : Stmt:=top 37
def spIsBox : Sp:=fun vs H Q _=>∃ (rp : Addr) (row : List Int),vs = [.ref rp] ∧ H rp = some (.lst (intsV row)) ∧ row.length ≤ 10000 ∧ ∀ H',Same H H' → Q (.bl (Vbchai.boxOf row).isSome) H'
theorem sc_isbox : FnScope ["row","at"] ["row"] (defScope s_is_box):=scm
theorem box_none {row : List Int} (h : ¬ (row.length = 8 ∧ row.all Vbchai.isPrice = true)) : (Vbchai.boxOf row).isSome = false:=by
 unfold Vbchai.boxOf
 split
 ·rename_i a b c d e f g hh
  split
  ·rename_i hc
   rw [Bool.and_eq_true] at hc
   exact absurd ⟨rfl,hc.1⟩ h
  ·rfl
 ·rfl
theorem box_some {row : List Int} (h8 : row.length = 8) (hp : row.all Vbchai.isPrice = true) : (Vbchai.boxOf row).isSome = ((List.range 4).map fun i=>decide (row.getD (2 * i) 0 ≤ row.getD (2 * i + 1) 0)).all id:=by
 match row,h8 with
 | [a,b,c,d,e,f,g,h],_ =>
  show (if ([a,b,c,d,e,f,g,h].all Vbchai.isPrice && (decide (a ≤ b) && (decide (c ≤ d) && (decide (e ≤ f) && decide (g ≤ h))))) = true then some [(a.toNat,b.toNat),(c.toNat,d.toNat),(e.toNat,f.toNat),(g.toNat,h.toNat)] else none).isSome = (decide (a ≤ b) && (decide (c ≤ d) && (decide (e ≤ f) && (decide (g ≤ h) && true))))
  rw [hp,Bool.true_and,Bool.and_true]
  split
  ·rename_i z; rw [z]; rfl
  ·rename_i z
   cases q : (decide (a ≤ b) && (decide (c ≤ d) && (decide (e ≤ f) && decide (g ≤ h)))) with
   | false=>rfl
   | true=>exact absurd q z
theorem ok_isbox (F : FunG K mg "is_box" s_is_box) (T : Txt K mg D) (cP : Cal P w K mg base CX0 1 "are_prices" ["row","how_many"] spPrices) : Cal P w K mg base CX0 2 "is_box" ["row"] spIsBox:=by
 obtain ⟨f,fd,F,hm⟩:=F
 refine ⟨f,fd,F.ok sc_isbox (fun vs H Q E h=>?_) (fun cdv A outer s H vs Q E hr h=>?_),hm,F.kp,F.binds fun _ _ _ _ _ _ us hl=>match us,hl with | [_],_=>rfl⟩
 ·obtain ⟨rp,row,rfl,_⟩:=h
  rfl
 ·obtain ⟨rp,row,rfl,hrp,hlen,k⟩:=h
  refine ⟨_,pss_one (ps_ret (pe_and (pe_cal cP hr rfl pass0 (pa_cons (pv 0) (pa_cons (pe_int) (pa_nil)))) (pe_one (pe_callB (cr_all rfl) (by rfl) T.bAll boot_all (pa_cons (pe_lc rfl sc_isbox.nd (pi_range3 rfl T.bRange (pa_cons (pe_int) (pa_cons (pe_int) (pa_cons (pe_int) (pa_nil))))) (blkOk_by (own:=[("at",1)]) (by rfl)) (fun _ _ _ _ _=>pg_name (i:=1) sc_isbox.nd rfl (Or.inl rfl)) (fun _ _ _ _ _=>pts_nil) (fun _ _ _ _ _=>pe_cmpR op_le (pe_ix (ix_listK (K:=K) rfl) (pv 0) (pv 1) (fun _ _=>rfl)) (pe_ix (ix_listK (K:=K) rfl) (pv 0) (pe_op op_add (pv 1) pe_int) (fun _ _=>rfl)) (nomark _))) (pa_nil)))))),?_⟩
  refine ⟨_,rfl,rp,row,8,rfl,hrp,hlen,fun H1 s1=>⟨_,rfl,?_⟩⟩
  by_cases hb : row.length = 8 ∧ row.all Vbchai.isPrice = true
  ·rw [hb.2,decide_eq_true hb.1]
   refine iteT ?_
   rw [box_some hb.1 hb.2] at k
   refine ⟨0,8,2,4,rfl,⟨by decide,by decide,by decide,by decide⟩,fun Dl hD=>lc_rangeC (lo:=0) (c:=2) (n:=4) (fun i H'=>Same H1 H' ∧ H' Dl = some (.lst (((List.range i).map fun i=>decide (row.getD (2 * i) 0 ≤ row.getD (2 * i + 1) 0)).map V.bl))) ⟨Same.new hD,upd_same⟩ (fun _=>rfl) ?_ ?_⟩
   ·rintro i H' hi ⟨s2,hDl⟩
    have a1 : row[2 * i]? = some (row.getD (2 * i) 0):=by rw [List.getD_eq_getElem?_getD,List.getElem?_eq_getElem (by omega)]; rfl
    have a2 : row[2 * i + 1]? = some (row.getD (2 * i + 1) 0):=by rw [List.getD_eq_getElem?_getD,List.getElem?_eq_getElem (by omega)]; rfl
    have hr':=sqL_of (K:=K) (s2 _ _ (s1 _ _ hrp))
    refine ⟨_,rfl,_,rfl,rp,_,_,_,rfl,rfl,hr',at_of (j:=2 * i) (by show (0 : Int) + (i : Nat) * 2 = _; omega) (by unfold intsV; rw [List.getElem?_map,a1]; rfl),_,rfl,_,rfl,_,_,rfl,rfl,rp,_,_,_,rfl,rfl,hr',at_of (j:=2 * i + 1) (by show (0 : Int) + (i : Nat) * 2 + 1 = _; omega) (by unfold intsV; rw [List.getElem?_map,a2]; rfl),_,_,rfl,rfl,_,hDl,?_,?_,?_⟩
    ·rw [List.length_map,List.length_map,List.length_range]; exact lt_line (by omega)
    ·exact fun c o e=>by rw [upd_ne (ne_of_none e hD)]; exact s2 c o e
    ·rw [upd_same,range_map,List.map_append]
     rfl
   ·rintro H' ⟨s2,hDl⟩
    exact ⟨Dl,_,rfl,sqL_of hDl,k H' (s1.trans s2)⟩
  ·rw [box_none hb] at k
   have : (decide (row.length = 8) && row.all Vbchai.isPrice) = false:=by
    cases q : (decide (row.length = 8) && row.all Vbchai.isPrice) with
    | false=>rfl
    | true =>
     rw [Bool.and_eq_true] at q
     exact absurd ⟨of_decide_eq_true q.1,q.2⟩ hb
   rw [this]
   exact iteF (k H1 s1)
abbrev s_is_margin : Stmt:=top 38
def spMargin : Sp:=fun vs H Q _=>∃ n : Int,vs = [.int n] ∧ Q (.bl (Vbchai.within n 0 Vbchai.CASH)) H
theorem sc_ismar : FnScope ["number"] ["number"] (defScope s_is_margin):=scm
theorem ok_ismar (F : FunG K mg "is_margin" s_is_margin) (T : Txt K mg D) : Cal P w K mg base CX0 1 "is_margin" ["number"] spMargin:=by
 obtain ⟨f,fd,F,hm⟩:=F
 refine ⟨f,fd,F.ok sc_ismar (fun vs H Q E h=>?_) (fun cdv A outer s H vs Q E hr h=>?_),hm,F.kp,F.binds fun _ _ _ _ _ _ us hl=>match us,hl with | [_],_=>rfl⟩
 ·obtain ⟨n,rfl,_⟩:=h
  rfl
 ·obtain ⟨n,rfl,k⟩:=h
  refine ⟨_,pss_one (ps_ret (pe_chain op_le op_le (pe_int) (pv 0) (pe_gv rfl T.MOST_MARGIN))),?_⟩
  unfold Vbchai.within at k
  refine ⟨_,rfl,_,_,rfl,rfl,_,rfl,?_⟩
  refine ite2 (fun z=>?_) (fun z=>?_)
  ·have z:=of_decide_eq_true z
   rw [decide_eq_true (show (((0 : Nat) : Int)) ≤ n from z),Bool.true_and] at k
   exact ⟨_,_,rfl,rfl,k⟩
  ·have z : ¬ (0 : Int) ≤ n:=fun q=>z (decide_eq_true q)
   rw [decide_eq_false (show ¬ (((0 : Nat) : Int)) ≤ n from z),Bool.false_and] at k
   exact k
end
end VD
set_option maxRecDepth 100000
set_option maxHeartbeats 2000000
namespace VD
open PySem PySem.Spec PyProof.Rows L2 VM VX XL
open Vbchai (Leg Book Member Scene State Prices Box)
def SameH (a mp bp xp : Addr) (H H' : Hp) : Prop:=∀ b o,H b = some o → b ≠ a → b ≠ mp → b ≠ bp → b ≠ xp → H' b = some o
structure HN (N : Addr → Prop) (pn : Addr) (bk xk : List (Key × V)) : Prop where
 now : N pn
 bok : ∀ kv ∈ bk,∀ q,kv.2 = .ref q → N q
 box : ∀ kv ∈ xk,∀ q,kv.2 = .ref q → N q
def Outs (D : Ads) (H : Hp) (a dx pn mp bp xp : Addr) (bk xk : List (Key × V)) (rs : List Addr) (Q : VK) (r : State × List Int) : Prop:=∀ H' pn' mk' bk' xk' p,HouseAt D H' a dx pn' mp bp xp mk' bk' xk' r.1 → Good r.1 → H p = none → H' p = some (.lst (intsV r.2)) → SameH a mp bp xp H H' →
 (∀ N : Addr → Prop,(∀ x,H x = none → N x) → (∀ x ∈ rs,N x) → HN N pn bk xk → HN N pn' bk' xk') → Q (.ref p) H'
theorem mem_putKv {kvs : List (Key × V)} {k : Key} {v : V} {kv : Key × V} (h : kv ∈ putK kvs k v) : kv.2 = v ∨ kv ∈ kvs:=by
 unfold putK at h
 split at h
 ·obtain ⟨x,hx,rfl⟩:=List.mem_map.mp h
  by_cases e : x.1 = k
  ·left; rw [if_pos e]
  ·right; rw [if_neg e]; exact hx
 ·rcases List.mem_append.mp h with h | h
  ·exact .inr h
  ·rw [List.mem_singleton] at h; subst h; exact .inl rfl
theorem HN.putB {N : Addr → Prop} {pn : Addr} {bk xk : List (Key × V)} {k : Key} {q : Addr} (h : HN N pn bk xk) (n : N q) : HN N pn (putK bk k (.ref q)) xk :=
 ⟨h.now,fun kv hk z e=>by
  rcases mem_putKv hk with e2 | e2
  ·rw [e2] at e; cases e; exact n
  ·exact h.bok kv e2 z e,h.box⟩
theorem HN.putX {N : Addr → Prop} {pn : Addr} {bk xk : List (Key × V)} {k : Key} {q : Addr} (h : HN N pn bk xk) (n : N q) : HN N pn bk (putK xk k (.ref q)) :=
 ⟨h.now,h.bok,fun kv hk z e=>by
  rcases mem_putKv hk with e2 | e2
  ·rw [e2] at e; cases e; exact n
  ·exact h.box kv e2 z e⟩
theorem HN.dropB {N : Addr → Prop} {pn : Addr} {bk xk : List (Key × V)} {k : Key} (h : HN N pn bk xk) : HN N pn (dropK bk k) xk:=⟨h.now,fun kv hk=>h.bok kv (List.mem_filter.mp hk).1,h.box⟩
theorem HN.dropX {N : Addr → Prop} {pn : Addr} {bk xk : List (Key × V)} {k : Key} (h : HN N pn bk xk) : HN N pn bk (dropK xk k):=⟨h.now,h.bok,fun kv hk=>h.box kv (List.mem_filter.mp hk).1⟩
section
variable {D : Ads} {H H' H1 : Hp} {a dx pn mp bp xp : Addr} {mk bk xk : List (Key × V)} {s : State} {l : List Int} {Q : VK}
theorem Outs.stay {p : Addr} {rs : List Addr} (k : Outs D H a dx pn mp bp xp bk xk rs Q (s,l)) (hH : HouseAt D H a dx pn mp bp xp mk bk xk s) (g : Good s) (s1 : Same H H1) (hp : H1 p = none) : Q (.ref p) (upd H1 p (.lst (intsV l))) :=
 k _ pn mk bk xk p ((hH.same s1).same (Same.new hp)) g (s1.free hp) upd_same (fun b o e _ _ _ _=>(s1.trans (Same.new hp)) b o e) fun _ _ _ h=>h
def KeepH (a : Addr) (H H' : Hp) : Prop:=∀ b o,H b = some o → b ≠ a → (∀ kvs,o ≠ .dK kvs) → H' b = some o
theorem hou_ne_leg {d1 d2 : Addr} {b : Addr} {lg : Leg} (h1 : H b = some (.ins D.leg d1 (legF lg))) (h2 : H a = some (.ins D.hou d2 (houF pn mp bp xp))) : b ≠ a:=ne_of h1 h2 (by
 intro z
 injection z with _ _ hf
 have h3:=(List.cons.inj hf).1
 have h4 : ("kind" : Str) = "prices_now":=(Prod.mk.inj h3).1
 exact absurd h4 (by decide +kernel))
theorem bok_keep {m : Member} {v : V} (h : bokR D H m v) (e : KeepH a H H') (ha : H a = some (.ins D.hou dx (houF pn mp bp xp))) : bokR D H' m v:=by
 obtain ⟨q,rfl,ps,h1,h2⟩:=h
 refine ⟨q,rfl,ps,e _ _ h1 (ne_of h1 ha (by intro z; cases z)) (fun _ z=>by cases z),h2.imp fun b lg ⟨d,x⟩=>⟨d,e _ _ x (hou_ne_leg x ha) (fun _ z=>by cases z)⟩⟩
theorem book_keep {q : Addr} {b : Book} (h : BookAt D H q b) (e : KeepH a H H') (ha : H a = some (.ins D.hou dx (houF pn mp bp xp))) : BookAt D H' q b:=by
 obtain ⟨ps,h1,h2⟩:=h
 exact ⟨ps,e _ _ h1 (ne_of h1 ha (by intro z; cases z)) (fun _ z=>by cases z),h2.imp fun b lg ⟨d,x⟩=>⟨d,e _ _ x (hou_ne_leg x ha) (fun _ z=>by cases z)⟩⟩
theorem box_keep {m : Scene} {v : V} (h : boxR H m v) (e : KeepH a H H') (ha : H a = some (.ins D.hou dx (houF pn mp bp xp))) : boxR H' m v:=by
 obtain ⟨q,rfl,h1⟩:=h
 exact ⟨q,rfl,e _ _ h1 (ne_of h1 ha (by intro z; cases z)) (fun _ z=>by cases z)⟩
theorem dict_ne_obj {kvs : List (Key × V)} {d : Addr} (h : H d = some (.dK kvs)) (ha : H a = some (.ins D.hou dx (houF pn mp bp xp))) : d ≠ a:=ne_of h ha (by intro z; cases z)
theorem keep_put {d : Addr} {kvs kvs' : List (Key × V)} (hd : H d = some (.dK kvs)) : KeepH a H (upd H d (.dK kvs')):=fun b o e _ n=>by
 rw [upd_ne (fun z=>by rw [z,hd] at e; cases e; exact n _ rfl)]; exact e
theorem KeepH.trans {H2 : Hp} (x : KeepH a H H1) (y : KeepH a H1 H2) : KeepH a H H2:=fun b o e n m=>y b o (x b o e n m) n m
theorem Same.keep (x : Same H H1) : KeepH a H H1:=fun b o e _ _=>x b o e
end
theorem good_put {s : State} (g : Good s) {x : Member} (mok : MemOk x) : Good { s with members:=Vbchai.putMember x s.members }:=by
 refine ⟨g.now,g.nowT,?_,?_,g.sasc,g.scn,g.slen⟩
 ·show Up Member.who (Vbchai.putMember x s.members)
  rw [putMember_eq]; exact up_putBy _ g.asc
 ·intro m hm
  have hm : m ∈ Vbchai.putMember x s.members:=hm
  rw [putMember_eq] at hm
  rcases (mem_putBy Member.who g.asc m).mp hm with rfl | ⟨h,_⟩
  ·exact mok
  ·exact g.mem m h
theorem natsV_ints {row : List Int} (h : ∀ z ∈ row,0 ≤ z) : natsV (row.map Int.toNat) = intsV row:=by
 unfold natsV intsV
 rw [List.map_map]
 apply List.map_congr_left
 intro z hz
 show V.int ((z.toNat : Nat) : Int) = V.int z
 rw [Int.toNat_of_nonneg (h z hz)]
section
variable {P : Program} {w : World} {K : PySem.W.Frag} {mg : Str → Option Value} {base : Heap} {D : Ads}
abbrev s_set_now : Stmt:=top 39
def spNow (D : Ads) : Sp:=fun vs H Q _=>∃ (a dx pn mp bp xp : Addr) (mk bk xk : List (Key × V)) (s : State) (rp : Addr) (row : List Int),vs = [.ref a,.ref rp] ∧ HouseAt D H a dx pn mp bp xp mk bk xk s ∧ Good s ∧ H rp = some (.lst (intsV row)) ∧ row.length ≤ 10000 ∧ Outs D H a dx pn mp bp xp bk xk [rp] Q (Vbchai.step s (.now row))
theorem sc_now : FnScope ["house","prices"] ["house","prices"] (defScope s_set_now):=scm
theorem ok_now (F : FunG K mg "set_now" s_set_now) (T : Txt K mg D) (cP : Cal P w K mg base CX0 1 "are_prices" ["row","how_many"] spPrices) : Cal P w K mg base CX0 2 "set_now" ["house","prices"] (spNow D):=by
 obtain ⟨f,fd,F,hm⟩:=F
 refine ⟨f,fd,F.ok sc_now (fun vs H Q E h=>?_) (fun cdv A outer s H vs Q E hr h=>?_),hm,F.kp,F.binds fun _ _ _ _ _ _ us hl=>match us,hl with | [_,_],_=>rfl⟩
 ·obtain ⟨a,dx,pn,mp,bp,xp,mk,bk,xk,s,rp,row,rfl,_⟩:=h
  rfl
 ·obtain ⟨a,dx,pn,mp,bp,xp,mk,bk,xk,st,rp,row,rfl,hH,g,hrp,hlen,k⟩:=h
  refine ⟨_,pss_cons (ps_if (pt_not (pt_val (pe_cal cP hr rfl pass0 (pa_cons (pv 1) (pa_cons (pe_int) (pa_nil)))))) (pss_one (ps_ret (pe_lst (pa_cons (pe_un un_neg pe_int) (pa_nil))))) (pss_nil)) (pss_cons (ps_fld (pv 0) (pv 1) rfl) (pss_one (ps_ret (pe_lst (pa_cons (pe_int) (pa_nil)))))),?_⟩
  refine ⟨_,rfl,rp,row,4,rfl,hrp,hlen,fun H1 s1=>⟨_,rfl,?_⟩⟩
  have hstep : Vbchai.step st (.now row) = match Vbchai.pricesOf row with | none=>(st,[-2]) | some q=>({ st with now:=q },[0]):=rfl
  rw [hstep] at k
  by_cases hb : row.length = 4 ∧ row.all Vbchai.isPrice = true
  ·have e : Vbchai.pricesOf row = some (row.map Int.toNat):=if_pos hb
   rw [e] at k
   rw [hb.2,decide_eq_true hb.1]
   refine iteF ?_
   have hH1:=hH.same s1
   have hnn : ∀ z ∈ row,0 ≤ z ∧ z ≤ 1000000:=fun z hz=>by
    have:=List.all_eq_true.mp hb.2 z hz
    unfold Vbchai.isPrice Vbchai.within at this
    rw [Bool.and_eq_true] at this
    exact ⟨of_decide_eq_true this.1,of_decide_eq_true this.2⟩
   refine ⟨_,rfl,_,rfl,a,D.hou,dx,_,rfl,hH1.obj,T.hou,T.hou_p,(by show 4 < 1000; decide),?_⟩
   rw [put_now]
   have kp : KeepH a H1 (upd H1 a (.ins D.hou dx (houF rp mp bp xp))):=fun b o e n _=>by rw [upd_ne n]; exact e
   have hr1:=s1 _ _ hrp
   have nr : rp ≠ a:=ne_of hr1 hH1.obj (by intro z; cases z)
   refine ⟨(by show 1 ≤ sizeLine; decide),fun p hp=>?_⟩
   have s3:=Same.new (o:=.lst [V.int 0]) hp
   have g2 : HouseAt D (upd H1 a (.ins D.hou dx (houF rp mp bp xp))) a dx rp mp bp xp mk bk xk { st with now:=row.map Int.toNat } :=
    ⟨upd_same,by rw [upd_ne nr,natsV_ints fun z hz=>(hnn z hz).1]; exact hr1,by rw [upd_ne (dict_ne_obj hH1.mar hH1.obj)]; exact hH1.mar,by rw [upd_ne (dict_ne_obj hH1.bok hH1.obj)]; exact hH1.bok,by rw [upd_ne (dict_ne_obj hH1.box hH1.obj)]; exact hH1.box,hH.mb,hH.mx,hH.bx,hH1.rm,hH1.rb.imp fun _ _ x=>bok_keep x kp hH1.obj,hH1.rx.imp fun _ _ x=>box_keep x kp hH1.obj⟩
   refine k _ rp mk bk xk p (g2.same s3) ⟨by rw [List.length_map]; exact hb.1,fun z hz=>?_,g.asc,g.mem,g.sasc,g.scn,g.slen⟩ (s1.free (free_upd hp)) upd_same (fun b o e n _ _ _=>s3 _ _ (by rw [upd_ne n]; exact s1 b o e)) fun N _ n h=>⟨n rp List.mem_cons_self,h.bok,h.box⟩
   obtain ⟨y,hy,rfl⟩:=List.mem_map.mp hz
   have:=hnn y hy
   show y.toNat ≤ 1000000
   omega
  ·have e : Vbchai.pricesOf row = none:=if_neg hb
   rw [e] at k
   have : (decide (row.length = 4) && row.all Vbchai.isPrice) = false:=by
    cases q : (decide (row.length = 4) && row.all Vbchai.isPrice) with
    | false=>rfl
    | true =>
     rw [Bool.and_eq_true] at q
     exact absurd ⟨of_decide_eq_true q.1,q.2⟩ hb
   rw [this]
   refine iteT ⟨_,rfl,(by show 1 ≤ sizeLine; decide),fun p hp=>?_⟩
   exact k.stay hH g s1 hp
section
variable {X : Cx} {e : Expr} {f : Str} {pos : Pos} {ta : TE}
theorem pe_xfldK (hK : X.K = K) (he : PE X e ta) (hb : attributeBase e f X.env (eval e X.env) = eval e X.env) : PE X (.Attribute e f pos) (tXFld K ta f):=by
 subst hK
 exact pe_xfld he hb
end
abbrev s_put_member : Stmt:=top 40
def spMember (D : Ads) : Sp:=fun vs H Q _=>∃ (a dx pn mp bp xp : Addr) (mk bk xk : List (Key × V)) (s : State) (who margin : Int) (tp : Addr) (t : List Nat),vs = [.ref a,.int who,.int margin,.ref tp] ∧ HouseAt D H a dx pn mp bp xp mk bk xk s ∧ Good s ∧ H tp = some (.lst (natsV t)) ∧ t.length ≤ 4096 ∧ Outs D H a dx pn mp bp xp bk xk [] Q (Vbchai.step s (.member who margin t))
theorem sc_member : FnScope ["house","who","margin","text","book","wrong"] ["house","who","margin","text"] (defScope s_put_member):=scm
theorem within_iff {n : Int} {lo hi : Nat} : Vbchai.within n lo hi = true ↔ ((lo : Nat) : Int) ≤ n ∧ n ≤ ((hi : Nat) : Int):=by
 unfold Vbchai.within
 rw [Bool.and_eq_true,decide_eq_true_eq,decide_eq_true_eq]
theorem within_no {n : Int} {lo hi : Nat} (h : ¬ (((lo : Nat) : Int) ≤ n ∧ n ≤ ((hi : Nat) : Int))) : Vbchai.within n lo hi = false:=by
 cases e : Vbchai.within n lo hi with
 | false=>rfl
 | true=>exact absurd (within_iff.mp e) h
theorem ok_member (F : FunG K mg "put_member" s_put_member) (T : Txt K mg D) (cM : Cal P w K mg base CX0 1 "is_margin" ["number"] spMargin) (cB : Cal P w K mg base (CX1 P w) 7 "read_book" ["text"] (spBook K D)) :
  Cal P w K mg base CX0 8 "put_member" ["house","who","margin","text"] (spMember D):=by
 obtain ⟨f,fd,F,hm⟩:=F
 obtain ⟨fB,fdB,GB,hmB,kpB,bB⟩:=cB
 refine ⟨f,fd,F.ok sc_member (fun vs H Q E h=>?_) (fun cdv A outer s H vs Q E hr h=>?_),hm,F.kp,F.binds fun _ _ _ _ _ _ us hl=>match us,hl with | [_,_,_,_],_=>rfl⟩
 ·obtain ⟨a,dx,pn,mp,bp,xp,mk,bk,xk,s,who,margin,tp,t,rfl,_⟩:=h
  rfl
 ·obtain ⟨a,dx,pn,mp,bp,xp,mk,bk,xk,st,who,margin,tp,t,rfl,hH,g,htp,hlen,k⟩:=h
  have hu:=hu_of hr
  have hr1 : Room 1 _:=hr.mono (by decide)
  have hr7 : Room 7 _:=hr
  refine ⟨_,pss_cons (ps_if (L2.PW.pt (pw_or (pt_cmpR op_lt (pv 1) (pe_int) (nomark _)) (pw_or1 (pt_cmpR op_gt (pv 1) (pe_gv rfl T.MOST_MEMBERS) (nomark _))))) (pss_one (ps_ret (pe_lst (pa_cons (pe_un un_neg pe_int) (pa_nil))))) (pss_nil)) (pss_cons (ps_if (pt_not (pt_val (pe_cal cM hr1 rfl pass0 (pa_cons (pv 2) (pa_nil))))) (pss_one (ps_ret (pe_lst (pa_cons (pe_un un_neg pe_int) (pa_nil))))) (pss_nil)) (pss_cons (ps_try GB hr7 rfl hmB kpB bB (pa_cons (pv 3) pa_nil) T.wrg rfl T.mwrg sc_member.nd (i:=4) rfl (Or.inl rfl) (j:=5) rfl rfl rfl rfl (fun _=>pss_one (ps_ret (pe_lst (pa_cons (pe_op op_sub (pe_un un_neg pe_int) (pe_xfldK (K:=K) rfl (pv 5) rfl)) (pa_nil)))))) (pss_cons (ps_if (pt_cmpR op_gt (pe_callB call_len_seq (by rfl) T.bLen PySem.boot_len (pa_cons (pv 4) (pa_nil))) (pe_gv rfl T.MOST_LEGS) (nomark _)) (pss_one (ps_ret (pe_lst (pa_cons (pe_un un_neg pe_int) (pa_nil))))) (pss_nil)) (pss_cons (ps_dput hu (pe_fld (pv 0) rfl) (pv 1) (pv 2) rfl) (pss_cons (ps_dput hu (pe_fld (pv 0) rfl) (pv 1) (pv 4) rfl) (pss_one (ps_ret (pe_lst (pa_cons (pe_callB call_lenD (by rfl) T.bLen PySem.boot_len (pa_cons (pe_fld (pv 0) rfl) (pa_nil))) (pa_nil)))))))))),?_⟩
  have hneg : ∀ n : Int,(¬ (1 ≤ who ∧ who ≤ 8)) → ∀ p,H p = none → Q (.ref p) (upd H p (.lst [V.int (-1)])):=fun n hw p hp=>by
   have e : Vbchai.step st (.member who margin t) = (st,[-1]):=by
    simp only [Vbchai.step]
    rw [if_pos (within_no (lo:=1) (hi:=Vbchai.MEMBERS) hw)]
   rw [e] at k
   exact k.stay hH g (Same.refl H) hp
  refine ⟨_,rfl,_,_,rfl,rfl,_,rfl,?_⟩
  refine ite2 (fun z=>?_) (fun z=>?_)
  ·have z:=of_decide_eq_true z
   exact iteT ⟨_,rfl,(by show 1 ≤ sizeLine; decide),fun p hp=>hneg 0 (by omega) p hp⟩
  ·have z : ¬ who < 1:=fun q=>z (decide_eq_true q)
   refine ⟨_,rfl,_,_,rfl,rfl,_,rfl,?_⟩
   refine ite2 (fun z2=>?_) (fun z2=>?_)
   ·have z2:=of_decide_eq_true z2
    exact ⟨_,rfl,(by show 1 ≤ sizeLine; decide),fun p hp=>hneg 0 (by omega) p hp⟩
   ·have z2 : ¬ (8 : Int) < who:=fun q=>z2 (decide_eq_true q)
    have hwt : Vbchai.within who 1 Vbchai.MEMBERS = true:=within_iff.mpr ⟨by show (1 : Int) ≤ who; omega,by show who ≤ (8 : Int); omega⟩
    refine ⟨_,rfl,margin,rfl,_,rfl,?_⟩
    cases hmt : Vbchai.within margin 0 Vbchai.CASH with
    | false =>
     have e : Vbchai.step st (.member who margin t) = (st,[-2]):=by
      simp only [Vbchai.step]
      rw [if_neg (by rw [hwt]; decide),if_pos hmt]
     rw [e] at k
     exact iteT ⟨_,rfl,(by show 1 ≤ sizeLine; decide),fun p hp=>k.stay hH g (Same.refl H) hp⟩
    | true =>
     refine iteF ?_
     obtain ⟨m0,m1⟩:=within_iff.mp hmt
     have m1' : margin ≤ 1000000000000000:=m1
     have m0' : (0 : Int) ≤ margin:=m0
     have hstep : Vbchai.step st (.member who margin t) = match Vbchai.bookOf t with | .inl e=>(st,[e]) | .inr b=>if Vbchai.LEGS < b.length then (st,[-3]) else ({ st with members:=Vbchai.putMember { who:=who.toNat,margin:=margin.toNat,book:=b } st.members },[((Vbchai.putMember { who:=who.toNat,margin:=margin.toNat,book:=b } st.members).length : Int)]):=by
      simp only [Vbchai.step]
      rw [if_neg (by rw [hwt]; decide),if_neg (by rw [hmt]; decide)]
      rfl
     rw [hstep] at k
     refine ⟨_,rfl,tp,t,rfl,sqL_of htp,hlen,fun b hrd hok hbl H1 q hqf hq s1=>?_,fun e hrd H1 d hd s1=>?_⟩
     ·have eb : Vbchai.bookOf t = .inr b:=by unfold Vbchai.bookOf; rw [hrd]
      rw [eb] at k
      dsimp only at k
      obtain ⟨ps,hqp,hps⟩:=id hq
      refine ⟨_,rfl,q,_,rfl,.inl (sqL_of hqp),_,_,rfl,rfl,_,rfl,?_⟩
      rw [List.length_map,hps.length]
      refine ite2 (fun z3=>?_) (fun z3=>?_)
      ·have z3:=of_decide_eq_true z3
       rw [if_pos (show Vbchai.LEGS < b.length by show 24 < _; omega)] at k
       exact ⟨_,rfl,(by show 1 ≤ sizeLine; decide),fun p hp=>k.stay hH g s1 hp⟩
      ·have z3 : ¬ (24 : Int) < ((b.length : Nat) : Int):=fun q=>z3 (decide_eq_true q)
       rw [if_neg (show ¬ Vbchai.LEGS < b.length by show ¬ 24 < _; omega)] at k
       have hH1:=hH.same s1
       have g8:=g.len
       have lm:=hH.rm.len g.asc
       have lb:=hH.rb.len g.asc
       have ewho : who = ((who.toNat : Nat) : Int):=by omega
       have emar : margin = ((margin.toNat : Nat) : Int):=by omega
       refine ⟨_,rfl,_,rfl,a,D.hou,dx,_,_,rfl,hH1.obj,T.hou,T.hou_m,houF_m _ _ _ _,_,rfl,mp,_,rfl,DPut.k (k:=Sum.inl who) hH1.mar (lt_line (by omega)),?_⟩
       have no:=dict_ne_obj hH1.mar hH1.obj
       have no2:=dict_ne_obj hH1.bok hH1.obj
       have no3:=dict_ne_obj hH1.box hH1.obj
       have ob2 : (upd H1 mp (.dK (putK mk (Sum.inl who) (.int margin)))) a = some (.ins D.hou dx (houF pn mp bp xp)):=by rw [upd_ne no.symm]; exact hH1.obj
       have bk2 : (upd H1 mp (.dK (putK mk (Sum.inl who) (.int margin)))) bp = some (.dK bk):=by rw [upd_ne hH.mb.symm]; exact hH1.bok
       refine ⟨_,rfl,_,rfl,a,D.hou,dx,_,_,rfl,ob2,T.hou,T.hou_b,houF_b _ _ _ _,_,rfl,bp,_,rfl,DPut.k (k:=Sum.inl who) bk2 (lt_line (by omega)),?_⟩
       have kp : KeepH a H1 (upd (upd H1 mp (.dK (putK mk (Sum.inl who) (.int margin)))) bp (.dK (putK bk (Sum.inl who) (.ref q)))):=(keep_put hH1.mar).trans (keep_put bk2)
       have hrm:=hH1.rm.put g.asc (x:={ who:=who.toNat,margin:=margin.toNat,book:=b }) (v:=.int margin) (by show V.int margin = V.int ((margin.toNat : Nat) : Int); rw [← emar])
       have hrb:=(hH1.rb.imp fun _ _ x=>bok_keep x kp hH1.obj).put g.asc (x:={ who:=who.toNat,margin:=margin.toNat,book:=b }) (v:=.ref q) ⟨q,rfl,book_keep hq kp hH1.obj⟩
       rw [← putMember_eq] at hrm hrb
       rw [show (((({ who:=who.toNat,margin:=margin.toNat,book:=b } : Member).who : Nat)) : Int) = who from ewho.symm] at hrm hrb
       have gp:=good_put g (x:={ who:=who.toNat,margin:=margin.toNat,book:=b }) ⟨by show 1 ≤ who.toNat; omega,by show who.toNat ≤ 8; omega,by show margin.toNat ≤ 1000000000000000; omega,by show b.length ≤ 24; omega,hok⟩
       have hl3:=hrb.len gp.asc
       refine ⟨_,rfl,a,D.hou,dx,_,_,rfl,by rw [upd_ne no2.symm]; exact ob2,T.hou,T.hou_b,houF_b _ _ _ _,bp,_,rfl,upd_same,(by show 1 ≤ sizeLine; decide),fun p hp=>?_⟩
       have s3:=Same.new (o:=.lst [V.int ((putK bk (Sum.inl who) (V.ref q)).length : Nat)]) hp
       have hou : HouseAt D (upd (upd H1 mp (.dK (putK mk (Sum.inl who) (.int margin)))) bp (.dK (putK bk (Sum.inl who) (.ref q)))) a dx pn mp bp xp (putK mk (Sum.inl who) (.int margin)) (putK bk (Sum.inl who) (.ref q)) xk { st with members:=Vbchai.putMember { who:=who.toNat,margin:=margin.toNat,book:=b } st.members } :=
        ⟨by rw [upd_ne no2.symm]; exact ob2,kp _ _ hH1.now (ne_of hH1.now hH1.obj (by intro z; cases z)) (fun _ z=>by cases z),by rw [upd_ne hH.mb]; exact upd_same,upd_same,by rw [upd_ne hH.bx.symm,upd_ne hH.mx.symm]; exact hH1.box,hH.mb,hH.mx,hH.bx,hrm,hrb,hH1.rx.imp fun _ _ x=>box_keep x kp hH1.obj⟩
       refine k _ pn _ _ _ p (hou.same s3) gp (s1.free (free_upd (free_upd hp))) ?_ (fun b' o e n1 n2 n3 n4=>s3 _ _ (by rw [upd_ne n3,upd_ne n2]; exact s1 b' o e)) fun N n _ h=>h.putB (n q hqf)
       rw [upd_same,hl3]
       rfl
     ·have eb : Vbchai.bookOf t = .inl (-1000 - (e : Int)):=by unfold Vbchai.bookOf; rw [hrd]
      rw [eb] at k
      refine ⟨rfl,d,rfl,fun x tb hx=>?_⟩
      refine ⟨_,rfl,_,rfl,x,D.wrg,D.wns,D.win,d,tb,_,_,rfl,hx,hd,T.wrg,T.wrg_p,rfl,_,_,rfl,rfl,(by show 1 ≤ sizeLine; decide),fun p hp=>?_⟩
      exact k.stay hH g s1 hp
abbrev s_drop_member : Stmt:=top 41
def spDrop (D : Ads) : Sp:=fun vs H Q _=>∃ (a dx pn mp bp xp : Addr) (mk bk xk : List (Key × V)) (s : State) (who : Int),vs = [.ref a,.int who] ∧ HouseAt D H a dx pn mp bp xp mk bk xk s ∧ Good s ∧ Outs D H a dx pn mp bp xp bk xk [] Q (Vbchai.step s (.leave who))
theorem sc_drop : FnScope ["house","who"] ["house","who"] (defScope s_drop_member):=scm
theorem good_leave {s : State} (g : Good s) (who : Int) : Good { s with members:=s.members.filter fun m=>(m.who : Int) != who } :=
 ⟨g.now,g.nowT,g.asc.filter _,fun m hm=>g.mem m (List.mem_filter.mp hm).1,g.sasc,g.scn,g.slen⟩
theorem dgetO {H : Hp} {d : Addr} {kvs : List (Key × V)} {w : Int} (hd : H d = some (.dK kvs)) : DGet H d (.int w) (valV kvs (.inl w)):=DGet.k (k:=Sum.inl w) hd
theorem ok_drop (F : FunG K mg "drop_member" s_drop_member) (T : Txt K mg D) : Cal P w K mg base CX0 1 "drop_member" ["house","who"] (spDrop D):=by
 obtain ⟨f,fd,F,hm⟩:=F
 refine ⟨f,fd,F.ok sc_drop (fun vs H Q E h=>?_) (fun cdv A outer s H vs Q E hr h=>?_),hm,F.kp,F.binds fun _ _ _ _ _ _ us hl=>match us,hl with | [_,_],_=>rfl⟩
 ·obtain ⟨a,dx,pn,mp,bp,xp,mk,bk,xk,s,who,rfl,_⟩:=h
  rfl
 ·obtain ⟨a,dx,pn,mp,bp,xp,mk,bk,xk,st,who,rfl,hH,g,k⟩:=h
  have hu:=hu_of hr
  refine ⟨_,pss_cons (ps_if (pt_cmp (pc_dnotin hu (pv 1) (pe_fld (pv 0) rfl))) (pss_one (ps_ret (pe_lst (pa_cons (pe_un un_neg pe_int) (pa_nil))))) (pss_nil)) (pss_cons (ps_expr (pe_dpop1 (pe_fld (pv 0) rfl) (pv 1) ⟨rfl,rfl,rfl,rfl⟩)) (pss_cons (ps_expr (pe_dpop1 (pe_fld (pv 0) rfl) (pv 1) ⟨rfl,rfl,rfl,rfl⟩)) (pss_one (ps_ret (pe_lst (pa_cons (pe_callB call_lenD (by rfl) T.bLen PySem.boot_len (pa_cons (pe_fld (pv 0) rfl) (pa_nil))) (pa_nil))))))),?_⟩
  refine ⟨_,rfl,_,rfl,a,D.hou,dx,_,_,rfl,hH.obj,T.hou,T.hou_b,houF_b _ _ _ _,bp,_,rfl,dgetO hH.bok,_,rfl,?_⟩
  rw [isMem_eq g.asc hH.rb]
  unfold isMem
  cases em : Vbchai.memberOf st who with
  | none =>
   have e : Vbchai.step st (.leave who) = (st,[-1]):=by simp only [Vbchai.step]; rw [em]
   rw [e] at k
   exact iteT ⟨_,rfl,(by show 1 ≤ sizeLine; decide),fun p hp=>k.stay hH g (Same.refl H) hp⟩
  | some m =>
   have e : Vbchai.step st (.leave who) = ({ st with members:=st.members.filter fun m=>(m.who : Int) != who },[((st.members.filter fun m=>(m.who : Int) != who).length : Int)]):=by simp only [Vbchai.step]; rw [em]
   rw [e] at k
   obtain ⟨hmm,hmw⟩:=mem_of em
   refine iteF ?_
   obtain ⟨v1,ev1,_⟩:=hH.rm.val m hmm
   obtain ⟨v2,ev2,_⟩:=hH.rb.val m hmm
   rw [hmw] at ev1 ev2
   refine ⟨_,rfl,a,D.hou,dx,_,_,rfl,hH.obj,T.hou,T.hou_m,houF_m _ _ _ _,mp,rfl,.inl ⟨_,.inl hH.mar⟩,_,rfl,mk,Sum.inl who,v1,hH.mar,rfl,ev1,?_⟩
   have no:=dict_ne_obj hH.mar hH.obj
   have no2:=dict_ne_obj hH.bok hH.obj
   have ob2 : (upd H mp (.dK (dropK mk (Sum.inl who)))) a = some (.ins D.hou dx (houF pn mp bp xp)):=by rw [upd_ne no.symm]; exact hH.obj
   have bk2 : (upd H mp (.dK (dropK mk (Sum.inl who)))) bp = some (.dK bk):=by rw [upd_ne hH.mb.symm]; exact hH.bok
   refine ⟨_,rfl,a,D.hou,dx,_,_,rfl,ob2,T.hou,T.hou_b,houF_b _ _ _ _,bp,rfl,.inl ⟨_,.inl bk2⟩,_,rfl,bk,Sum.inl who,v2,bk2,rfl,ev2,?_⟩
   have kp : KeepH a H (upd (upd H mp (.dK (dropK mk (Sum.inl who)))) bp (.dK (dropK bk (Sum.inl who)))):=(keep_put hH.mar).trans (keep_put bk2)
   have hrm:=hH.rm.drop who
   have hrb:=(hH.rb.imp fun _ _ x=>bok_keep x kp hH.obj).drop who
   have gp:=good_leave g who
   have hl3:=hrb.len gp.asc
   refine ⟨_,rfl,a,D.hou,dx,_,_,rfl,by rw [upd_ne no2.symm]; exact ob2,T.hou,T.hou_b,houF_b _ _ _ _,bp,_,rfl,upd_same,(by show 1 ≤ sizeLine; decide),fun p hp=>?_⟩
   have s3:=Same.new (o:=.lst [V.int ((dropK bk (Sum.inl who)).length : Nat)]) hp
   have hou : HouseAt D (upd (upd H mp (.dK (dropK mk (Sum.inl who)))) bp (.dK (dropK bk (Sum.inl who)))) a dx pn mp bp xp (dropK mk (Sum.inl who)) (dropK bk (Sum.inl who)) xk { st with members:=st.members.filter fun m=>(m.who : Int) != who } :=
    ⟨by rw [upd_ne no2.symm]; exact ob2,kp _ _ hH.now (ne_of hH.now hH.obj (by intro z; cases z)) (fun _ z=>by cases z),by rw [upd_ne hH.mb]; exact upd_same,upd_same,by rw [upd_ne hH.bx.symm,upd_ne hH.mx.symm]; exact hH.box,hH.mb,hH.mx,hH.bx,hrm,hrb,hH.rx.imp fun _ _ x=>box_keep x kp hH.obj⟩
   refine k _ pn _ _ _ p (hou.same s3) gp (free_upd (free_upd hp)) ?_ (fun b' o e n1 n2 n3 n4=>s3 _ _ (by rw [upd_ne n3,upd_ne n2]; exact e)) fun _ _ _ h=>h.dropB
   rw [upd_same,hl3]
   rfl
abbrev s_set_margin : Stmt:=top 42
def spSetM (D : Ads) : Sp:=fun vs H Q _=>∃ (a dx pn mp bp xp : Addr) (mk bk xk : List (Key × V)) (s : State) (who m : Int),vs = [.ref a,.int who,.int m] ∧ HouseAt D H a dx pn mp bp xp mk bk xk s ∧ Good s ∧ Outs D H a dx pn mp bp xp bk xk [] Q (Vbchai.step s (.margin who m))
theorem sc_setm : FnScope ["house","who","margin","before"] ["house","who","margin"] (defScope s_set_margin):=scm
theorem ok_setm (F : FunG K mg "set_margin" s_set_margin) (T : Txt K mg D) (cM : Cal P w K mg base CX0 1 "is_margin" ["number"] spMargin) : Cal P w K mg base CX0 2 "set_margin" ["house","who","margin"] (spSetM D):=by
 obtain ⟨f,fd,F,hm⟩:=F
 refine ⟨f,fd,F.ok sc_setm (fun vs H Q E h=>?_) (fun cdv A outer s H vs Q E hr h=>?_),hm,F.kp,F.binds fun _ _ _ _ _ _ us hl=>match us,hl with | [_,_,_],_=>rfl⟩
 ·obtain ⟨a,dx,pn,mp,bp,xp,mk,bk,xk,s,who,m,rfl,_⟩:=h
  rfl
 ·obtain ⟨a,dx,pn,mp,bp,xp,mk,bk,xk,st,who,mar,rfl,hH,g,k⟩:=h
  have hu:=hu_of hr
  refine ⟨_,pss_cons (ps_if (pt_cmp (pc_dnotin hu (pv 1) (pe_fld (pv 0) rfl))) (pss_one (ps_ret (pe_lst (pa_cons (pe_un un_neg pe_int) (pa_nil))))) (pss_nil)) (pss_cons (ps_if (pt_not (pt_val (pe_cal cM hr rfl pass0 (pa_cons (pv 2) (pa_nil))))) (pss_one (ps_ret (pe_lst (pa_cons (pe_un un_neg pe_int) (pa_nil))))) (pss_nil)) (pss_cons (ps_set (i:=3) sc_setm.nd rfl (Or.inl rfl) (pe_dget hu (pe_fld (pv 0) rfl) (pv 1) (fun _ _=>rfl))) (pss_cons (ps_dput hu (pe_fld (pv 0) rfl) (pv 1) (pv 2) rfl) (pss_one (ps_ret (pe_lst (pa_cons (pv 3) (pa_nil)))))))),?_⟩
  refine ⟨_,rfl,_,rfl,a,D.hou,dx,_,_,rfl,hH.obj,T.hou,T.hou_b,houF_b _ _ _ _,bp,_,rfl,dgetO hH.bok,_,rfl,?_⟩
  rw [isMem_eq g.asc hH.rb]
  unfold isMem
  cases em : Vbchai.memberOf st who with
  | none =>
   have e : Vbchai.step st (.margin who mar) = (st,[-1]):=by simp only [Vbchai.step]; rw [em]
   rw [e] at k
   exact iteT ⟨_,rfl,(by show 1 ≤ sizeLine; decide),fun p hp=>k.stay hH g (Same.refl H) hp⟩
  | some x =>
   have hstep : Vbchai.step st (.margin who mar) = if Vbchai.within mar 0 Vbchai.CASH = false then (st,[-2]) else ({ st with members:=Vbchai.putMember { x with margin:=mar.toNat } st.members },[(x.margin : Int)]):=by simp only [Vbchai.step]; rw [em]
   rw [hstep] at k
   obtain ⟨hmm,hmw⟩:=mem_of em
   refine iteF ⟨_,rfl,mar,rfl,_,rfl,?_⟩
   cases hmt : Vbchai.within mar 0 Vbchai.CASH with
   | false =>
    rw [if_pos hmt] at k
    exact iteT ⟨_,rfl,(by show 1 ≤ sizeLine; decide),fun p hp=>k.stay hH g (Same.refl H) hp⟩
   | true =>
    rw [if_neg (by rw [hmt]; decide)] at k
    refine iteF ?_
    obtain ⟨m0,m1⟩:=within_iff.mp hmt
    have m1' : mar ≤ 1000000000000000:=m1
    have m0' : (0 : Int) ≤ mar:=m0
    have emar : mar = ((mar.toNat : Nat) : Int):=by omega
    obtain ⟨v1,ev1,rfl⟩:=hH.rm.val x hmm
    rw [hmw] at ev1
    refine ⟨_,rfl,a,D.hou,dx,_,_,rfl,hH.obj,T.hou,T.hou_m,houF_m _ _ _ _,_,rfl,mp,_,rfl,dget hH.mar ev1,?_⟩
    have lm:=hH.rm.len g.asc
    have g8:=g.len
    refine ⟨_,rfl,_,rfl,a,D.hou,dx,_,_,rfl,hH.obj,T.hou,T.hou_m,houF_m _ _ _ _,_,rfl,mp,_,rfl,DPut.k (k:=Sum.inl who) hH.mar (lt_line (by omega)),?_⟩
    have no:=dict_ne_obj hH.mar hH.obj
    have kp : KeepH a H (upd H mp (.dK (putK mk (Sum.inl who) (.int mar)))):=keep_put hH.mar
    have hrm:=hH.rm.put g.asc (x:={ x with margin:=mar.toNat }) (v:=.int mar) (by show V.int mar = V.int ((mar.toNat : Nat) : Int); rw [← emar])
    have hrb:=(hH.rb.imp fun _ _ y=>bok_keep y kp hH.obj).keep g.asc (x:={ x with margin:=mar.toNat }) hmm rfl fun v h=>h
    rw [← putMember_eq] at hrm hrb
    rw [show (((({ x with margin:=mar.toNat } : Member).who : Nat)) : Int) = who from hmw] at hrm
    have mok:=g.mem x hmm
    have gp:=good_put g (x:={ x with margin:=mar.toNat }) ⟨mok.lo,mok.hi,by show mar.toNat ≤ 1000000000000000; omega,mok.len,mok.legs⟩
    refine ⟨_,rfl,(by show 1 ≤ sizeLine; decide),fun p hp=>?_⟩
    have s3:=Same.new (o:=.lst [V.int ((x.margin : Nat) : Int)]) hp
    have hou : HouseAt D (upd H mp (.dK (putK mk (Sum.inl who) (.int mar)))) a dx pn mp bp xp (putK mk (Sum.inl who) (.int mar)) bk xk { st with members:=Vbchai.putMember { x with margin:=mar.toNat } st.members } :=
     ⟨by rw [upd_ne no.symm]; exact hH.obj,kp _ _ hH.now (ne_of hH.now hH.obj (by intro z; cases z)) (fun _ z=>by cases z),upd_same,by rw [upd_ne hH.mb.symm]; exact hH.bok,by rw [upd_ne hH.mx.symm]; exact hH.box,hH.mb,hH.mx,hH.bx,hrm,hrb,hH.rx.imp fun _ _ y=>box_keep y kp hH.obj⟩
    exact k _ pn _ _ _ p (hou.same s3) gp (free_upd hp) upd_same (fun b' o e n1 n2 n3 n4=>s3 _ _ (by rw [upd_ne n2]; exact e)) fun _ _ _ h=>h
end
end VD
set_option maxRecDepth 100000
set_option maxHeartbeats 2000000
namespace VD
open PySem PySem.Spec PyProof.Rows L2 VM VX XL
open Vbchai (Leg Book Member Scene State Prices Box)
theorem up_ext {α : Type} {key : α → Nat} : ∀ {l m : List α},Up key l → Up key m → (∀ x,x ∈ l ↔ x ∈ m) → l = m
 | [],[],_,_,_=>rfl
 | [],y :: m,_,_,h=>absurd ((h y).mpr List.mem_cons_self) (by simp)
 | x :: l,[],_,_,h=>absurd ((h x).mp List.mem_cons_self) (by simp)
 | x :: l,y :: m,hl,hm,h=>by
  obtain ⟨h1,h2⟩:=List.pairwise_cons.mp hl
  obtain ⟨h3,h4⟩:=List.pairwise_cons.mp hm
  have e : x = y:=by
   rcases List.mem_cons.mp ((h x).mp List.mem_cons_self) with e | e
   ·exact e
   ·rcases List.mem_cons.mp ((h y).mpr List.mem_cons_self) with e2 | e2
    ·exact e2.symm
    ·have:=h3 x e
     have:=h1 y e2
     omega
  subst e
  rw [up_ext h2 h4 fun z=>?_]
  constructor
  ·intro hz
   rcases List.mem_cons.mp ((h z).mp (List.mem_cons_of_mem _ hz)) with e | e
   ·subst e; have:=h1 z hz; omega
   ·exact e
  ·intro hz
   rcases List.mem_cons.mp ((h z).mpr (List.mem_cons_of_mem _ hz)) with e | e
   ·subst e; have:=h3 z hz; omega
   ·exact e
theorem put_comm {ms : List Member} (h : Up Member.who ms) {x y : Member} (hn : x.who ≠ y.who) : putBy Member.who y (putBy Member.who x ms) = putBy Member.who x (putBy Member.who y ms):=by
 refine up_ext (up_putBy _ (up_putBy _ h)) (up_putBy _ (up_putBy _ h)) fun z=>?_
 rw [mem_putBy Member.who (up_putBy _ h),mem_putBy Member.who (up_putBy _ h),mem_putBy Member.who h,mem_putBy Member.who h]
 constructor
 ·rintro (rfl | ⟨rfl | ⟨h1,h2⟩,h3⟩)
  ·exact .inr ⟨.inl rfl,fun e=>hn e.symm⟩
  ·exact .inl rfl
  ·exact .inr ⟨.inr ⟨h1,h3⟩,h2⟩
 ·rintro (rfl | ⟨rfl | ⟨h1,h2⟩,h3⟩)
  ·exact .inr ⟨.inl rfl,hn⟩
  ·exact .inl rfl
  ·exact .inr ⟨.inr ⟨h1,h3⟩,h2⟩
theorem times_opp (l : Book) : Vbchai.times (-1) l = l.map opp:=by
 unfold Vbchai.times opp
 apply List.map_congr_left
 intro x _
 rw [Int.neg_one_mul]
theorem opp_ok {l : Leg} (h : LegOk l) : LegOk (opp l):=⟨h.kind,h.cash,h.under,h.strike,by show _ ≤ -l.qty; have:=h.qhi; omega,by show -l.qty ≤ _; have:=h.qlo; omega⟩
section
variable {P : Program} {w : World} {K : PySem.W.Frag} {mg : Str → Option Value} {base : Heap} {D : Ads}
abbrev s_make_trade : Stmt:=top 43
def spTrade (D : Ads) : Sp:=fun vs H Q _=>∃ (a dx pn mp bp xp : Addr) (mk bk xk : List (Key × V)) (s : State) (x y : Int) (tp : Addr) (t : List Nat),vs = [.ref a,.int x,.int y,.ref tp] ∧ HouseAt D H a dx pn mp bp xp mk bk xk s ∧ Good s ∧ H tp = some (.lst (natsV t)) ∧ t.length ≤ 4096 ∧ Outs D H a dx pn mp bp xp bk xk [] Q (Vbchai.step s (.trade x y t))
theorem sc_trade : FnScope ["house","a","b","text","legs","wrong","leg"] ["house","a","b","text"] (defScope s_make_trade):=scm
theorem max_eq (i j : Int) : (if j > i then j else i) = max i j:=by omega
theorem ok_trade (F : FunG K mg "make_trade" s_make_trade) (T : Txt K mg D) (cO : Cal P w K mg base CX0 3 "opposite" ["leg"] (spOpp D)) (cB : Cal P w K mg base (CX1 P w) 7 "read_book" ["text"] (spBook K D)) :
  Cal P w K mg base CX0 8 "make_trade" ["house","a","b","text"] (spTrade D):=by
 obtain ⟨f,fd,F,hm⟩:=F
 obtain ⟨fB,fdB,GB,hmB,kpB,bB⟩:=cB
 refine ⟨f,fd,F.ok sc_trade (fun vs H Q E h=>?_) (fun cdv A outer s H vs Q E hr h=>?_),hm,F.kp,F.binds fun _ _ _ _ _ _ us hl=>match us,hl with | [_,_,_,_],_=>rfl⟩
 ·obtain ⟨a,dx,pn,mp,bp,xp,mk,bk,xk,s,x,y,tp,t,rfl,_⟩:=h
  rfl
 ·obtain ⟨a,dx,pn,mp,bp,xp,mk,bk,xk,st,ia,ib,tp,t,rfl,hH,g,htp,hlen,k⟩:=h
  have hu:=hu_of hr
  have hr3 : Room 3 _:=hr.mono (by decide)
  have hr7 : Room 7 _:=hr
  refine ⟨_,pss_cons (ps_if (L2.PW.pt (pw_or (pt_cmp (pc_dnotin hu (pv 1) (pe_fld (pv 0) rfl))) (pw_or (pt_cmp (pc_dnotin hu (pv 2) (pe_fld (pv 0) rfl))) (pw_or1 (pt_cmpR op_eq (pv 1) (pv 2) (nomark _)))))) (pss_one (ps_ret (pe_lst (pa_cons (pe_un un_neg pe_int) (pa_nil))))) (pss_nil)) (pss_cons (ps_try GB hr7 rfl hmB kpB bB (pa_cons (pv 3) pa_nil) T.wrg rfl T.mwrg sc_trade.nd (i:=4) rfl (Or.inl rfl) (j:=5) rfl rfl rfl rfl (fun _=>pss_one (ps_ret (pe_lst (pa_cons (pe_op op_sub (pe_un un_neg pe_int) (pe_xfldK (K:=K) rfl (pv 5) rfl)) (pa_nil)))))) (pss_cons (ps_if (pt_cmpR op_gt (pe_op op_add (pe_callB (call_max2 rfl) (by rfl) T.bMax boot_max (pa_cons (pe_callB call_len_seq (by rfl) T.bLen PySem.boot_len (pa_cons (pe_dget hu (pe_fld (pv 0) rfl) (pv 1) (fun _ _=>rfl)) (pa_nil))) (pa_cons (pe_callB call_len_seq (by rfl) T.bLen PySem.boot_len (pa_cons (pe_dget hu (pe_fld (pv 0) rfl) (pv 2) (fun _ _=>rfl)) (pa_nil))) (pa_nil)))) (pe_callB call_len_seq (by rfl) T.bLen PySem.boot_len (pa_cons (pv 4) (pa_nil)))) (pe_gv rfl T.MOST_LEGS) (nomark _)) (pss_one (ps_ret (pe_lst (pa_cons (pe_un un_neg pe_int) (pa_nil))))) (pss_nil)) (pss_cons (ps_dput hu (pe_fld (pv 0) rfl) (pv 1) (pe_op op_cat (pe_dget hu (pe_fld (pv 0) rfl) (pv 1) (fun _ _=>rfl)) (pv 4)) rfl) (pss_cons (ps_dput hu (pe_fld (pv 0) rfl) (pv 2) (pe_op op_cat (pe_dget hu (pe_fld (pv 0) rfl) (pv 2) (fun _ _=>rfl)) (pe_lc rfl sc_trade.nd (pi_list (pv 4)) (blkOk_by (own:=[("leg",6)]) (by rfl)) (fun _ _ _ _ _=>pg_name (i:=6) sc_trade.nd rfl (Or.inl rfl)) (fun _ _ _ _ _=>pts_nil) (fun _ _ _ _ _=>pe_cal cO hr3 rfl pass0 (pa_cons (pv 6) (pa_nil))))) rfl) (pss_one (ps_ret (pe_lst (pa_cons (pe_int) (pa_nil))))))))),?_⟩
  have hstep : Vbchai.step st (.trade ia ib t) = match Vbchai.traded st ia ib t with | .inl e=>(st,[e]) | .inr q=>(q,[0]):=rfl
  rw [hstep] at k
  have hno : Vbchai.traded st ia ib t = .inl (-2) → ∀ p,H p = none → Q (.ref p) (upd H p (.lst [V.int (-2)])):=fun e p hp=>by
   rw [e] at k
   exact k.stay hH g (Same.refl H) hp
  refine ⟨_,rfl,_,rfl,a,D.hou,dx,_,_,rfl,hH.obj,T.hou,T.hou_b,houF_b _ _ _ _,bp,_,rfl,dgetO hH.bok,_,rfl,?_⟩
  rw [isMem_eq g.asc hH.rb]
  unfold isMem
  cases ea : Vbchai.memberOf st ia with
  | none=>exact iteT (iteT ⟨_,rfl,(by show 1 ≤ sizeLine; decide),fun p hp=>hno (by unfold Vbchai.traded; rw [ea]) p hp⟩)
  | some x =>
   refine iteF ?_
   refine ⟨_,rfl,_,rfl,a,D.hou,dx,_,_,rfl,hH.obj,T.hou,T.hou_b,houF_b _ _ _ _,bp,_,rfl,dgetO hH.bok,_,rfl,?_⟩
   rw [isMem_eq g.asc hH.rb]
   unfold isMem
   cases eb : Vbchai.memberOf st ib with
   | none=>exact iteT (iteT ⟨_,rfl,(by show 1 ≤ sizeLine; decide),fun p hp=>hno (by unfold Vbchai.traded; rw [ea,eb]) p hp⟩)
   | some y =>
    have htr : Vbchai.traded st ia ib t = if ia = ib then .inl (-2) else (match Vbchai.bookOf t with
     | .inl e=>.inl e
     | .inr l=>if Vbchai.LEGS < x.book.length + l.length ∨ Vbchai.LEGS < y.book.length + l.length then .inl (-3) else .inr { st with members:=Vbchai.putMember { x with book:=x.book ++ l } (Vbchai.putMember { y with book:=y.book ++ Vbchai.times (-1) l } st.members) }):=by
     unfold Vbchai.traded; rw [ea,eb]; rfl
    refine iteF ?_
    refine ⟨_,rfl,_,rfl,rfl,_,rfl,?_⟩
    rw [dec_int_eq]
    refine ite2 (fun z=>?_) (fun z=>?_)
    ·exact ⟨_,rfl,(by show 1 ≤ sizeLine; decide),fun p hp=>hno (by rw [htr,if_pos (of_decide_eq_true z)]) p hp⟩
    ·have hab : ia ≠ ib:=fun q=>z (decide_eq_true q)
     rw [htr,if_neg hab] at k
     obtain ⟨hxm,hxw⟩:=mem_of ea
     obtain ⟨hym,hyw⟩:=mem_of eb
     have hwn : x.who ≠ y.who:=fun e=>hab (by rw [← hxw,← hyw,e])
     have xok:=g.mem x hxm
     have yok:=g.mem y hym
     refine ⟨_,rfl,tp,t,rfl,sqL_of htp,hlen,fun l hrd hok hbl H1 q _ hq s1=>?_,fun e hrd H1 d hd s1=>?_⟩
     ·have ebk : Vbchai.bookOf t = .inr l:=by unfold Vbchai.bookOf; rw [hrd]
      rw [ebk] at k
      dsimp only at k
      have hH1:=hH.same s1
      obtain ⟨pl,hqp,hpl⟩:=id hq
      obtain ⟨va,eva,qa,rfl,pa,hqa,hpa⟩:=hH1.rb.val x hxm
      obtain ⟨vb,evb,qb,rfl,pb,hqb,hpb⟩:=hH1.rb.val y hym
      rw [hxw] at eva
      rw [hyw] at evb
      have xl:=xok.len
      have yl:=yok.len
      refine ⟨_,rfl,a,D.hou,dx,_,_,rfl,hH1.obj,T.hou,T.hou_b,houF_b _ _ _ _,_,rfl,bp,_,rfl,dget hH1.bok eva,qa,_,rfl,.inl (sqL_of hqa),_,rfl,a,D.hou,dx,_,_,rfl,hH1.obj,T.hou,T.hou_b,houF_b _ _ _ _,_,rfl,bp,_,rfl,dget hH1.bok evb,qb,_,rfl,.inl (sqL_of hqb),_,_,rfl,_,rfl,q,_,rfl,.inl (sqL_of hqp),_,_,rfl,rfl,_,_,rfl,rfl,_,rfl,?_⟩
      rw [max_eq,List.length_map,List.length_map,List.length_map,hpa.length,hpb.length,hpl.length]
      refine ite2 (fun z3=>?_) (fun z3=>?_)
      ·have z3:=of_decide_eq_true z3
       rw [if_pos (show Vbchai.LEGS < x.book.length + l.length ∨ Vbchai.LEGS < y.book.length + l.length by show 24 < _ ∨ 24 < _; omega)] at k
       exact ⟨_,rfl,(by show 1 ≤ sizeLine; decide),fun p hp=>k.stay hH g s1 hp⟩
      ·have z3 : ¬ (24 : Int) < max ((x.book.length : Nat) : Int) ((y.book.length : Nat) : Int) + ((l.length : Nat) : Int):=fun q=>z3 (decide_eq_true q)
       rw [if_neg (show ¬ (Vbchai.LEGS < x.book.length + l.length ∨ Vbchai.LEGS < y.book.length + l.length) by show ¬ (24 < _ ∨ 24 < _); omega)] at k
       have lb:=hH.rb.len g.asc
       have g8:=g.len
       refine ⟨_,rfl,a,D.hou,dx,_,_,rfl,hH1.obj,T.hou,T.hou_b,houF_b _ _ _ _,_,rfl,bp,_,rfl,dget hH1.bok eva,_,rfl,qa,q,_,_,rfl,rfl,hqa,hqp,(by rw [List.length_map,List.length_map,hpa.length,hpl.length]; exact le_line (by omega)),fun q1 hq1=>?_⟩
       have s2:=Same.new (o:=.lst (pa.map V.ref ++ pl.map V.ref)) hq1
       have hB1 : BookAt D (upd H1 q1 (.lst (pa.map V.ref ++ pl.map V.ref))) q1 (x.book ++ l):=⟨pa ++ pl,by rw [upd_same,List.map_append],(hpa.append hpl).imp fun _ _ e=>e.same s2⟩
       generalize upd H1 q1 (.lst (pa.map V.ref ++ pl.map V.ref)) = H2 at s2 hB1
       have hH2:=hH1.same s2
       refine ⟨_,rfl,a,D.hou,dx,_,_,rfl,hH2.obj,T.hou,T.hou_b,houF_b _ _ _ _,_,rfl,bp,_,rfl,DPut.k (k:=Sum.inl ia) hH2.bok (lt_line (by omega)),?_⟩
       have k3 : KeepH a H2 (upd H2 bp (.dK (putK bk (Sum.inl ia) (.ref q1)))):=keep_put hH2.bok
       have no2:=dict_ne_obj hH2.bok hH2.obj
       have ob3 : (upd H2 bp (.dK (putK bk (Sum.inl ia) (.ref q1)))) a = some (.ins D.hou dx (houF pn mp bp xp)):=by rw [upd_ne no2.symm]; exact hH2.obj
       have bk3 : (upd H2 bp (.dK (putK bk (Sum.inl ia) (.ref q1)))) bp = some (.dK (putK bk (Sum.inl ia) (.ref q1))):=upd_same
       have nbp : ∀ b o,H b = some o → b ≠ bp → (upd H2 bp (.dK (putK bk (Sum.inl ia) (.ref q1)))) b = some o:=fun b o e n=>by rw [upd_ne n]; exact s2 b o (s1 b o e)
       have lst3 : ∀ (b : Addr) (xs : List V),H1 b = some (.lst xs) → (upd H2 bp (.dK (putK bk (Sum.inl ia) (.ref q1)))) b = some (.lst xs):=fun b xs e=>k3 _ _ (s2 _ _ e) (ne_of (s2 _ _ e) hH2.obj (by intro z; cases z)) (fun _ z=>by cases z)
       have leg3 : ∀ (b : Addr) (lg : Leg),LegAt D H1 b lg → LegAt D (upd H2 bp (.dK (putK bk (Sum.inl ia) (.ref q1)))) b lg:=fun b lg ⟨d,e⟩=>⟨d,k3 _ _ (s2 _ _ e) (hou_ne_leg (s2 _ _ e) hH2.obj) (fun _ z=>by cases z)⟩
       have hB3:=book_keep hB1 k3 hH2.obj
       have hmar3 : (upd H2 bp (.dK (putK bk (Sum.inl ia) (.ref q1)))) mp = some (.dK mk):=by rw [upd_ne hH.mb]; exact hH2.mar
       have hbox3 : (upd H2 bp (.dK (putK bk (Sum.inl ia) (.ref q1)))) xp = some (.dK xk):=by rw [upd_ne hH.bx.symm]; exact hH2.box
       have hnow3:=k3 _ _ hH2.now (ne_of hH2.now hH2.obj (by intro z; cases z)) (fun _ z=>by cases z)
       have kH3 : KeepH a H (upd H2 bp (.dK (putK bk (Sum.inl ia) (.ref q1)))):=(Same.keep (s1.trans s2)).trans k3
       have fr3 : ∀ p,(upd H2 bp (.dK (putK bk (Sum.inl ia) (.ref q1)))) p = none → H p = none:=fun p hp=>(s1.trans s2).free (free_upd hp)
       generalize upd H2 bp (.dK (putK bk (Sum.inl ia) (.ref q1))) = H3 at fr3 k3 ob3 bk3 nbp lst3 leg3 hB3 hmar3 hbox3 hnow3 kH3
       have evb3 : valV (putK bk (Sum.inl ia) (.ref q1)) (.inl ib) = some (.ref qb):=by rw [valV_put,if_neg (fun z=>hab (Sum.inl.inj z).symm)]; exact evb
       refine ⟨_,rfl,a,D.hou,dx,_,_,rfl,ob3,T.hou,T.hou_b,houF_b _ _ _ _,_,rfl,bp,_,rfl,dget bk3 evb3,_,rfl,q,rfl,⟨_,sqL_of (lst3 _ _ hqp)⟩,fun Dl hD=>lc_one (K:=K) (a:=q) (xs:=pl.map V.ref) (fun i H'=>Same H3 H' ∧ ∃ qs : List Addr,H' Dl = some (.lst (qs.map V.ref)) ∧ All2 (LegAt D H') qs ((l.take i).map opp)) ⟨Same.new hD,[],upd_same,.nil⟩ (fun i H' _ ⟨s4,_⟩=>s4.seq (sqL_of (lst3 _ _ hqp))) (fun _=>rfl) ?_ ?_⟩
       ·rintro i v H4 hi ⟨s4,qs,hDl,hqs⟩
        obtain ⟨u,hu',rfl⟩:=refs_at hi
        obtain ⟨lg,hlg,hleg⟩:=hpl.get hu'
        refine ⟨_,rfl,u,lg,rfl,(leg3 _ _ hleg).same s4,fun H5 p hp s5=>?_⟩
        have hDl5:=s5 _ _ hDl
        have up : ∀ b lg,LegAt D H5 b lg → LegAt D (upd H5 Dl (.lst (qs.map V.ref ++ [V.ref p]))) b lg:=fun b lg ⟨d,e⟩=>⟨d,by rw [upd_ne (ne_of e hDl5 (by intro z; cases z))]; exact e⟩
        refine ⟨_,hDl5,(by rw [List.length_map,hqs.length,List.length_map,List.length_take]; exact lt_line (by omega)),fun c o e=>by rw [upd_ne (ne_of_none e hD)]; exact s5 c o (s4 c o e),qs ++ [p],by rw [upd_same,List.map_append]; rfl,?_⟩
        rw [take_snoc hlg,List.map_append]
        exact (hqs.imp fun b lg e=>up b lg (e.same s5)).append (.cons (up _ _ hp) .nil)
       ·rintro H4 ⟨s4,qs,hDl,hqs⟩
        rw [List.length_map,hpl.length,List.take_length] at hqs
        have hqb4:=s4 _ _ (lst3 _ _ hqb)
        refine ⟨qb,Dl,_,_,rfl,rfl,hqb4,hDl,(by rw [List.length_map,List.length_map,hpb.length,hqs.length,List.length_map]; exact le_line (by omega)),fun q2 hq2=>?_⟩
        have s5:=Same.new (o:=.lst (pb.map V.ref ++ qs.map V.ref)) hq2
        have hB5 : BookAt D (upd H4 q2 (.lst (pb.map V.ref ++ qs.map V.ref))) q2 (y.book ++ Vbchai.times (-1) l):=⟨pb ++ qs,by rw [upd_same,List.map_append],by rw [times_opp]; exact (hpb.imp fun b lg e=>(((leg3 b lg e).same s4).same s5)).append (hqs.imp fun _ _ e=>e.same s5)⟩
        generalize upd H4 q2 (.lst (pb.map V.ref ++ qs.map V.ref)) = H5 at s5 hB5
        have s35:=s4.trans s5
        have bk5:=s35 _ _ bk3
        have ob5:=s35 _ _ ob3
        have lb2:=length_putK bk (Sum.inl ia) (V.ref q1)
        refine ⟨_,rfl,a,D.hou,dx,_,_,rfl,ob5,T.hou,T.hou_b,houF_b _ _ _ _,_,rfl,bp,_,rfl,DPut.k (k:=Sum.inl ib) bk5 (lt_line (by omega)),?_⟩
        have k6 : KeepH a H5 (upd H5 bp (.dK (putK (putK bk (Sum.inl ia) (.ref q1)) (Sum.inl ib) (.ref q2)))):=keep_put bk5
        have kH6 : KeepH a H (upd H5 bp (.dK (putK (putK bk (Sum.inl ia) (.ref q1)) (Sum.inl ib) (.ref q2)))):=(kH3.trans (Same.keep s35)).trans k6
        have k36 : KeepH a H3 (upd H5 bp (.dK (putK (putK bk (Sum.inl ia) (.ref q1)) (Sum.inl ib) (.ref q2)))):=(Same.keep s35).trans k6
        refine ⟨(by show 1 ≤ sizeLine; decide),fun p hp=>?_⟩
        have s7:=Same.new (o:=.lst [V.int 0]) hp
        have r1:=(hH.rb.imp fun _ _ e=>bok_keep e kH6 hH.obj).put g.asc (x:={ x with book:=x.book ++ l }) (v:=.ref q1) ⟨q1,rfl,book_keep hB3 k36 ob3⟩
        have r2:=r1.put (up_putBy _ g.asc) (x:={ y with book:=y.book ++ Vbchai.times (-1) l }) (v:=.ref q2) ⟨q2,rfl,book_keep hB5 k6 ob5⟩
        have m1:=hH.rm.keep g.asc (x:={ x with book:=x.book ++ l }) hxm rfl fun v h=>h
        have m2:=m1.keep (up_putBy _ g.asc) (x:={ y with book:=y.book ++ Vbchai.times (-1) l }) ((mem_putBy Member.who g.asc y).mpr (.inr ⟨hym,fun e=>hwn e.symm⟩)) rfl fun v h=>h
        have ecm:=put_comm g.asc (x:={ x with book:=x.book ++ l }) (y:={ y with book:=y.book ++ Vbchai.times (-1) l }) hwn
        rw [ecm,← putMember_eq,← putMember_eq] at r2 m2
        rw [show (((({ x with book:=x.book ++ l } : Member).who : Nat)) : Int) = ia from hxw,show (((({ y with book:=y.book ++ Vbchai.times (-1) l } : Member).who : Nat)) : Int) = ib from hyw] at r2
        have gy:=good_put g (x:={ y with book:=y.book ++ Vbchai.times (-1) l }) ⟨yok.lo,yok.hi,yok.margin,by show (y.book ++ Vbchai.times (-1) l).length ≤ 24; rw [List.length_append,times_opp,List.length_map]; omega,fun lg hlg=>by
         rcases List.mem_append.mp hlg with h | h
         ·exact yok.legs lg h
         ·rw [times_opp] at h
          obtain ⟨z,hz,rfl⟩:=List.mem_map.mp h
          exact opp_ok (hok z hz)⟩
        have gx:=good_put gy (x:={ x with book:=x.book ++ l }) ⟨xok.lo,xok.hi,xok.margin,by show (x.book ++ l).length ≤ 24; rw [List.length_append]; omega,fun lg hlg=>by
         rcases List.mem_append.mp hlg with h | h
         ·exact xok.legs lg h
         ·exact hok lg h⟩
        have no5:=dict_ne_obj bk5 ob5
        have hou : HouseAt D (upd H5 bp (.dK (putK (putK bk (Sum.inl ia) (.ref q1)) (Sum.inl ib) (.ref q2)))) a dx pn mp bp xp mk (putK (putK bk (Sum.inl ia) (.ref q1)) (Sum.inl ib) (.ref q2)) xk { st with members:=Vbchai.putMember { x with book:=x.book ++ l } (Vbchai.putMember { y with book:=y.book ++ Vbchai.times (-1) l } st.members) } :=
         ⟨by rw [upd_ne no5.symm]; exact ob5,k36 _ _ hnow3 (ne_of hnow3 ob3 (by intro z; cases z)) (fun _ z=>by cases z),by rw [upd_ne hH.mb]; exact s35 _ _ hmar3,upd_same,by rw [upd_ne hH.bx.symm]; exact s35 _ _ hbox3,hH.mb,hH.mx,hH.bx,m2,r2,hH.rx.imp fun _ _ e=>box_keep e kH6 hH.obj⟩
        exact k _ pn _ _ _ p (hou.same s7) gx (fr3 p (s35.free (free_upd hp))) upd_same (fun b' o e n1 n2 n3 n4=>s7 _ _ (by rw [upd_ne n3]; exact s35 _ _ (nbp b' o e n3))) fun N n _ h=>(h.putB (n q1 (s1.free hq1))).putB (n q2 (fr3 q2 (s4.free hq2)))
     ·have ebk : Vbchai.bookOf t = .inl (-1000 - (e : Int)):=by unfold Vbchai.bookOf; rw [hrd]
      rw [ebk] at k
      refine ⟨rfl,d,rfl,fun v tb hx=>?_⟩
      refine ⟨_,rfl,_,rfl,v,D.wrg,D.wns,D.win,d,tb,_,_,rfl,hx,hd,T.wrg,T.wrg_p,rfl,_,_,rfl,rfl,(by show 1 ≤ sizeLine; decide),fun p hp=>?_⟩
      exact k.stay hH g s1 hp
abbrev s_put_box : Stmt:=top 44
def spBox (D : Ads) : Sp:=fun vs H Q _=>∃ (a dx pn mp bp xp : Addr) (mk bk xk : List (Key × V)) (s : State) (key : Int) (rp : Addr) (row : List Int),vs = [.ref a,.int key,.ref rp] ∧ HouseAt D H a dx pn mp bp xp mk bk xk s ∧ Good s ∧ H rp = some (.lst (intsV row)) ∧ row.length ≤ 10000 ∧ Outs D H a dx pn mp bp xp bk xk [rp] Q (Vbchai.step s (.box key row))
theorem sc_pbox : FnScope ["house","key","box"] ["house","key","box"] (defScope s_put_box):=scm
theorem box_val {row : List Int} {y : Box} (h : Vbchai.boxOf row = some y) : boxV y = intsV row ∧ BoxOk y:=by
 unfold Vbchai.boxOf at h
 split at h
 ·rename_i a b c d e f g hh
  split at h
  ·rename_i hc
   rw [Bool.and_eq_true,Bool.and_eq_true,Bool.and_eq_true,Bool.and_eq_true] at hc
   obtain ⟨h1,h2,h3,h4,h5⟩:=hc
   have h2:=of_decide_eq_true h2
   have h3:=of_decide_eq_true h3
   have h4:=of_decide_eq_true h4
   have h5:=of_decide_eq_true h5
   have pr : ∀ z ∈ [a,b,c,d,e,f,g,hh],0 ≤ z ∧ z ≤ 1000000:=fun z hz=>by
    have:=List.all_eq_true.mp h1 z hz
    unfold Vbchai.isPrice at this
    exact within_iff.mp this
   have pa:=pr a (by simp)
   have pb:=pr b (by simp)
   have pc:=pr c (by simp)
   have pd:=pr d (by simp)
   have pe:=pr e (by simp)
   have pf:=pr f (by simp)
   have pg:=pr g (by simp)
   have ph:=pr hh (by simp)
   cases h
   constructor
   ·show [V.int ((a.toNat : Nat) : Int),V.int ((b.toNat : Nat) : Int),V.int ((c.toNat : Nat) : Int),V.int ((d.toNat : Nat) : Int),V.int ((e.toNat : Nat) : Int),V.int ((f.toNat : Nat) : Int),V.int ((g.toNat : Nat) : Int),V.int ((hh.toNat : Nat) : Int)] = [V.int a,V.int b,V.int c,V.int d,V.int e,V.int f,V.int g,V.int hh]
    rw [Int.toNat_of_nonneg pa.1,Int.toNat_of_nonneg pb.1,Int.toNat_of_nonneg pc.1,Int.toNat_of_nonneg pd.1,Int.toNat_of_nonneg pe.1,Int.toNat_of_nonneg pf.1,Int.toNat_of_nonneg pg.1,Int.toNat_of_nonneg ph.1]
   ·refine ⟨rfl,fun z hz=>?_⟩
    simp at hz
    rcases hz with rfl | rfl | rfl | rfl <;> exact ⟨by dsimp only; omega,by show _ ≤ 1000000; dsimp only; omega⟩
  ·cases h
 ·cases h
theorem scene_any {s : State} {R : Scene → V → Prop} {xk : List (Key × V)} (h : DRel Scene.key R xk s.scenes) (key : Int) : (valV xk (.inl key)).isSome = s.scenes.any fun z=>(z.key : Int) == key:=by
 cases e : s.scenes.any fun z=>(z.key : Int) == key with
 | false =>
  rw [h.none fun m hm z=>?_]
  ·rfl
  ·have:=List.any_eq_false.mp e m hm
   simp at this
   exact this z
 | true =>
  obtain ⟨m,hm,z⟩:=List.any_eq_true.mp e
  have z : (m.key : Int) = key:=by simpa using z
  obtain ⟨v,ev,_⟩:=h.val m hm
  rw [z] at ev
  rw [ev]; rfl
theorem ok_pbox (F : FunG K mg "put_box" s_put_box) (T : Txt K mg D) (cI : Cal P w K mg base CX0 2 "is_box" ["row"] spIsBox) : Cal P w K mg base CX0 3 "put_box" ["house","key","box"] (spBox D):=by
 obtain ⟨f,fd,F,hm⟩:=F
 refine ⟨f,fd,F.ok sc_pbox (fun vs H Q E h=>?_) (fun cdv A outer s H vs Q E hr h=>?_),hm,F.kp,F.binds fun _ _ _ _ _ _ us hl=>match us,hl with | [_,_,_],_=>rfl⟩
 ·obtain ⟨a,dx,pn,mp,bp,xp,mk,bk,xk,s,key,rp,row,rfl,_⟩:=h
  rfl
 ·obtain ⟨a,dx,pn,mp,bp,xp,mk,bk,xk,st,key,rp,row,rfl,hH,g,hrp,hlen,k⟩:=h
  have hu:=hu_of hr
  refine ⟨_,pss_cons (ps_if (L2.PW.pt (pw_or (pt_cmpR op_lt (pv 1) (pe_int) (nomark _)) (pw_or1 (pt_cmpR op_gt (pv 1) (pe_gv rfl T.MOST_KEY) (nomark _))))) (pss_one (ps_ret (pe_lst (pa_cons (pe_un un_neg pe_int) (pa_nil))))) (pss_nil)) (pss_cons (ps_if (pt_not (pt_val (pe_cal cI hr rfl pass0 (pa_cons (pv 2) (pa_nil))))) (pss_one (ps_ret (pe_lst (pa_cons (pe_un un_neg pe_int) (pa_nil))))) (pss_nil)) (pss_cons (ps_if (L2.PW.pt (pw_and (pt_cmpR op_eq (pe_callB call_lenD (by rfl) T.bLen PySem.boot_len (pa_cons (pe_fld (pv 0) rfl) (pa_nil))) (pe_gv rfl T.MOST_BOXES) (nomark _)) (pw_and1 (pt_cmp (pc_dnotin hu (pv 1) (pe_fld (pv 0) rfl)))))) (pss_one (ps_ret (pe_lst (pa_cons (pe_un un_neg pe_int) (pa_nil))))) (pss_nil)) (pss_cons (ps_dput hu (pe_fld (pv 0) rfl) (pv 1) (pv 2) rfl) (pss_one (ps_ret (pe_lst (pa_cons (pe_callB call_lenD (by rfl) T.bLen PySem.boot_len (pa_cons (pe_fld (pv 0) rfl) (pa_nil))) (pa_nil)))))))),?_⟩
  have hno : ¬ (1 ≤ key ∧ key ≤ 1000000000) → ∀ p,H p = none → Q (.ref p) (upd H p (.lst [V.int (-1)])):=fun hw p hp=>by
   have e : Vbchai.step st (.box key row) = (st,[-1]):=by
    simp only [Vbchai.step]
    rw [if_pos (within_no (lo:=1) (hi:=Vbchai.KEYS) hw)]
   rw [e] at k
   exact k.stay hH g (Same.refl H) hp
  refine ⟨_,rfl,_,_,rfl,rfl,_,rfl,?_⟩
  refine ite2 (fun z=>?_) (fun z=>?_)
  ·have z:=of_decide_eq_true z
   exact iteT ⟨_,rfl,(by show 1 ≤ sizeLine; decide),fun p hp=>hno (by omega) p hp⟩
  ·have z : ¬ key < 1:=fun q=>z (decide_eq_true q)
   refine ⟨_,rfl,_,_,rfl,rfl,_,rfl,?_⟩
   refine ite2 (fun z2=>?_) (fun z2=>?_)
   ·have z2:=of_decide_eq_true z2
    exact ⟨_,rfl,(by show 1 ≤ sizeLine; decide),fun p hp=>hno (by omega) p hp⟩
   ·have z2 : ¬ (1000000000 : Int) < key:=fun q=>z2 (decide_eq_true q)
    have hwt : Vbchai.within key 1 Vbchai.KEYS = true:=within_iff.mpr ⟨by show (1 : Int) ≤ key; omega,by show key ≤ (1000000000 : Int); omega⟩
    have hstep : Vbchai.step st (.box key row) = match Vbchai.boxOf row with
      | none=>(st,[-2])
      | some y=>if Vbchai.BOXES ≤ st.scenes.length ∧ (st.scenes.any fun z=>z.key == key.toNat) = false then (st,[-3]) else ({ st with scenes:=Vbchai.putScene { key:=key.toNat,box:=y } st.scenes },[((Vbchai.putScene { key:=key.toNat,box:=y } st.scenes).length : Int)]):=by
     simp only [Vbchai.step]
     rw [if_neg (by rw [hwt]; decide)]
     rfl
    rw [hstep] at k
    refine ⟨_,rfl,rp,row,rfl,hrp,hlen,fun H1 s1=>⟨_,rfl,?_⟩⟩
    cases hbx : Vbchai.boxOf row with
    | none =>
     rw [hbx] at k
     exact iteT ⟨_,rfl,(by show 1 ≤ sizeLine; decide),fun p hp=>k.stay hH g s1 hp⟩
    | some y =>
     rw [hbx] at k
     dsimp only at k
     obtain ⟨bv,bo⟩:=box_val hbx
     have hH1:=hH.same s1
     have lx:=hH.rx.len g.sasc
     have sl:=g.slen
     have ekey : key = ((key.toNat : Nat) : Int):=by omega
     have eany : (st.scenes.any fun z=>z.key == key.toNat) = (valV xk (.inl key)).isSome:=by
      rw [scene_any hH.rx]
      congr 1
      funext z
      by_cases h : z.key = key.toNat
      ·have : (z.key : Int) = key:=by omega
       rw [beq_iff_eq.mpr h,beq_iff_eq.mpr this]
      ·have : ¬ (z.key : Int) = key:=by omega
       rw [beq_eq_false_iff_ne.mpr h,beq_eq_false_iff_ne.mpr this]
     refine iteF ?_
     have fin : ¬ (Vbchai.BOXES ≤ st.scenes.length ∧ (st.scenes.any fun z=>z.key == key.toNat) = false) → ∀ p,(upd H1 xp (.dK (putK xk (Sum.inl key) (.ref rp)))) p = none → Q (.ref p) (upd (upd H1 xp (.dK (putK xk (Sum.inl key) (.ref rp)))) p (.lst [V.int ((putK xk (Sum.inl key) (V.ref rp)).length : Nat)])):=fun hc p hp=>by
      rw [if_neg hc] at k
      have no:=dict_ne_obj hH1.box hH1.obj
      have kp : KeepH a H1 (upd H1 xp (.dK (putK xk (Sum.inl key) (.ref rp)))):=keep_put hH1.box
      have hr1:=s1 _ _ hrp
      have r1:=(hH1.rx.imp fun _ _ e=>box_keep e kp hH1.obj).put g.sasc (x:={ key:=key.toNat,box:=y }) (v:=.ref rp) ⟨rp,rfl,by rw [show (({ key:=key.toNat,box:=y } : Scene).box) = y from rfl,bv]; exact kp _ _ hr1 (ne_of hr1 hH1.obj (by intro z; cases z)) (fun _ z=>by cases z)⟩
      rw [← putScene_eq,show (((({ key:=key.toNat,box:=y } : Scene).key : Nat)) : Int) = key from ekey.symm] at r1
      have upS : Up Scene.key (Vbchai.putScene { key:=key.toNat,box:=y } st.scenes):=by rw [putScene_eq]; exact up_putBy _ g.sasc
      have l1:=r1.len upS
      have lenS : (Vbchai.putScene { key:=key.toNat,box:=y } st.scenes).length ≤ 6:=by
       rw [← l1]
       cases hv : (valV xk (.inl key)).isSome with
       | true =>
        unfold putK
        rw [if_pos (by rw [valV_any]; exact hv),List.length_map]
        omega
       | false =>
        have h5 : st.scenes.length < 6:=by
         rcases Nat.lt_or_ge st.scenes.length 6 with q | q
         ·exact q
         ·exact absurd ⟨q,by rw [eany]; exact hv⟩ hc
        have:=length_putK xk (Sum.inl key) (V.ref rp)
        omega
      have gp : Good { st with scenes:=Vbchai.putScene { key:=key.toNat,box:=y } st.scenes }:=⟨g.now,g.nowT,g.asc,g.mem,upS,fun z hz=>by
       have hz : z ∈ Vbchai.putScene { key:=key.toNat,box:=y } st.scenes:=hz
       rw [putScene_eq] at hz
       rcases (mem_putBy Scene.key g.sasc z).mp hz with rfl | ⟨h,_⟩
       ·exact ⟨bo,by show 1 ≤ key.toNat; omega,by show key.toNat ≤ 1000000000; omega⟩
       ·exact g.scn z h,lenS⟩
      have s3:=Same.new (o:=.lst [V.int ((putK xk (Sum.inl key) (V.ref rp)).length : Nat)]) hp
      have hou : HouseAt D (upd H1 xp (.dK (putK xk (Sum.inl key) (.ref rp)))) a dx pn mp bp xp mk bk (putK xk (Sum.inl key) (.ref rp)) { st with scenes:=Vbchai.putScene { key:=key.toNat,box:=y } st.scenes } :=
       ⟨by rw [upd_ne no.symm]; exact hH1.obj,kp _ _ hH1.now (ne_of hH1.now hH1.obj (by intro z; cases z)) (fun _ z=>by cases z),by rw [upd_ne hH.mx]; exact hH1.mar,by rw [upd_ne hH.bx]; exact hH1.bok,upd_same,hH.mb,hH.mx,hH.bx,hH1.rm,hH1.rb.imp fun _ _ e=>bok_keep e kp hH1.obj,r1⟩
      refine k _ pn _ _ _ p (hou.same s3) gp (s1.free (free_upd hp)) ?_ (fun b' o e n1 n2 n3 n4=>s3 _ _ (by rw [upd_ne n4]; exact s1 b' o e)) fun N _ n h=>h.putX (n rp List.mem_cons_self)
      rw [upd_same,l1]
      rfl
     have tail : ∀ σ : L2.St,σ = [some (.ref a),some (.int key),some (.ref rp)] → True:=fun _ _=>trivial
     refine ⟨_,rfl,a,D.hou,dx,_,_,rfl,hH1.obj,T.hou,T.hou_x,houF_x _ _ _ _,xp,_,rfl,hH1.box,rfl,_,rfl,?_⟩
     rw [dec_int_eq]
     have no:=dict_ne_obj hH1.box hH1.obj
     by_cases h6 : st.scenes.length = 6
     ·rw [decide_eq_true (show ((xk.length : Nat) : Int) = 6 by omega)]
      refine iteT ?_
      refine ⟨_,rfl,_,rfl,a,D.hou,dx,_,_,rfl,hH1.obj,T.hou,T.hou_x,houF_x _ _ _ _,xp,_,rfl,dgetO hH1.box,_,rfl,?_⟩
      cases hv : (valV xk (.inl key)).isSome with
      | false =>
       rw [if_pos ⟨by show 6 ≤ _; omega,by rw [eany]; exact hv⟩] at k
       exact iteT ⟨_,rfl,(by show 1 ≤ sizeLine; decide),fun p hp=>k.stay hH g s1 hp⟩
      | true =>
       refine iteF ⟨_,rfl,_,rfl,a,D.hou,dx,_,_,rfl,hH1.obj,T.hou,T.hou_x,houF_x _ _ _ _,_,rfl,xp,_,rfl,DPut.k (k:=Sum.inl key) hH1.box (lt_line (by omega)),?_⟩
       exact ⟨_,rfl,a,D.hou,dx,_,_,rfl,by rw [upd_ne no.symm]; exact hH1.obj,T.hou,T.hou_x,houF_x _ _ _ _,xp,_,rfl,upd_same,(by show 1 ≤ sizeLine; decide),fin (fun z=>by rw [eany,hv] at z; exact absurd z.2 (by decide))⟩
     ·rw [decide_eq_false (show ¬ ((xk.length : Nat) : Int) = 6 by omega)]
      refine iteF (iteF ⟨_,rfl,_,rfl,a,D.hou,dx,_,_,rfl,hH1.obj,T.hou,T.hou_x,houF_x _ _ _ _,_,rfl,xp,_,rfl,DPut.k (k:=Sum.inl key) hH1.box (lt_line (by omega)),?_⟩)
      exact ⟨_,rfl,a,D.hou,dx,_,_,rfl,by rw [upd_ne no.symm]; exact hH1.obj,T.hou,T.hou_x,houF_x _ _ _ _,xp,_,rfl,upd_same,(by show 1 ≤ sizeLine; decide),fin (fun z=>by have : 6 ≤ _:=z.1; omega)⟩
abbrev s_drop_box : Stmt:=top 45
def spUnbox (D : Ads) : Sp:=fun vs H Q _=>∃ (a dx pn mp bp xp : Addr) (mk bk xk : List (Key × V)) (s : State) (key : Int),vs = [.ref a,.int key] ∧ HouseAt D H a dx pn mp bp xp mk bk xk s ∧ Good s ∧ Outs D H a dx pn mp bp xp bk xk [] Q (Vbchai.step s (.unbox key))
theorem sc_dbox : FnScope ["house","key"] ["house","key"] (defScope s_drop_box):=scm
theorem ok_dbox (F : FunG K mg "drop_box" s_drop_box) (T : Txt K mg D) : Cal P w K mg base CX0 1 "drop_box" ["house","key"] (spUnbox D):=by
 obtain ⟨f,fd,F,hm⟩:=F
 refine ⟨f,fd,F.ok sc_dbox (fun vs H Q E h=>?_) (fun cdv A outer s H vs Q E hr h=>?_),hm,F.kp,F.binds fun _ _ _ _ _ _ us hl=>match us,hl with | [_,_],_=>rfl⟩
 ·obtain ⟨a,dx,pn,mp,bp,xp,mk,bk,xk,s,key,rfl,_⟩:=h
  rfl
 ·obtain ⟨a,dx,pn,mp,bp,xp,mk,bk,xk,st,key,rfl,hH,g,k⟩:=h
  have hu:=hu_of hr
  refine ⟨_,pss_cons (ps_if (pt_cmp (pc_dnotin hu (pv 1) (pe_fld (pv 0) rfl))) (pss_one (ps_ret (pe_lst (pa_cons (pe_un un_neg pe_int) (pa_nil))))) (pss_nil)) (pss_cons (ps_expr (pe_dpop1 (pe_fld (pv 0) rfl) (pv 1) ⟨rfl,rfl,rfl,rfl⟩)) (pss_one (ps_ret (pe_lst (pa_cons (pe_callB call_lenD (by rfl) T.bLen PySem.boot_len (pa_cons (pe_fld (pv 0) rfl) (pa_nil))) (pa_nil)))))),?_⟩
  refine ⟨_,rfl,_,rfl,a,D.hou,dx,_,_,rfl,hH.obj,T.hou,T.hou_x,houF_x _ _ _ _,xp,_,rfl,dgetO hH.box,_,rfl,?_⟩
  have eany:=scene_any hH.rx key
  cases hv : valV xk (.inl key) with
  | none =>
   have e : Vbchai.step st (.unbox key) = (st,[-1]):=by
    simp only [Vbchai.step]
    rw [if_pos (by rw [← eany,hv]; rfl)]
   rw [e] at k
   exact iteT ⟨_,rfl,(by show 1 ≤ sizeLine; decide),fun p hp=>k.stay hH g (Same.refl H) hp⟩
  | some v =>
   have e : Vbchai.step st (.unbox key) = ({ st with scenes:=st.scenes.filter fun z=>(z.key : Int) != key },[((st.scenes.filter fun z=>(z.key : Int) != key).length : Int)]):=by
    simp only [Vbchai.step]
    rw [if_neg (by rw [← eany,hv]; simp)]
   rw [e] at k
   refine iteF ?_
   refine ⟨_,rfl,a,D.hou,dx,_,_,rfl,hH.obj,T.hou,T.hou_x,houF_x _ _ _ _,xp,rfl,.inl ⟨_,.inl hH.box⟩,_,rfl,xk,Sum.inl key,v,hH.box,rfl,hv,?_⟩
   have no:=dict_ne_obj hH.box hH.obj
   have kp : KeepH a H (upd H xp (.dK (dropK xk (Sum.inl key)))):=keep_put hH.box
   have r1:=(hH.rx.imp fun _ _ e=>box_keep e kp hH.obj).drop key
   have gp : Good { st with scenes:=st.scenes.filter fun z=>(z.key : Int) != key }:=⟨g.now,g.nowT,g.asc,g.mem,g.sasc.filter _,fun z hz=>g.scn z (List.mem_filter.mp hz).1,Nat.le_trans (List.length_filter_le _ _) g.slen⟩
   have l1:=r1.len gp.sasc
   refine ⟨_,rfl,a,D.hou,dx,_,_,rfl,by rw [upd_ne no.symm]; exact hH.obj,T.hou,T.hou_x,houF_x _ _ _ _,xp,_,rfl,upd_same,(by show 1 ≤ sizeLine; decide),fun p hp=>?_⟩
   have s3:=Same.new (o:=.lst [V.int ((dropK xk (Sum.inl key)).length : Nat)]) hp
   have hou : HouseAt D (upd H xp (.dK (dropK xk (Sum.inl key)))) a dx pn mp bp xp mk bk (dropK xk (Sum.inl key)) { st with scenes:=st.scenes.filter fun z=>(z.key : Int) != key } :=
    ⟨by rw [upd_ne no.symm]; exact hH.obj,kp _ _ hH.now (ne_of hH.now hH.obj (by intro z; cases z)) (fun _ z=>by cases z),by rw [upd_ne hH.mx]; exact hH.mar,by rw [upd_ne hH.bx]; exact hH.bok,upd_same,hH.mb,hH.mx,hH.bx,hH.rm,hH.rb.imp fun _ _ e=>bok_keep e kp hH.obj,r1⟩
   refine k _ pn _ _ _ p (hou.same s3) gp (free_upd hp) ?_ (fun b' o e n1 n2 n3 n4=>s3 _ _ (by rw [upd_ne n4]; exact e)) fun _ _ _ h=>h.dropX
   rw [upd_same,l1]
   rfl
end
end VD
set_option maxRecDepth 100000
set_option maxHeartbeats 2000000
namespace VD
open PySem PySem.Spec PyProof.Rows L2 VM VX XL
open Vbchai (Leg Book Member Scene State Prices Box)
section
variable {P : Program} {w : World} {K : PySem.W.Frag} {mg : Str → Option Value} {base : Heap} {D : Ads}
abbrev s_are_rising_members : Stmt:=top 67
def spRising (K : PySem.W.Frag) (D : Ads) : Sp:=fun vs H Q _=>∃ (a nl : Addr) (s : State) (ns : List Int),vs = [.ref a,.ref nl] ∧ HouAt D H a s ∧ Good s ∧ SqL K H nl (intsV ns) ∧ Q (.bl (risFrom (isMem s) 0 ns)) H
theorem sc_rising : FnScope ["house","numbers","before","who"] ["house","numbers"] (defScope s_are_rising_members):=scm
theorem ok_rising (F : FunG K mg "are_rising_members" s_are_rising_members) (T : Txt K mg D) : Cal P w K mg base CX0 1 "are_rising_members" ["house","numbers"] (spRising K D):=by
 obtain ⟨f,fd,F,hm⟩:=F
 refine ⟨f,fd,F.ok sc_rising (fun vs H Q E h=>?_) (fun cdv A outer s H vs Q E hr h=>?_),hm,F.kp,F.binds fun _ _ _ _ _ _ us hl=>match us,hl with | [_,_],_=>rfl⟩
 ·obtain ⟨a,nl,s,ns,rfl,_⟩:=h
  rfl
 ·obtain ⟨a,nl,st,ns,rfl,⟨dx,pn,mp,bp,xp,mk,bk,xk,hH⟩,g,hnl,k⟩:=h
  have hu:=hu_of hr
  refine ⟨_,pss_cons (ps_set (i:=2) sc_rising.nd rfl (Or.inl rfl) (pe_int)) (pss_cons (ps_for PassesOwn.never rfl (pi_list (pv 1)) (pg_name (i:=3) sc_rising.nd rfl (Or.inl rfl)) (pss_cons (ps_if (L2.PW.pt (pw_or (pt_cmpR op_le (pv 3) (pv 2) (nomark _)) (pw_or1 (pt_cmp (pc_dnotin hu (pv 3) (pe_fld (pv 0) rfl)))))) (pss_one (ps_ret (pe_bl))) (pss_nil)) (pss_one (ps_set (i:=2) sc_rising.nd rfl (Or.inl rfl) (pv 3))))) (pss_one (ps_ret (pe_bl)))),?_⟩
  refine ⟨_,rfl,nl,rfl,⟨_,hnl⟩,for_list (K:=K) (a:=nl) (xs:=intsV ns) (fun i σ H'=>H' = H ∧ ∃ (b : Int) (v3 : Option V),σ = [some (.ref a),some (.ref nl),some (.int b),v3] ∧ risFrom (isMem st) 0 ns = risFrom (isMem st) b (ns.drop i))
   ⟨rfl,0,none,rfl,rfl⟩ (fun i σ H' _ ⟨e,_⟩=>by rw [e]; exact hnl) ?_ ?_⟩
  ·rintro i y σ H' hi ⟨rfl,b,v3,rfl,he⟩
   obtain ⟨n,hn,rfl⟩:=intsV_at hi
   rw [drop_at hn,risFrom] at he
   refine ⟨_,rfl,_,rfl,_,_,rfl,rfl,_,rfl,?_⟩
   refine ite2 (fun z=>?_) (fun z=>?_)
   ·rw [if_pos (of_decide_eq_true z)] at he
    rw [he] at k
    exact iteT k
   ·have z : ¬ n ≤ b:=fun q=>z (decide_eq_true q)
    rw [if_neg z] at he
    refine ⟨_,rfl,_,rfl,a,D.hou,dx,_,_,rfl,hH.obj,T.hou,T.hou_b,houF_b _ _ _ _,bp,_,rfl,dgetO hH.bok,_,rfl,?_⟩
    rw [isMem_eq g.asc hH.rb]
    cases hm' : isMem st n with
    | false =>
     rw [if_neg (by rw [hm']; decide)] at he
     rw [he] at k
     exact iteT k
    | true =>
     rw [if_pos hm'] at he
     refine iteF ?_
     exact ⟨_,rfl,rfl,n,some (.int n),rfl,he⟩
  ·rintro σ H' ⟨rfl,b,v3,rfl,he⟩
   rw [intsV_len,List.drop_length,risFrom] at he
   rw [he] at k
   exact k
abbrev s_are_defaults : Stmt:=top 68
def spDefaults : Sp:=fun vs H Q _=>∃ k : Int,vs = [.int k] ∧ Q (.bl (Vbchai.isDefaults k)) H
theorem sc_def : FnScope ["k"] ["k"] (defScope s_are_defaults):=scm
theorem ok_def (F : FunG K mg "are_defaults" s_are_defaults) (T : Txt K mg D) : Cal P w K mg base CX0 1 "are_defaults" ["k"] (spDefaults):=by
 obtain ⟨f,fd,F,hm⟩:=F
 refine ⟨f,fd,F.ok sc_def (fun vs H Q E h=>?_) (fun cdv A outer s H vs Q E hr h=>?_),hm,F.kp,F.binds fun _ _ _ _ _ _ us hl=>match us,hl with | [_],_=>rfl⟩
 ·obtain ⟨k,rfl,_⟩:=h
  rfl
 ·obtain ⟨n,rfl,k⟩:=h
  refine ⟨_,pss_one (ps_ret (pe_chain op_le op_le (pe_int) (pv 0) (pe_gv rfl T.MOST_DEFAULTS))),?_⟩
  unfold Vbchai.isDefaults Vbchai.within at k
  refine ⟨_,rfl,_,_,rfl,rfl,_,rfl,?_⟩
  refine ite2 (fun z=>?_) (fun z=>?_)
  ·have z:=of_decide_eq_true z
   rw [decide_eq_true (show (((0 : Nat) : Int)) ≤ n from z),Bool.true_and] at k
   exact ⟨_,_,rfl,rfl,k⟩
  ·have z : ¬ (0 : Int) ≤ n:=fun q=>z (decide_eq_true q)
   rw [decide_eq_false (show ¬ (((0 : Nat) : Int)) ≤ n from z),Bool.false_and] at k
   exact k
def Tells (H : Hp) (Q : VK) (l : List Int) : Prop:=∀ H' p,H p = none → H' p = some (.lst (intsV l)) → Same H H' → Q (.ref p) H'
theorem Tells.new {H H1 : Hp} {Q : VK} {l : List Int} {p : Addr} (k : Tells H Q l) (s : Same H H1) (hp : H1 p = none) : Q (.ref p) (upd H1 p (.lst (intsV l))):=k _ p (s.free hp) upd_same (s.trans (Same.new hp))
theorem defaults {k : Int} (h : Vbchai.isDefaults k = true) : k = ((k.toNat : Nat) : Int) ∧ k.toNat ≤ 3:=by
 obtain ⟨h1,h2⟩:=within_iff.mp h
 have h1 : (0 : Int) ≤ k:=h1
 have h2 : k ≤ (3 : Int):=h2
 omega
abbrev s_tell_uncovered : Stmt:=top 69
def spTUnc (D : Ads) : Sp:=fun vs H Q _=>∃ (a nl : Addr) (s : State) (ns : List Int),vs = [.ref a,.ref nl] ∧ HouAt D H a s ∧ Good s ∧ H nl = some (.lst (intsV ns)) ∧ ns.length ≤ 16 ∧ Tells H Q (Vbchai.step s (.uncovered ns)).2
theorem sc_tunc : FnScope ["house","numbers"] ["house","numbers"] (defScope s_tell_uncovered):=scm
theorem ok_tunc (F : FunG K mg "tell_uncovered" s_tell_uncovered) (T : Txt K mg D) (cR : Cal P w K mg base CX0 1 "are_rising_members" ["house","numbers"] (spRising K D)) (cN : Cal P w K mg base CX0 6 "need_of_set" ["house","numbers"] (spNeedSet K D)) : Cal P w K mg base CX0 7 "tell_uncovered" ["house","numbers"] (spTUnc D):=by
 obtain ⟨f,fd,F,hm⟩:=F
 refine ⟨f,fd,F.ok sc_tunc (fun vs H Q E h=>?_) (fun cdv A outer s H vs Q E hr h=>?_),hm,F.kp,F.binds fun _ _ _ _ _ _ us hl=>match us,hl with | [_,_],_=>rfl⟩
 ·obtain ⟨a,nl,s,ns,rfl,_⟩:=h
  rfl
 ·obtain ⟨a,nl,st,ns,rfl,hH,g,hnl,hlen,k⟩:=h
  have hr1 : Room 1 _:=hr.mono (by decide)
  refine ⟨_,pss_cons (ps_if (pt_not (pt_val (pe_cal cR hr1 rfl pass0 (pa_cons (pv 0) (pa_cons (pv 1) (pa_nil)))))) (pss_one (ps_ret (pe_lst (pa_cons (pe_un un_neg pe_int) (pa_nil))))) (pss_nil)) (pss_one (ps_ret (pe_cal cN hr rfl pass0 (pa_cons (pv 0) (pa_cons (pv 1) (pa_nil)))))),?_⟩
  refine ⟨_,rfl,_,rfl,a,nl,st,ns,rfl,hH,g,sqL_of hnl,_,rfl,?_⟩
  rcases named_ok g ns with ⟨h1,ms,h2,h3,h4⟩ | ⟨h1,h2⟩
  ·rw [h1]
   have e : (Vbchai.step st (.uncovered ns)).2 = toldMost ms (Vbchai.uncovered st ms):=by simp only [Vbchai.step]; rw [h2]; rfl
   rw [e] at k
   subst h3
   refine iteF ⟨_,rfl,_,rfl,a,nl,st,ms,rfl,hH.toR,g,sqL_of hnl,by simpa [whos] using hlen,h4,k⟩
  ·rw [h1]
   have e : (Vbchai.step st (.uncovered ns)).2 = [-1]:=by simp only [Vbchai.step]; rw [h2]
   rw [e] at k
   exact iteT ⟨_,rfl,(by show 1 ≤ sizeLine; decide),fun p hp=>k.new (Same.refl H) hp⟩
abbrev s_tell_fund : Stmt:=top 70
def spTFund (D : Ads) : Sp:=fun vs H Q _=>∃ (a : Addr) (s : State) (k : Int),vs = [.ref a,.int k] ∧ HouAt D H a s ∧ Good s ∧ Tells H Q (Vbchai.step s (.fund k)).2
theorem sc_tfund : FnScope ["house","k"] ["house","k"] (defScope s_tell_fund):=scm
theorem ok_tfund (F : FunG K mg "tell_fund" s_tell_fund) (T : Txt K mg D) (cK : Cal P w K mg base CX0 1 "are_defaults" ["k"] spDefaults) (cF : Cal P w K mg base CX0 6 "fund_for" ["house","k"] (spFund D)) : Cal P w K mg base CX0 7 "tell_fund" ["house","k"] (spTFund D):=by
 obtain ⟨f,fd,F,hm⟩:=F
 refine ⟨f,fd,F.ok sc_tfund (fun vs H Q E h=>?_) (fun cdv A outer s H vs Q E hr h=>?_),hm,F.kp,F.binds fun _ _ _ _ _ _ us hl=>match us,hl with | [_,_],_=>rfl⟩
 ·obtain ⟨a,s,k,rfl,_⟩:=h
  rfl
 ·obtain ⟨a,st,n,rfl,hH,g,k⟩:=h
  have hr1 : Room 1 _:=hr.mono (by decide)
  refine ⟨_,pss_cons (ps_if (pt_not (pt_val (pe_cal cK hr1 rfl pass0 (pa_cons (pv 1) (pa_nil))))) (pss_one (ps_ret (pe_lst (pa_cons (pe_un un_neg pe_int) (pa_nil))))) (pss_nil)) (pss_one (ps_ret (pe_cal cF hr rfl pass0 (pa_cons (pv 0) (pa_cons (pv 1) (pa_nil)))))),?_⟩
  refine ⟨_,rfl,n,rfl,_,rfl,?_⟩
  cases hd : Vbchai.isDefaults n with
  | false =>
   have e : (Vbchai.step st (.fund n)).2 = [-1]:=by simp only [Vbchai.step]; rw [if_pos hd]
   rw [e] at k
   exact iteT ⟨_,rfl,(by show 1 ≤ sizeLine; decide),fun p hp=>k.new (Same.refl H) hp⟩
  | true =>
   have e : (Vbchai.step st (.fund n)).2 = Vbchai.needTold (Vbchai.fund st n.toNat):=by simp only [Vbchai.step]; rw [if_neg (by rw [hd]; decide)]
   rw [e] at k
   obtain ⟨e1,e2⟩:=defaults hd
   exact iteF ⟨_,rfl,_,rfl,a,st,n.toNat,by rw [← e1]; rfl,hH,g,e2,k⟩
abbrev s_tell_without : Stmt:=top 71
def spTWo (D : Ads) : Sp:=fun vs H Q _=>∃ (a : Addr) (s : State) (k who : Int),vs = [.ref a,.int k,.int who] ∧ HouAt D H a s ∧ Good s ∧ Tells H Q (Vbchai.step s (.without k who)).2
theorem sc_without : FnScope ["house","k","who","left"] ["house","k","who"] (defScope s_tell_without):=scm
theorem same_copy {H H1 H2 : Hp} {p mp bp xp : Addr} (s : Same H H1) (f : SameH p mp bp xp H1 H2) (h0 : H p = none) (h1 : H mp = none) (h2 : H bp = none) (h3 : H xp = none) : Same H H2:=fun b o e=>f b o (s b o e) (ne_of_none e h0) (ne_of_none e h1) (ne_of_none e h2) (ne_of_none e h3)
theorem ok_without (F : FunG K mg "tell_without" s_tell_without) (T : Txt K mg D) (cK : Cal P w K mg base CX0 1 "are_defaults" ["k"] spDefaults) (cF : Cal P w K mg base CX0 6 "fund_for" ["house","k"] (spFund D)) (cC : Cal P w K mg base CX0 3 "copy_of" ["house"] (spCopy D)) (cD : Cal P w K mg base CX0 1 "drop_member" ["house","who"] (spDrop D)) : Cal P w K mg base CX0 7 "tell_without" ["house","k","who"] (spTWo D):=by
 obtain ⟨f,fd,F,hm⟩:=F
 refine ⟨f,fd,F.ok sc_without (fun vs H Q E h=>?_) (fun cdv A outer s H vs Q E hr h=>?_),hm,F.kp,F.binds fun _ _ _ _ _ _ us hl=>match us,hl with | [_,_,_],_=>rfl⟩
 ·obtain ⟨a,s,k,who,rfl,_⟩:=h
  rfl
 ·obtain ⟨a,st,n,who,rfl,hHo,g,k⟩:=h
  obtain ⟨dx,pn,mp,bp,xp,mk,bk,xk,hH⟩:=id hHo
  have hu:=hu_of hr
  have hr1 : Room 1 _:=hr.mono (by decide)
  have hr3 : Room 3 _:=hr.mono (by decide)
  refine ⟨_,pss_cons (ps_if (pt_not (pt_val (pe_cal cK hr1 rfl pass0 (pa_cons (pv 1) (pa_nil))))) (pss_one (ps_ret (pe_lst (pa_cons (pe_un un_neg pe_int) (pa_nil))))) (pss_nil)) (pss_cons (ps_if (pt_cmp (pc_dnotin hu (pv 2) (pe_fld (pv 0) rfl))) (pss_one (ps_ret (pe_lst (pa_cons (pe_un un_neg pe_int) (pa_nil))))) (pss_nil)) (pss_cons (ps_set (i:=3) sc_without.nd rfl (Or.inl rfl) (pe_cal cC hr3 rfl pass0 (pa_cons (pv 0) (pa_nil)))) (pss_cons (ps_expr (pe_cal cD hr1 rfl pass0 (pa_cons (pv 3) (pa_cons (pv 2) (pa_nil))))) (pss_one (ps_ret (pe_cal cF hr rfl pass0 (pa_cons (pv 3) (pa_cons (pv 1) (pa_nil))))))))),?_⟩
  refine ⟨_,rfl,n,rfl,_,rfl,?_⟩
  cases hd : Vbchai.isDefaults n with
  | false =>
   have e : (Vbchai.step st (.without n who)).2 = [-1]:=by simp only [Vbchai.step]; rw [if_pos hd]
   rw [e] at k
   exact iteT ⟨_,rfl,(by show 1 ≤ sizeLine; decide),fun p hp=>k.new (Same.refl H) hp⟩
  | true =>
   refine iteF ?_
   obtain ⟨e1,e2⟩:=defaults hd
   refine ⟨_,rfl,_,rfl,a,D.hou,dx,_,_,rfl,hH.obj,T.hou,T.hou_b,houF_b _ _ _ _,bp,_,rfl,dgetO hH.bok,_,rfl,?_⟩
   rw [isMem_eq g.asc hH.rb]
   unfold isMem
   cases em : Vbchai.memberOf st who with
   | none =>
    have e : (Vbchai.step st (.without n who)).2 = [-2]:=by simp only [Vbchai.step]; rw [if_neg (by rw [hd]; decide),em]
    rw [e] at k
    exact iteT ⟨_,rfl,(by show 1 ≤ sizeLine; decide),fun p hp=>k.new (Same.refl H) hp⟩
   | some m =>
    have e : (Vbchai.step st (.without n who)).2 = Vbchai.needTold (Vbchai.fund { st with members:=st.members.filter fun m=>(m.who : Int) != who } n.toNat):=by simp only [Vbchai.step]; rw [if_neg (by rw [hd]; decide),em]
    rw [e] at k
    have el : Vbchai.step st (.leave who) = ({ st with members:=st.members.filter fun m=>(m.who : Int) != who },[((st.members.filter fun m=>(m.who : Int) != who).length : Int)]):=by simp only [Vbchai.step]; rw [em]
    refine iteF ⟨_,rfl,a,st,rfl,hHo,fun H1 p hn hp0 s1=>?_⟩
    obtain ⟨dx1,pn1,mp1,bp1,xp1,mk1,bk1,xk1,h1,f1,f2,f3⟩:=hn
    refine ⟨_,rfl,_,rfl,p,dx1,pn1,mp1,bp1,xp1,mk1,bk1,xk1,st,who,rfl,h1,g,?_⟩
    rw [el]
    intro H2 pn2 mk2 bk2 xk2 p2 h2 g2 _ _ sh _
    have s2 : Same H H2:=same_copy s1 sh hp0 f1 f2 f3
    exact ⟨_,rfl,_,rfl,p,_,n.toNat,by rw [← e1]; rfl,⟨dx1,pn2,mp1,bp1,xp1,mk2,bk2,xk2,h2⟩,g2,e2,fun H3 p3 hf hp3 s3=>k H3 p3 (s2.free hf) hp3 (s2.trans s3)⟩
abbrev s_tell_if_trade : Stmt:=top 72
def spTIf (D : Ads) : Sp:=fun vs H Q _=>∃ (a : Addr) (s : State) (k x y : Int) (tp : Addr) (t : List Nat),vs = [.ref a,.int k,.int x,.int y,.ref tp] ∧ HouAt D H a s ∧ Good s ∧ H tp = some (.lst (natsV t)) ∧ t.length ≤ 4096 ∧ Tells H Q (Vbchai.step s (.ifTrade k x y t)).2
theorem sc_iftr : FnScope ["house","k","a","b","text","traded","made"] ["house","k","a","b","text"] (defScope s_tell_if_trade):=scm
theorem traded_neg {s : State} {x y e : Int} {t : List Nat} (h : Vbchai.traded s x y t = .inl e) : e < 0:=by
 unfold Vbchai.traded at h
 split at h
 ·split at h
  ·cases h; decide
  ·split at h
   ·rename_i he
    cases h
    unfold Vbchai.bookOf at he
    split at he
    ·cases he; omega
    ·cases he
   ·split at h
    ·cases h; decide
    ·cases h
 ·cases h; decide
theorem ok_iftr (F : FunG K mg "tell_if_trade" s_tell_if_trade) (T : Txt K mg D) (cK : Cal P w K mg base CX0 1 "are_defaults" ["k"] spDefaults) (cF : Cal P w K mg base CX0 6 "fund_for" ["house","k"] (spFund D)) (cC : Cal P w K mg base CX0 3 "copy_of" ["house"] (spCopy D)) (cT : Cal P w K mg base CX0 8 "make_trade" ["house","a","b","text"] (spTrade D)) : Cal P w K mg base CX0 9 "tell_if_trade" ["house","k","a","b","text"] (spTIf D):=by
 obtain ⟨f,fd,F,hm⟩:=F
 refine ⟨f,fd,F.ok sc_iftr (fun vs H Q E h=>?_) (fun cdv A outer s H vs Q E hr h=>?_),hm,F.kp,F.binds fun _ _ _ _ _ _ us hl=>match us,hl with | [_,_,_,_,_],_=>rfl⟩
 ·obtain ⟨a,s,k,x,y,tp,t,rfl,_⟩:=h
  rfl
 ·obtain ⟨a,st,n,ia,ib,tp,t,rfl,hHo,g,htp,hlen,k⟩:=h
  have hr1 : Room 1 _:=hr.mono (by decide)
  have hr3 : Room 3 _:=hr.mono (by decide)
  have hr6 : Room 6 _:=hr.mono (by decide)
  refine ⟨_,pss_cons (ps_if (pt_not (pt_val (pe_cal cK hr1 rfl pass0 (pa_cons (pv 1) (pa_nil))))) (pss_one (ps_ret (pe_lst (pa_cons (pe_un un_neg pe_int) (pa_nil))))) (pss_nil)) (pss_cons (ps_set (i:=5) sc_iftr.nd rfl (Or.inl rfl) (pe_cal cC hr3 rfl pass0 (pa_cons (pv 0) (pa_nil)))) (pss_cons (ps_set (i:=6) sc_iftr.nd rfl (Or.inl rfl) (pe_cal cT hr rfl pass0 (pa_cons (pv 5) (pa_cons (pv 2) (pa_cons (pv 3) (pa_cons (pv 4) (pa_nil))))))) (pss_cons (ps_if (pt_cmpR op_lt (pe_ix ix_list (pv 6) (pe_int) (fun _ _=>rfl)) (pe_int) (nomark _)) (pss_one (ps_ret (pv 6))) (pss_nil)) (pss_one (ps_ret (pe_cal cF hr6 rfl pass0 (pa_cons (pv 5) (pa_cons (pv 1) (pa_nil))))))))),?_⟩
  refine ⟨_,rfl,n,rfl,_,rfl,?_⟩
  cases hd : Vbchai.isDefaults n with
  | false =>
   have e : (Vbchai.step st (.ifTrade n ia ib t)).2 = [-1]:=by simp only [Vbchai.step]; rw [if_pos hd]
   rw [e] at k
   exact iteT ⟨_,rfl,(by show 1 ≤ sizeLine; decide),fun p hp=>k.new (Same.refl H) hp⟩
  | true =>
   obtain ⟨e1,e2⟩:=defaults hd
   refine iteF ⟨_,rfl,a,st,rfl,hHo,fun H1 p hn hp0 s1=>?_⟩
   obtain ⟨dx1,pn1,mp1,bp1,xp1,mk1,bk1,xk1,h1,f1,f2,f3⟩:=hn
   refine ⟨_,rfl,_,rfl,_,rfl,_,rfl,p,dx1,pn1,mp1,bp1,xp1,mk1,bk1,xk1,st,ia,ib,tp,t,rfl,h1,g,s1 _ _ htp,hlen,?_⟩
   have hst : Vbchai.step st (.trade ia ib t) = match Vbchai.traded st ia ib t with | .inl e=>(st,[e]) | .inr q=>(q,[0]):=rfl
   rw [hst]
   cases htr : Vbchai.traded st ia ib t with
   | inl e =>
    have eN:=traded_neg htr
    have ek : (Vbchai.step st (.ifTrade n ia ib t)).2 = [e]:=by simp only [Vbchai.step]; rw [if_neg (by rw [hd]; decide),htr]
    rw [ek] at k
    intro H2 pn2 mk2 bk2 xk2 p2 h2 g2 hf2 hp2 sh _
    have s2 : Same H H2:=same_copy s1 sh hp0 f1 f2 f3
    refine ⟨_,rfl,p2,_,_,_,rfl,rfl,sqL_of hp2,at_of (j:=0) rfl rfl,_,_,rfl,rfl,_,rfl,?_⟩
    refine ite2 (fun z=>?_) (fun z=>absurd (decide_eq_true eN) z)
    exact ⟨_,rfl,k H2 p2 (s1.free hf2) hp2 s2⟩
   | inr q =>
    have ek : (Vbchai.step st (.ifTrade n ia ib t)).2 = Vbchai.needTold (Vbchai.fund q n.toNat):=by simp only [Vbchai.step]; rw [if_neg (by rw [hd]; decide),htr]
    rw [ek] at k
    intro H2 pn2 mk2 bk2 xk2 p2 h2 g2 hf2 hp2 sh _
    have s2 : Same H H2:=same_copy s1 sh hp0 f1 f2 f3
    refine ⟨_,rfl,p2,_,_,_,rfl,rfl,sqL_of hp2,at_of (j:=0) rfl rfl,_,_,rfl,rfl,_,rfl,?_⟩
    refine ite2 (fun z=>dn z) (fun z=>?_)
    exact ⟨_,rfl,_,rfl,p,q,n.toNat,by rw [← e1]; rfl,⟨dx1,pn2,mp1,bp1,xp1,mk2,bk2,xk2,h2⟩,g2,e2,fun H3 p3 hf hp3 s3=>k H3 p3 (s2.free hf) hp3 (s2.trans s3)⟩
abbrev s_tell_enough : Stmt:=top 73
def spTEn (D : Ads) : Sp:=fun vs H Q _=>∃ (a : Addr) (s : State) (k fu : Int),vs = [.ref a,.int k,.int fu] ∧ HouAt D H a s ∧ Good s ∧ Tells H Q (Vbchai.step s (.enough k fu)).2
theorem sc_enough : FnScope ["house","k","fund","need"] ["house","k","fund"] (defScope s_tell_enough):=scm
theorem fund_len (st : State) {k : Nat} (hk : k ≤ 3) : (Vbchai.needTold (Vbchai.fund st k)).length ≤ 10:=by
 have hwl : (Vbchai.fund st k).who.length ≤ 3:=by
  rcases worst_mem (s:=st) (Vbchai.setsTo k st.members) noNeed with h | h
  ·show (Vbchai.worstSet st noNeed (Vbchai.setsTo k st.members)).who.length ≤ 3
   rw [h]; exact Nat.zero_le _
  ·exact (setsTo_mem h hk).1
 unfold Vbchai.needTold
 rw [List.length_cons,List.length_cons,List.length_append,List.length_map,where_len]
 omega
theorem ok_enough (F : FunG K mg "tell_enough" s_tell_enough) (T : Txt K mg D) (cK : Cal P w K mg base CX0 1 "are_defaults" ["k"] spDefaults) (cF : Cal P w K mg base CX0 6 "fund_for" ["house","k"] (spFund D)) : Cal P w K mg base CX0 7 "tell_enough" ["house","k","fund"] (spTEn D):=by
 obtain ⟨f,fd,F,hm⟩:=F
 refine ⟨f,fd,F.ok sc_enough (fun vs H Q E h=>?_) (fun cdv A outer s H vs Q E hr h=>?_),hm,F.kp,F.binds fun _ _ _ _ _ _ us hl=>match us,hl with | [_,_,_],_=>rfl⟩
 ·obtain ⟨a,s,k,fu,rfl,_⟩:=h
  rfl
 ·obtain ⟨a,st,n,fu,rfl,hHo,g,k⟩:=h
  have hr1 : Room 1 _:=hr.mono (by decide)
  refine ⟨_,pss_cons (ps_if (pt_not (pt_val (pe_cal cK hr1 rfl pass0 (pa_cons (pv 1) (pa_nil))))) (pss_one (ps_ret (pe_lst (pa_cons (pe_un un_neg pe_int) (pa_nil))))) (pss_nil)) (pss_cons (ps_if (L2.PW.pt (pw_or (pt_cmpR op_lt (pv 2) (pe_int) (nomark _)) (pw_or1 (pt_cmpR op_gt (pv 2) (pe_gv rfl T.MOST_FUND) (nomark _))))) (pss_one (ps_ret (pe_lst (pa_cons (pe_un un_neg pe_int) (pa_nil))))) (pss_nil)) (pss_cons (ps_set (i:=3) sc_enough.nd rfl (Or.inl rfl) (pe_cal cF hr rfl pass0 (pa_cons (pv 0) (pa_cons (pv 1) (pa_nil))))) (pss_cons (ps_if (pt_cmpR op_le (pe_ix ix_list (pv 3) (pe_int) (fun _ _=>rfl)) (pv 2) (nomark _)) (pss_one (ps_ret (pe_lst (pa_cons (pe_int) (pa_nil))))) (pss_nil)) (pss_one (ps_ret (pe_op op_cat (pe_lst (pa_cons (pe_int) (pa_nil))) (pv 3))))))),?_⟩
  refine ⟨_,rfl,n,rfl,_,rfl,?_⟩
  cases hd : Vbchai.isDefaults n with
  | false =>
   have e : (Vbchai.step st (.enough n fu)).2 = [-1]:=by simp only [Vbchai.step]; rw [if_pos hd]
   rw [e] at k
   exact iteT ⟨_,rfl,(by show 1 ≤ sizeLine; decide),fun p hp=>k.new (Same.refl H) hp⟩
  | true =>
   obtain ⟨e1,e2⟩:=defaults hd
   refine iteF ?_
   have hno : ¬ (0 ≤ fu ∧ fu ≤ 1000000000000000) → ∀ p,H p = none → Q (.ref p) (upd H p (.lst [V.int (-2)])):=fun hw p hp=>by
    have e : (Vbchai.step st (.enough n fu)).2 = [-2]:=by
     simp only [Vbchai.step]
     rw [if_neg (by rw [hd]; decide),if_pos (within_no (lo:=0) (hi:=Vbchai.CASH) hw)]
    rw [e] at k
    exact k.new (Same.refl H) hp
   refine ⟨_,rfl,_,_,rfl,rfl,_,rfl,?_⟩
   refine ite2 (fun z=>?_) (fun z=>?_)
   ·have z:=of_decide_eq_true z
    exact iteT ⟨_,rfl,(by show 1 ≤ sizeLine; decide),fun p hp=>hno (by omega) p hp⟩
   ·have z : ¬ fu < 0:=fun q=>z (decide_eq_true q)
    refine ⟨_,rfl,_,_,rfl,rfl,_,rfl,?_⟩
    refine ite2 (fun z2=>?_) (fun z2=>?_)
    ·have z2:=of_decide_eq_true z2
     exact ⟨_,rfl,(by show 1 ≤ sizeLine; decide),fun p hp=>hno (by omega) p hp⟩
    ·have z2 : ¬ (1000000000000000 : Int) < fu:=fun q=>z2 (decide_eq_true q)
     have hwt : Vbchai.within fu 0 Vbchai.CASH = true:=within_iff.mpr ⟨by show (0 : Int) ≤ fu; omega,by show fu ≤ (1000000000000000 : Int); omega⟩
     have e : (Vbchai.step st (.enough n fu)).2 = if (Vbchai.fund st n.toNat).amount ≤ fu then [1] else 0 :: Vbchai.needTold (Vbchai.fund st n.toNat):=by
      simp only [Vbchai.step]
      rw [if_neg (by rw [hd]; decide),if_neg (by rw [hwt]; decide)]
     rw [e] at k
     refine ⟨_,rfl,_,rfl,a,st,n.toNat,by rw [← e1]; rfl,hHo,g,e2,fun H1 p _ hp s1=>?_⟩
     refine ⟨_,rfl,p,_,_,_,rfl,rfl,sqL_of hp,at_of (j:=0) rfl rfl,_,rfl,_,_,rfl,rfl,_,rfl,?_⟩
     refine ite2 (fun z3=>?_) (fun z3=>?_)
     ·rw [if_pos (of_decide_eq_true z3)] at k
      exact ⟨(by show 1 ≤ sizeLine; decide),fun p2 hp2=>k.new s1 hp2⟩
     ·rw [if_neg fun q=>z3 (decide_eq_true q)] at k
      refine ⟨(by show 1 ≤ sizeLine; decide),fun p2 hp2=>?_⟩
      have s2:=Same.new (o:=.lst [V.int 0]) hp2
      have hl:=fund_len st e2
      refine ⟨_,rfl,p2,p,_,_,rfl,rfl,upd_same,s2 _ _ hp,(by show 1 + (fundV st n.toNat).length ≤ _; unfold fundV; rw [intsV_len]; exact le_line (by omega)),fun p3 hp3=>?_⟩
      exact k.new (s1.trans s2) hp3
abbrev s_tell_loss : Stmt:=top 74
def spTLoss (D : Ads) : Sp:=fun vs H Q _=>∃ (a nl pl : Addr) (s : State) (ns ps : List Int),vs = [.ref a,.ref nl,.ref pl] ∧ HouAt D H a s ∧ Good s ∧ H nl = some (.lst (intsV ns)) ∧ H pl = some (.lst (intsV ps)) ∧ ps.length ≤ 10000 ∧ Tells H Q (Vbchai.step s (.loss ns ps)).2
theorem sc_tloss : FnScope ["house","numbers","prices"] ["house","numbers","prices"] (defScope s_tell_loss):=scm
theorem ok_tloss (F : FunG K mg "tell_loss" s_tell_loss) (T : Txt K mg D) (cR : Cal P w K mg base CX0 1 "are_rising_members" ["house","numbers"] (spRising K D)) (cP : Cal P w K mg base CX0 1 "are_prices" ["row","how_many"] spPrices) (cL : Cal P w K mg base CX0 3 "loss_at" ["house","numbers","prices"] (spLoss K D)) : Cal P w K mg base CX0 4 "tell_loss" ["house","numbers","prices"] (spTLoss D):=by
 obtain ⟨f,fd,F,hm⟩:=F
 refine ⟨f,fd,F.ok sc_tloss (fun vs H Q E h=>?_) (fun cdv A outer s H vs Q E hr h=>?_),hm,F.kp,F.binds fun _ _ _ _ _ _ us hl=>match us,hl with | [_,_,_],_=>rfl⟩
 ·obtain ⟨a,nl,pl,s,ns,ps,rfl,_⟩:=h
  rfl
 ·obtain ⟨a,nl,pl,st,ns,ps,rfl,hH,g,hnl,hpl,hlen,k⟩:=h
  have hr1 : Room 1 _:=hr.mono (by decide)
  refine ⟨_,pss_cons (ps_if (pt_not (pt_val (pe_cal cR hr1 rfl pass0 (pa_cons (pv 0) (pa_cons (pv 1) (pa_nil)))))) (pss_one (ps_ret (pe_lst (pa_cons (pe_un un_neg pe_int) (pa_nil))))) (pss_nil)) (pss_cons (ps_if (pt_not (pt_val (pe_cal cP hr1 rfl pass0 (pa_cons (pv 2) (pa_cons (pe_int) (pa_nil)))))) (pss_one (ps_ret (pe_lst (pa_cons (pe_un un_neg pe_int) (pa_nil))))) (pss_nil)) (pss_one (ps_ret (pe_lst (pa_cons (pe_int) (pa_cons (pe_cal cL hr rfl pass0 (pa_cons (pv 0) (pa_cons (pv 1) (pa_cons (pv 2) (pa_nil))))) (pa_nil))))))),?_⟩
  refine ⟨_,rfl,_,rfl,a,nl,st,ns,rfl,hH,g,sqL_of hnl,_,rfl,?_⟩
  rcases named_ok g ns with ⟨h1,ms,h2,h3,h4⟩ | ⟨h1,h2⟩
  ·rw [h1]
   refine iteF ⟨_,rfl,pl,ps,4,rfl,hpl,hlen,fun H1 s1=>⟨_,rfl,?_⟩⟩
   by_cases hb : ps.length = 4 ∧ ps.all Vbchai.isPrice = true
   ·have e0 : Vbchai.pricesOf ps = some (ps.map Int.toNat):=if_pos hb
    have e : (Vbchai.step st (.loss ns ps)).2 = [0,Vbchai.lossAt st.now ms (ps.map Int.toNat)]:=by simp only [Vbchai.step]; rw [h2]; simp only []; rw [e0]
    rw [e] at k
    rw [hb.2,decide_eq_true hb.1]
    have hnn : ∀ z ∈ ps,0 ≤ z:=fun z hz=>(within_iff.mp (List.all_eq_true.mp hb.2 z hz)).1
    subst h3
    have hp1:=s1 _ _ hpl
    rw [← natsV_ints hnn] at hp1
    refine iteF ⟨_,rfl,_,rfl,_,rfl,a,nl,pl,st,ms,ps.map Int.toNat,rfl,(hH.same s1).toR,g,sqL_of (s1 _ _ hnl),h4,.inl (sqL_of hp1),by rw [List.length_map]; exact hb.1,fun H2 s2=>⟨(by show 2 ≤ sizeLine; decide),fun p hp=>?_⟩⟩
    exact k.new (s1.trans s2) hp
   ·have e0 : Vbchai.pricesOf ps = none:=if_neg hb
    have e : (Vbchai.step st (.loss ns ps)).2 = [-2]:=by simp only [Vbchai.step]; rw [h2]; simp only []; rw [e0]
    rw [e] at k
    have : (decide (ps.length = 4) && ps.all Vbchai.isPrice) = false:=by
     cases q : (decide (ps.length = 4) && ps.all Vbchai.isPrice) with
     | false=>rfl
     | true =>
      rw [Bool.and_eq_true] at q
      exact absurd ⟨of_decide_eq_true q.1,q.2⟩ hb
    rw [this]
    exact iteT ⟨_,rfl,(by show 1 ≤ sizeLine; decide),fun p hp=>k.new s1 hp⟩
  ·rw [h1]
   have e : (Vbchai.step st (.loss ns ps)).2 = [-1]:=by simp only [Vbchai.step]; rw [h2]
   rw [e] at k
   exact iteT ⟨_,rfl,(by show 1 ≤ sizeLine; decide),fun p hp=>k.new (Same.refl H) hp⟩
abbrev s_tell_members : Stmt:=top 76
def spTMem (D : Ads) : Sp:=fun vs H Q _=>∃ (a : Addr) (s : State),vs = [.ref a] ∧ HouAt D H a s ∧ Good s ∧ Tells H Q (Vbchai.step s .members).2
theorem sc_tmem : FnScope ["house","told","who"] ["house"] (defScope s_tell_members):=scm
def memRow (ms : List Member) : List Int:=ms.flatMap fun m=>[(m.who : Int),(m.margin : Int),(m.book.length : Int)]
theorem memRow_len (ms : List Member) : (memRow ms).length ≤ 3 * ms.length:=flat_len fun m _=>Nat.le_refl _
theorem ok_tmem (F : FunG K mg "tell_members" s_tell_members) (T : Txt K mg D) : Cal P w K mg base CX0 1 "tell_members" ["house"] (spTMem D):=by
 obtain ⟨f,fd,F,hm⟩:=F
 refine ⟨f,fd,F.ok sc_tmem (fun vs H Q E h=>?_) (fun cdv A outer s H vs Q E hr h=>?_),hm,F.kp,F.binds fun _ _ _ _ _ _ us hl=>match us,hl with | [_],_=>rfl⟩
 ·obtain ⟨a,s,rfl,_⟩:=h
  rfl
 ·obtain ⟨a,st,rfl,⟨dx,pn,mp,bp,xp,mk,bk,xk,hH⟩,g,k⟩:=h
  have hu:=hu_of hr
  have e : (Vbchai.step st .members).2 = (st.members.length : Int) :: memRow st.members:=rfl
  rw [e] at k
  have lb:=hH.rb.len g.asc
  have g8:=g.len
  refine ⟨_,pss_cons (ps_set (i:=1) sc_tmem.nd rfl (Or.inl rfl) (pe_lst (pa_cons (pe_callB call_lenD (by rfl) T.bLen PySem.boot_len (pa_cons (pe_fld (pv 0) rfl) (pa_nil))) (pa_nil)))) (pss_cons (ps_for PassesOwn.never rfl (pi_list (pe_callB (cr_sortedD rfl) (by rfl) T.bSorted PyProof.Rows.boot_sorted (pa_cons (pe_fld (pv 0) rfl) (pa_nil)))) (pg_name (i:=2) sc_tmem.nd rfl (Or.inl rfl)) (pss_one (ps_expr (pe_bm PySem.F.plainAttrs_list PySem.F.slot_list_extend PySem.F.type_list_extend mt_extend (pv 1) (pa_cons (pe_lst (pa_cons (pv 2) (pa_cons (pe_dget hu (pe_fld (pv 0) rfl) (pv 2) (fun _ _=>rfl)) (pa_cons (pe_callB call_len_seq (by rfl) T.bLen PySem.boot_len (pa_cons (pe_dget hu (pe_fld (pv 0) rfl) (pv 2) (fun _ _=>rfl)) (pa_nil))) (pa_nil))))) (pa_nil)))))) (pss_one (ps_ret (pv 1)))),?_⟩
  refine ⟨_,rfl,a,D.hou,dx,_,_,rfl,hH.obj,T.hou,T.hou_b,houF_b _ _ _ _,bp,_,rfl,hH.bok,(by show 1 ≤ sizeLine; decide),fun tp htp=>?_⟩
  have s1:=Same.new (o:=.lst [V.int (bk.length : Nat)]) htp
  obtain ⟨ks,ek,kl,kp,hks⟩:=members_sorted g hH.rb
  have hH1:=hH.same s1
  refine ⟨_,rfl,a,D.hou,dx,_,_,rfl,hH1.obj,T.hou,T.hou_b,houF_b _ _ _ _,bp,bk,ks,rfl,.inl hH1.bok,ek,kl,fun ns sl p1 p2 hsl=>?_⟩
  have hns:=hks ns p1 p2
  subst hns
  have s2:=Same.new (o:=.lst ((whos st.members).map V.int)) hsl
  have nst : sl ≠ tp:=(ne_of_none (upd_same (H:=H) (a:=tp) (o:=.lst [V.int (bk.length : Nat)])) hsl).symm
  have htp2:=(s2 _ _ (upd_same (H:=H) (a:=tp) (o:=.lst [V.int (bk.length : Nat)]))).trans (show some (HO.lst [V.int ((bk.length : Nat) : Int)]) = some (HO.lst [V.int ((st.members.length : Nat) : Int)]) by rw [lb])
  refine ⟨sl,rfl,⟨_,sqL_of upd_same⟩,for_list (K:=K) (a:=sl) (xs:=whosV st.members) (fun i σ H'=>∃ v2 : Option V,σ = [some (.ref a),some (.ref tp),v2] ∧ Same H H' ∧ H' sl = some (.lst (whosV st.members)) ∧ H' tp = some (.lst (intsV ((st.members.length : Int) :: memRow (st.members.take i)))))
   ⟨none,rfl,s1.trans s2,upd_same,htp2⟩ (fun i σ H' _ ⟨_,_,_,h,_⟩=>sqL_of h) ?_ ?_⟩
  ·rintro i y σ H' hi ⟨v2,rfl,s3,hsl3,htp3⟩
   obtain ⟨m,hmi,rfl⟩:=whosV_at hi
   have hmm:=List.mem_of_getElem? hmi
   have hH3:=hH.same s3
   obtain ⟨v1,ev1,rfl⟩:=hH3.rm.val m hmm
   obtain ⟨v2',ev2,q,rfl,ps,hq,hps⟩:=hH3.rb.val m hmm
   refine ⟨_,rfl,.inl ⟨rfl,_,sqL_of htp3⟩,_,rfl,_,rfl,a,D.hou,dx,_,_,rfl,hH3.obj,T.hou,T.hou_m,houF_m _ _ _ _,_,rfl,mp,_,rfl,dget hH3.mar ev1,_,rfl,a,D.hou,dx,_,_,rfl,hH3.obj,T.hou,T.hou_b,houF_b _ _ _ _,_,rfl,bp,_,rfl,dget hH3.bok ev2,q,_,rfl,.inl (sqL_of hq),(by show 3 ≤ sizeLine; decide),fun p3 hp3=>?_⟩
   have s4:=Same.new (o:=.lst [V.int ((m.who : Nat) : Int),V.int ((m.margin : Nat) : Int),V.int ((ps.map V.ref).length : Nat)]) hp3
   have hml:=memRow_len (st.members.take i)
   rw [List.length_take] at hml
   refine ⟨tp,p3,_,_,rfl,rfl,s4 _ _ htp3,upd_same,(by rw [intsV_len,List.length_cons]; exact le_line (by show _ + 3 ≤ _; omega)),?_⟩
   refine ⟨some (.int ((m.who : Nat) : Int)),rfl,fun b o e=>by rw [upd_ne (ne_of_none e htp)]; exact s4 b o (s3 b o e),by rw [upd_ne nst]; exact s4 _ _ hsl3,?_⟩
   rw [upd_same,take_snoc hmi,List.length_map,hps.length]
   unfold memRow intsV
   rw [List.flatMap_append,List.map_cons,List.map_cons,List.map_append]
   rfl
  ·rintro σ H' ⟨v2,rfl,s3,hsl3,htp3⟩
   rw [whosV_len,List.take_length] at htp3
   exact ⟨_,rfl,k H' tp htp htp3 s3⟩
abbrev s_tell_text : Stmt:=top 77
def spTText (D : Ads) : Sp:=fun vs H Q _=>∃ (a : Addr) (s : State) (who : Int),vs = [.ref a,.int who] ∧ HouAt D H a s ∧ Good s ∧ Tells H Q (Vbchai.step s (.text who)).2
theorem sc_ttext : FnScope ["house","who"] ["house","who"] (defScope s_tell_text):=scm
theorem write_len {b : Book} (h : ∀ l ∈ b,LegOk l) : (Vbchai.write b).length ≤ 64 * b.length + 1:=by
 cases b with
 | nil=>exact Nat.le_refl _
 | cons l r =>
  rw [wr_write (by simp)]
  have:=wr_len h
  omega
theorem ok_ttext (F : FunG K mg "tell_text" s_tell_text) (T : Txt K mg D) (cW : Cal P w K mg base CX0 3 "write_book" ["book"] (spWBook D)) : Cal P w K mg base CX0 4 "tell_text" ["house","who"] (spTText D):=by
 obtain ⟨f,fd,F,hm⟩:=F
 refine ⟨f,fd,F.ok sc_ttext (fun vs H Q E h=>?_) (fun cdv A outer s H vs Q E hr h=>?_),hm,F.kp,F.binds fun _ _ _ _ _ _ us hl=>match us,hl with | [_,_],_=>rfl⟩
 ·obtain ⟨a,s,who,rfl,_⟩:=h
  rfl
 ·obtain ⟨a,st,who,rfl,⟨dx,pn,mp,bp,xp,mk,bk,xk,hH⟩,g,k⟩:=h
  have hu:=hu_of hr
  refine ⟨_,pss_cons (ps_if (pt_cmp (pc_dnotin hu (pv 1) (pe_fld (pv 0) rfl))) (pss_one (ps_ret (pe_lst (pa_cons (pe_un un_neg pe_int) (pa_nil))))) (pss_nil)) (pss_one (ps_ret (pe_op op_cat (pe_lst (pa_cons (pe_int) (pa_nil))) (pe_cal cW hr rfl pass0 (pa_cons (pe_dget hu (pe_fld (pv 0) rfl) (pv 1) (fun _ _=>rfl)) (pa_nil)))))),?_⟩
  refine ⟨_,rfl,_,rfl,a,D.hou,dx,_,_,rfl,hH.obj,T.hou,T.hou_b,houF_b _ _ _ _,bp,_,rfl,dgetO hH.bok,_,rfl,?_⟩
  rw [isMem_eq g.asc hH.rb]
  unfold isMem
  cases em : Vbchai.memberOf st who with
  | none =>
   have e : (Vbchai.step st (.text who)).2 = [-1]:=by simp only [Vbchai.step]; rw [em]
   rw [e] at k
   exact iteT ⟨_,rfl,(by show 1 ≤ sizeLine; decide),fun p hp=>k.new (Same.refl H) hp⟩
  | some m =>
   have e : (Vbchai.step st (.text who)).2 = 0 :: Vbchai.ints (Vbchai.write m.book):=by simp only [Vbchai.step]; rw [em]
   rw [e] at k
   obtain ⟨hmm,hmw⟩:=mem_of em
   have mok:=g.mem m hmm
   refine iteF ⟨(by show 1 ≤ sizeLine; decide),fun p1 hp1=>?_⟩
   have s1:=Same.new (o:=.lst [V.int 0]) hp1
   have hH1:=hH.same s1
   obtain ⟨v2,ev2,q,rfl,hq⟩:=hH1.rb.val m hmm
   rw [hmw] at ev2
   refine ⟨_,rfl,a,D.hou,dx,_,_,rfl,hH1.obj,T.hou,T.hou_b,houF_b _ _ _ _,_,rfl,bp,_,rfl,dget hH1.bok ev2,q,m.book,rfl,hq,mok.legs,by have:=mok.len; omega,fun H2 p2 hp2 s2=>?_⟩
   have wl:=write_len mok.legs
   have ml:=mok.len
   refine ⟨p1,p2,_,_,rfl,rfl,s2 _ _ upd_same,hp2,(by rw [natsV_len]; exact le_line (by show 1 + _ ≤ _; omega)),fun p3 hp3=>?_⟩
   have e2 : ([V.int 0] ++ natsV (Vbchai.write m.book)) = intsV (0 :: Vbchai.ints (Vbchai.write m.book)):=by rw [natsV_eq]; rfl
   rw [e2]
   exact k.new (s1.trans s2) hp3
end
end VD
set_option maxRecDepth 100000
set_option maxHeartbeats 2000000
namespace VD
open PySem PySem.Spec PyProof.Rows L2 VM VX XL
open Vbchai (Leg Book Member Scene State Prices Box)
theorem lc_keys {d : Addr} {o : Obj} {kvs : List (Key × V)} {j : Nat} {te : TE} {vs : List Nat} {σ : L2.St} {H1 : Hp} {D : Addr} {Qd : Hp → Prop} (Pv : Nat → Hp → Prop) (h0 : Pv 0 (upd H1 D (.lst []))) (hl : ∀ i H,Pv i H → H d = some (.frz o (.dK kvs)))
  (hw : ∀ x,wipe ((wipe σ vs).set j (some x)) vs = wipe σ vs)
  (hs : ∀ i k v H,kvs[i]? = some (k,v) → Pv i H → te ((wipe σ vs).set j (some (kV k))) H fun y H4=>∃ acc,H4 D = some (.lst acc) ∧ acc.length < sizeLine ∧ Pv (i + 1) (upd H4 D (.lst (acc ++ [y])))) (hd : ∀ H,Pv kvs.length H → Qd H) :
  ∃ W : Nat → Nat → Hp → Prop,(∃ m,W 0 m (upd H1 D (.lst []))) ∧ ∀ i m H,W i m H →
   ((Itk d o kvs).stop i H ∧ Qd H) ∨ ((Itk d o kvs).go i H ∧ ∃ Nx : Hp → Prop,(∀ H',Nx H' → ∃ m',m' < m ∧ W (i + 1) m' H') ∧ ∀ z H',(Itk d o kvs).yld i H z H' → gName j z (wipe σ vs) H' fun σ2 H2=>wipe σ2 vs = wipe σ vs ∧ tYes σ2 H2 fun b H3 =>
    if b = true then te σ2 H3 fun y H4=>∃ acc,H4 D = some (.lst acc) ∧ acc.length < sizeLine ∧ Nx (upd H4 D (.lst (acc ++ [y]))) else Nx H3):=by
 refine ⟨fun i m H=>m = kvs.length - i ∧ i ≤ kvs.length ∧ Pv i H,⟨kvs.length,by simp,Nat.zero_le _,h0⟩,?_⟩
 rintro i m H ⟨rfl,hi,p⟩
 by_cases hlt : i < kvs.length
 ·refine .inr ⟨⟨hl i H p,hlt⟩,Pv (i + 1),fun H' p'=>⟨kvs.length - (i + 1),by omega,rfl,hlt,p'⟩,fun z H' y=>?_⟩
  obtain ⟨rfl,k,v,hk,rfl⟩:=y
  exact ⟨hw _,by unfold tYes; exact iteT (hs i k v _ hk p)⟩
 ·have e : i = kvs.length:=by omega
  subst e
  exact .inl ⟨⟨hl _ H p,Nat.le_refl _⟩,hd H p⟩
section
variable {P : Program} {w : World} {K : PySem.W.Frag} {mg : Str → Option Value} {base : Heap} {D : Ads}
abbrev s_tell_apart : Stmt:=top 75
def spTApart (D : Ads) : Sp:=fun vs H Q _=>∃ (a : Addr) (s : State) (k : Int),vs = [.ref a,.int k] ∧ HouAt D H a s ∧ Good s ∧ Tells H Q (Vbchai.step s (.apart k)).2
theorem sc_apart : FnScope ["house","k","needs","who"] ["house","k"] (defScope s_tell_apart):=scm
def pick (s : State) (k : Int) : Member:=match Vbchai.memberOf s k with
 | some m=>m
 | none=>⟨0,0,[]⟩
theorem picks {s : State} (g : Good s) {ks : List Int} (h : ks.Perm (whos s.members)) : (ks.map (pick s)).Perm s.members ∧ ∀ k ∈ ks,pick s k ∈ s.members ∧ ((pick s k).who : Int) = k:=by
 have hp : ∀ m ∈ s.members,pick s (m.who : Int) = m:=fun m hm=>by unfold pick; rw [of_mem g.asc hm]
 constructor
 ·have:=h.map (pick s)
  have e : (whos s.members).map (pick s) = s.members:=by
   unfold whos
   rw [List.map_map]
   exact (List.map_congr_left fun m hm=>hp m hm).trans (List.map_id _)
  rw [e] at this
  exact this
 ·intro k hk
  have:=h.mem_iff.mp hk
  unfold whos at this
  obtain ⟨m,hm,rfl⟩:=List.mem_map.mp this
  rw [hp m hm]
  exact ⟨hm,rfl⟩
theorem cut_k (l : List V) (k : Nat) : cutV l none (some (k : Int)) = l.take k:=by
 unfold cutV
 rw [HT.sIx_none,HT.sIx_nat,List.drop_zero,Nat.sub_zero]
 rcases Nat.le_total k l.length with h | h
 ·rw [Nat.min_eq_left h]
 ·rw [Nat.min_eq_right h,List.take_length,List.take_of_length_le h]
theorem ok_apart (F : FunG K mg "tell_apart" s_tell_apart) (T : Txt K mg D) (cK : Cal P w K mg base CX0 1 "are_defaults" ["k"] spDefaults) (cN : Cal P w K mg base CX0 6 "need_of_set" ["house","numbers"] (spNeedSet K D)) :
  Cal P w K mg base CX0 7 "tell_apart" ["house","k"] (spTApart D):=by
 obtain ⟨f,fd,F,hm⟩:=F
 refine ⟨f,fd,F.ok sc_apart (fun vs H Q E h=>?_) (fun cdv A outer s H vs Q E hr h=>?_),hm,F.kp,F.binds fun _ _ _ _ _ _ us hl=>match us,hl with | [_,_],_=>rfl⟩
 ·obtain ⟨a,s,k,rfl,_⟩:=h
  rfl
 ·obtain ⟨a,st,n,rfl,⟨dx,pn,mp,bp,xp,mk,bk,xk,hH⟩,g,k⟩:=h
  have hr1 : Room 1 _:=hr.mono (by decide)
  refine ⟨_,pss_cons (ps_if (pt_not (pt_val (pe_cal cK hr1 rfl pass0 (pa_cons (pv 1) (pa_nil))))) (pss_one (ps_ret (pe_lst (pa_cons (pe_un un_neg pe_int) (pa_nil))))) (pss_nil)) (pss_cons (ps_lock (ps_setLc rfl sc_apart.nd (i:=2) rfl rfl rfl (pi_keys (pe_fld (pv 0) rfl)) (blkOk_by (own:=[("who",3)]) (by rfl)) (fun _ _ _ _ _=>pg_name (i:=3) sc_apart.nd rfl (Or.inl rfl)) (fun _ _ _ _ _=>pts_nil) (fun _ _ _ _ _=>pe_ix (ix_listK (K:=K) rfl) (pe_cal cN hr rfl pass0 (pa_cons (pv 0) (pa_cons (pe_lst (pa_cons (pv 3) (pa_nil))) (pa_nil)))) pe_int (fun _ _=>rfl)))) (pss_one (ps_ret (pe_lst (pa_cons (pe_callB (cr_sum rfl) (by rfl) T.bSum boot_sum (pa_cons (pe_slice sl_list (VX.pe_sortedR rfl T.bSorted (pa_cons (pv 2) pa_nil) (pk_cons pe_bl pk_nil)) po_none (po_some (pv 1))) (pa_nil))) (pa_nil)))))),?_⟩
  refine ⟨_,rfl,n,rfl,_,rfl,?_⟩
  cases hd : Vbchai.isDefaults n with
  | false =>
   have e : (Vbchai.step st (.apart n)).2 = [-1]:=by simp only [Vbchai.step]; rw [if_pos hd]
   rw [e] at k
   exact iteT ⟨_,rfl,(by show 1 ≤ sizeLine; decide),fun p hp=>k.new (Same.refl H) hp⟩
  | true =>
   have e : (Vbchai.step st (.apart n)).2 = [Vbchai.apartOf st n.toNat]:=by simp only [Vbchai.step]; rw [if_neg (by rw [hd]; decide)]
   rw [e] at k
   obtain ⟨e1,e2⟩:=defaults hd
   refine iteF ⟨bp,.dK bk,hH.bok,trivial,fun od=>?_⟩
   obtain ⟨ks,ek,kp⟩:=hH.rb.ints g.asc
   obtain ⟨pp,pm⟩:=picks g kp
   have g8:=g.len
   have kl : ks.length = st.members.length:=by have:=kp.length_eq; simpa using this
   have no:=dict_ne_obj hH.bok hH.obj
   have kf : KeepH a H (upd H bp (.frz od (.dK bk))):=fun b o e _ m=>by rw [upd_ne (fun z=>by rw [z,hH.bok] at e; cases e; exact m _ rfl)]; exact e
   have hHl : HouseR D (upd H bp (.frz od (.dK bk))) a dx pn mp bp xp mk bk xk st:=⟨by rw [upd_ne no.symm]; exact hH.obj,kf _ _ hH.now (ne_of hH.now hH.obj (by intro z; cases z)) (fun _ z=>by cases z),by rw [upd_ne hH.mb]; exact hH.mar,.inr ⟨od,upd_same⟩,by rw [upd_ne hH.bx.symm]; exact hH.box,hH.rm,hH.rb.imp fun _ _ e=>bok_keep e kf hH.obj,hH.rx.imp fun _ _ e=>box_keep e kf hH.obj⟩
   have hfz : (upd H bp (.frz od (.dK bk))) bp = some (.frz od (.dK bk)):=upd_same
   have hot : ∀ b o,H b = some o → b ≠ bp → (upd H bp (.frz od (.dK bk))) b = some o:=fun b o e m=>by rw [upd_ne m]; exact e
   generalize upd H bp (.frz od (.dK bk)) = Hl at hHl hfz hot
   refine ⟨_,rfl,a,D.hou,dx,_,_,rfl,hHl.obj,T.hou,T.hou_b,houF_b _ _ _ _,bp,od,rfl,.inl ⟨bk,hfz,fun Dl hD=>lc_keys (d:=bp) (o:=od) (kvs:=bk) (fun i H'=>Same Hl H' ∧ H' Dl = some (.lst (intsV ((ks.take i).map fun w=>(Vbchai.uncovered st [pick st w]).1)))) ⟨Same.new hD,upd_same⟩ (fun i H' ⟨s1,_⟩=>s1 _ _ hfz) (fun _=>rfl) ?_ ?_⟩⟩
   ·rintro i ky v H' hi ⟨s1,hDl⟩
    have hki : (bk.map fun kv=>kv.1)[i]? = some ky:=by rw [List.getElem?_map,hi]; rfl
    rw [ek,List.getElem?_map] at hki
    obtain ⟨wn,hwn,rfl⟩ : ∃ wn,ks[i]? = some wn ∧ ky = Sum.inl wn:=by
     cases e : ks[i]? with
     | none=>rw [e] at hki; cases hki
     | some x=>rw [e] at hki; exact ⟨x,rfl,(Option.some.inj hki).symm⟩
    obtain ⟨p1,p2⟩:=pm wn (List.mem_of_getElem? hwn)
    refine ⟨_,rfl,_,rfl,(by show 1 ≤ sizeLine; decide),fun nl hnl=>?_⟩
    have s2:=Same.new (o:=.lst [V.int wn]) hnl
    refine ⟨a,nl,st,[pick st wn],rfl,⟨dx,pn,mp,bp,xp,mk,bk,xk,(hHl.same s1).same s2⟩,g,?_,by show 1 ≤ 16; decide,fun m hm=>by rw [List.mem_singleton] at hm; subst hm; exact p1,fun H3 p _ hp s3=>?_⟩
    ·have ew : whosV [pick st wn] = [V.int wn]:=by
      show [V.int (((pick st wn).who : Nat) : Int)] = _
      rw [p2]
     rw [ew]
     exact sqL_of upd_same
    ·have hDl3:=s3 _ _ (s2 _ _ hDl)
     refine ⟨p,_,_,_,rfl,rfl,sqL_of hp,at_of (j:=0) rfl rfl,_,hDl3,(by rw [intsV_len,List.length_map,List.length_take]; exact lt_line (by omega)),fun b o e=>by rw [upd_ne (ne_of_none e hD)]; exact s3 b o (s2 b o (s1 b o e)),?_⟩
     rw [upd_same,take_snoc hwn,List.map_append]
     unfold intsV
     rw [List.map_append]
     rfl
   ·rintro H1 ⟨s1,hDl⟩
    rw [show bk.length = ks.length by have:=congrArg List.length ek; simpa using this,List.take_length] at hDl
    have nD : Dl ≠ bp:=(ne_of_none hfz hD).symm
    refine ⟨s1 _ _ hfz,?_⟩
    have s2 : Same H (upd H1 bp (.dK bk)):=fun b o e=>by
     by_cases hb : b = bp
     ·subst hb
      rw [upd_same,← e,hH.bok]
     ·rw [upd_ne hb]
      exact s1 b o (hot b o e hb)
    have hDl2 : (upd H1 bp (.dK bk)) Dl = some (.lst ((ks.map fun w=>(Vbchai.uncovered st [pick st w]).1).map V.int)):=by rw [upd_ne nD]; exact hDl
    generalize upd H1 bp (.dK bk) = H2 at s2 hDl2
    refine ⟨_,rfl,Dl,_,rfl,sqL_of hDl2,by rw [List.length_map,kl]; omega,fun ds sp q1 q2 hsp=>?_⟩
    have s3:=Same.new (o:=.lst (ds.map V.int)) hsp
    have hap:=apart_ok (s:=st) (k:=n.toNat) (d:=ds) (q1.trans (by
     have:=pp.map fun m=>(Vbchai.uncovered st [m]).1
     rw [List.map_map] at this
     exact this)) q2
    refine ⟨_,rfl,n,rfl,sp,_,rfl,sqL_of upd_same,fun cp hcp=>?_⟩
    have s4:=Same.new (o:=.lst (cutV (ds.map V.int) none (some n))) hcp
    have ecut : cutV (ds.map V.int) none (some n) = (ds.take n.toNat).map V.int:=by
     have:=cut_k (ds.map V.int) n.toNat
     rw [← e1] at this
     rw [this,List.map_take]
    refine ⟨cp,ds.take n.toNat,rfl,sqL_of (by rw [upd_same,ecut]),(by show 1 ≤ sizeLine; decide),fun p hp=>?_⟩
    rw [← hap]
    exact k.new ((s2.trans s3).trans s4) hp
end
end VD
set_option maxRecDepth 100000
set_option maxHeartbeats 2000000
namespace VD
open PySem PySem.Spec PyProof.Rows L2 VM VX XL
open Vbchai (Leg Book Member Scene State Prices Box)
theorem at_mid (A : List Int) (y : Int) (B : List Int) {z : Int} (h : z = ((A.length : Nat) : Int)) : atI (intsV (A ++ y :: B)) z = some (.int y):=by
 refine at_of (j:=A.length) h ?_
 unfold intsV
 rw [List.getElem?_map,List.getElem?_append_right (Nat.le_refl _),Nat.sub_self]
 rfl
theorem cut_mid (A X B : List Int) {lo hi : Int} (h1 : lo = ((A.length : Nat) : Int)) (h2 : hi = ((A.length + X.length : Nat) : Int)) : cutV (intsV (A ++ (X ++ B))) (some lo) (some hi) = intsV X:=by
 subst h1
 subst h2
 unfold cutV
 rw [HT.sIx_nat,HT.sIx_nat,intsV_len]
 have e1 : min A.length (A ++ (X ++ B)).length = A.length:=by simp only [List.length_append]; omega
 have e2 : min (A.length + X.length) (A ++ (X ++ B)).length = A.length + X.length:=by simp only [List.length_append]; omega
 rw [e1,e2,Nat.add_sub_cancel_left]
 unfold intsV
 rw [← List.map_drop,← List.map_take]
 congr 1
 rw [List.drop_left,List.take_left]
def formsL : List (Int × Int):=[(0,1),(2,1),(1,0),(2,0),(2,1),(1,1),(1,0),(0,1),(1,0),(2,0),(3,1),(2,0),(0,2),(1,0),(0,0),(1,0)]
theorem shape_forms {p : Int} {n k : Nat} (h : PyVbchai.shape p = some (n,k)) : ∃ j : Nat,p = (j : Nat) ∧ formsL[j]? = some (((n : Nat) : Int),((k : Nat) : Int)):=by
 unfold PyVbchai.shape at h
 by_cases h0 : p = 0
 ·rw [if_pos h0] at h
  cases h
  exact ⟨0,h0,rfl⟩
 rw [if_neg h0] at h
 by_cases h1 : p = 1
 ·rw [if_pos h1] at h
  cases h
  exact ⟨1,h1,rfl⟩
 rw [if_neg h1] at h
 by_cases h2 : p = 2
 ·rw [if_pos h2] at h
  cases h
  exact ⟨2,h2,rfl⟩
 rw [if_neg h2] at h
 by_cases h3 : p = 3
 ·rw [if_pos h3] at h
  cases h
  exact ⟨3,h3,rfl⟩
 rw [if_neg h3] at h
 by_cases h4 : p = 4
 ·rw [if_pos h4] at h
  cases h
  exact ⟨4,h4,rfl⟩
 rw [if_neg h4] at h
 by_cases h5 : p = 5
 ·rw [if_pos h5] at h
  cases h
  exact ⟨5,h5,rfl⟩
 rw [if_neg h5] at h
 by_cases h6 : p = 6
 ·rw [if_pos h6] at h
  cases h
  exact ⟨6,h6,rfl⟩
 rw [if_neg h6] at h
 by_cases h7 : p = 7
 ·rw [if_pos h7] at h
  cases h
  exact ⟨7,h7,rfl⟩
 rw [if_neg h7] at h
 by_cases h8 : p = 8
 ·rw [if_pos h8] at h
  cases h
  exact ⟨8,h8,rfl⟩
 rw [if_neg h8] at h
 by_cases h9 : p = 9
 ·rw [if_pos h9] at h
  cases h
  exact ⟨9,h9,rfl⟩
 rw [if_neg h9] at h
 by_cases h10 : p = 10
 ·rw [if_pos h10] at h
  cases h
  exact ⟨10,h10,rfl⟩
 rw [if_neg h10] at h
 by_cases h11 : p = 11
 ·rw [if_pos h11] at h
  cases h
  exact ⟨11,h11,rfl⟩
 rw [if_neg h11] at h
 by_cases h12 : p = 12
 ·rw [if_pos h12] at h
  cases h
  exact ⟨12,h12,rfl⟩
 rw [if_neg h12] at h
 by_cases h13 : p = 13
 ·rw [if_pos h13] at h
  cases h
  exact ⟨13,h13,rfl⟩
 rw [if_neg h13] at h
 by_cases h14 : p = 14
 ·rw [if_pos h14] at h
  cases h
  exact ⟨14,h14,rfl⟩
 rw [if_neg h14] at h
 by_cases h15 : p = 15
 ·rw [if_pos h15] at h
  cases h
  exact ⟨15,h15,rfl⟩
 rw [if_neg h15] at h
 cases h
theorem rows_len : ∀ xs : List (List Int),xs.length ≤ (PyFlat.putRows xs).length
 | []=>Nat.le_refl _
 | x :: r=>by
  have ih:=rows_len r
  show r.length + 1 ≤ (PyFlat.putRow x ++ PyFlat.putRows r).length
  rw [List.length_append]
  show r.length + 1 ≤ (x.length + 1) + _
  omega
theorem put_app (a b : List (List (List Int))) : PyFlat.put (a ++ b) = PyFlat.put a ++ PyFlat.put b:=by
 induction a with
 | nil=>rfl
 | cons x r ih=>show PyFlat.put1 x ++ PyFlat.put (r ++ b) = PyFlat.put1 x ++ PyFlat.put r ++ PyFlat.put b; rw [ih,List.append_assoc]
theorem putRows_app (a b : List (List Int)) : PyFlat.putRows (a ++ b) = PyFlat.putRows a ++ PyFlat.putRows b:=by
 induction a with
 | nil=>rfl
 | cons x r ih=>show PyFlat.putRow x ++ PyFlat.putRows (r ++ b) = PyFlat.putRow x ++ PyFlat.putRows r ++ PyFlat.putRows b; rw [ih,List.append_assoc]
theorem split_at {α : Type} {l : List α} {i : Nat} {x : α} (h : l[i]? = some x) : l = l.take i ++ (x :: l.drop (i + 1)):=by
 rw [← drop_at h,List.take_append_drop]
def CallAt (N : Addr → Prop) (H : Hp) (t : Addr) (c : List (List Int)) : Prop:=∃ (p : Int) (nums : List Int) (xs : List (List Int)) (np rp : Addr) (qs : List Addr),c = (p :: nums) :: xs ∧ H t = some (.tup [.int p,.ref np,.ref rp]) ∧ N np ∧ H np = some (.lst (intsV nums)) ∧ N rp ∧ H rp = some (.lst (qs.map V.ref)) ∧ All2 (fun q x=>N q ∧ H q = some (.lst (intsV x))) qs xs
theorem CallAt.same {N : Addr → Prop} {H H' : Hp} {t : Addr} {c : List (List Int)} (h : CallAt N H t c) (e : Same H H') : CallAt N H' t c:=by
 obtain ⟨p,nums,xs,np,rp,qs,h1,h2,h3,h4,h5,h6,h7⟩:=h
 exact ⟨p,nums,xs,np,rp,qs,h1,e _ _ h2,h3,e _ _ h4,h5,e _ _ h6,h7.imp fun _ _ x=>⟨x.1,e _ _ x.2⟩⟩
theorem CallAt.mono {N N' : Addr → Prop} {H : Hp} {t : Addr} {c : List (List Int)} (h : CallAt N H t c) (e : ∀ x,N x → N' x) : CallAt N' H t c:=by
 obtain ⟨p,nums,xs,np,rp,qs,h1,h2,h3,h4,h5,h6,h7⟩:=h
 exact ⟨p,nums,xs,np,rp,qs,h1,h2,e _ h3,h4,e _ h5,h6,h7.imp fun _ _ x=>⟨e _ x.1,x.2⟩⟩
theorem CallAt.keep {N : Addr → Prop} {H H' : Hp} {t : Addr} {c : List (List Int)} (h : CallAt N H t c) (e1 : ∀ b xs,H b = some (.tup xs) → H' b = some (.tup xs)) (e2 : ∀ b xs,N b → H b = some (.lst xs) → H' b = some (.lst xs)) : CallAt N H' t c:=by
 obtain ⟨p,nums,xs,np,rp,qs,h1,h2,h3,h4,h5,h6,h7⟩:=h
 exact ⟨p,nums,xs,np,rp,qs,h1,e1 _ _ h2,h3,e2 _ _ h3 h4,h5,e2 _ _ h5 h6,h7.imp fun _ _ x=>⟨x.1,e2 _ _ x.1 x.2⟩⟩
section
variable {P : Program} {w : World} {K : PySem.W.Frag} {mg : Str → Option Value} {base : Heap} {D : Ads}
abbrev s_cut_calls : Stmt:=top 81
def spCut (K : PySem.W.Frag) : Sp:=fun vs H Q _=>∃ (cl : Addr) (cs : List (List (List Int))),vs = [.ref cl] ∧ SqL K H cl (intsV (PyFlat.put cs)) ∧ (∀ c ∈ cs,PyFlat.okCall PyVbchai.shape c) ∧ (PyFlat.put cs).length ≤ 17000 ∧ cs.length ≤ 400 ∧
 ∀ H' cp ts,H' cp = some (.lst (ts.map V.ref)) → H cp = none → All2 (CallAt (fun x=>H x = none) H') ts cs → Same H H' → Q (.ref cp) H'
theorem sc_cut : FnScope ["calls","cut","at","call","form","behind","numbers","rows","first"] ["calls"] (defScope s_cut_calls):=scm
theorem ok_cut (F : FunG K mg "cut_calls" s_cut_calls) (T : Txt K mg D) : Cal P w K mg base CX0 1 "cut_calls" ["calls"] (spCut K):=by
 obtain ⟨f,fd,F,hm⟩:=F
 obtain ⟨aF,fs,hF,hFt,hFs⟩:=T.FORMS
 refine ⟨f,fd,F.ok sc_cut (fun vs H Q E h=>?_) (fun cdv A outer s H vs Q E hr h=>?_),hm,F.kp,F.binds fun _ _ _ _ _ _ us hl=>match us,hl with | [_],_=>rfl⟩
 ·obtain ⟨cl,cs,rfl,_⟩:=h
  rfl
 ·obtain ⟨cl,cs,rfl,hcl,hok,hlen,hcs,k⟩:=h
  refine ⟨_,pss_cons (ps_set (i:=1) sc_cut.nd rfl (Or.inl rfl) (pe_lst (pa_nil))) (pss_cons (ps_set (i:=2) sc_cut.nd rfl (Or.inl rfl) (pe_int)) (pss_cons (ps_while PassesOwn.never (pt_cmpR op_lt (pv 2) (pe_callB call_len_seq (by rfl) T.bLen PySem.boot_len (pa_cons (pv 0) (pa_nil))) (nomark _)) (pss_cons (ps_set (i:=3) sc_cut.nd rfl (Or.inl rfl) (pe_ix ix_list (pv 0) (pv 2) (fun _ _=>rfl))) (pss_cons (ps_set (i:=4) sc_cut.nd rfl (Or.inl rfl) (pe_ix ix_tup (pe_gv (v:=.ref aF) rfl ⟨_,hF,rfl⟩) (pv 3) (fun _ _=>rfl))) (pss_cons (ps_set (i:=5) sc_cut.nd rfl (Or.inl rfl) (pe_op op_add (pe_op op_add (pv 2) (pe_int)) (pe_ix ix_tup (pv 4) (pe_int) (fun _ _=>rfl)))) (pss_cons (ps_set (i:=6) sc_cut.nd rfl (Or.inl rfl) (pe_slice sl_list (pv 0) (po_some (pe_op op_add (pv 2) (pe_int))) (po_some (pv 5)))) (pss_cons (ps_set (i:=7) sc_cut.nd rfl (Or.inl rfl) (pe_lst (pa_nil))) (pss_cons (ps_while PassesOwn.never (pt_cmpR op_lt (pe_callB call_len_seq (by rfl) T.bLen PySem.boot_len (pa_cons (pv 7) (pa_nil))) (pe_ix ix_tup (pv 4) (pe_int) (fun _ _=>rfl)) (nomark _)) (pss_cons (ps_set (i:=8) sc_cut.nd rfl (Or.inl rfl) (pe_op op_add (pv 5) (pe_int))) (pss_cons (ps_set (i:=5) sc_cut.nd rfl (Or.inl rfl) (pe_op op_add (pv 8) (pe_ix ix_list (pv 0) (pv 5) (fun _ _=>rfl)))) (pss_one (ps_expr (pe_bm PySem.F.plainAttrs_list PySem.F.slot_list_append PySem.F.type_list_append mt_append (pv 7) (pa_cons (pe_slice sl_list (pv 0) (po_some (pv 8)) (po_some (pv 5))) (pa_nil)))))))) (pss_cons (ps_expr (pe_bm PySem.F.plainAttrs_list PySem.F.slot_list_append PySem.F.type_list_append mt_append (pv 1) (pa_cons (pe_tup (pa_cons (pv 3) (pa_cons (pv 6) (pa_cons (pv 7) (pa_nil))))) (pa_nil)))) (pss_one (ps_set (i:=2) sc_cut.nd rfl (Or.inl rfl) (pv 5))))))))))) (pss_one (ps_ret (pv 1))))),?_⟩
  refine ⟨Nat.zero_le _,fun cp hcp=>?_⟩
  have s0 : Same H (upd H cp (.lst [])):=Same.new hcp
  refine ⟨fun m σ H'=>∃ (i : Nat) (ts : List Addr) (v3 v4 v5 v6 v7 v8 : Option V),m = cs.length - i ∧ i ≤ cs.length ∧ σ = [some (.ref cl),some (.ref cp),some (.int ((PyFlat.put (cs.take i)).length : Nat)),v3,v4,v5,v6,v7,v8] ∧ Same H H' ∧ H' cp = some (.lst (ts.map V.ref)) ∧ All2 (CallAt (fun x=>H x = none ∧ x ≠ cp) H') ts (cs.take i),
   ⟨_,0,[],none,none,none,none,none,none,rfl,Nat.zero_le _,rfl,s0,upd_same,.nil⟩,?_⟩
  rintro m σ H1 ⟨i,ts,v3,v4,v5,v6,v7,v8,rfl,hi,rfl,s1,hts,hall⟩
  have hcl1:=s1.seq hcl
  refine ⟨_,rfl,_,rfl,cl,_,rfl,.inl hcl1,_,_,rfl,rfl,_,rfl,?_⟩
  rw [intsV_len]
  rcases Nat.lt_or_ge i cs.length with hlt | hge
  ·obtain ⟨c,hc⟩ : ∃ c,cs[i]? = some c:=⟨_,List.getElem?_eq_getElem hlt⟩
   obtain ⟨p,nums,xs,rfl,hshape⟩:=hok _ (List.mem_of_getElem? hc)
   obtain ⟨j,rfl,hj⟩:=shape_forms hshape
   have hsplit : PyFlat.put cs = PyFlat.put (cs.take i) ++ (((j : Nat) : Int) :: (nums ++ (PyFlat.putRows xs ++ PyFlat.put (cs.drop (i + 1))))):=by
    conv=>lhs; rw [split_at hc,put_app]
    show _ ++ ((((j : Nat) : Int) :: nums) ++ PyFlat.putRows xs ++ PyFlat.put (cs.drop (i + 1))) = _
    rw [List.append_assoc]
    rfl
   have hle : (PyFlat.put (cs.take i)).length < (PyFlat.put cs).length:=by
    conv=>rhs; rw [hsplit]
    rw [List.length_append,List.length_cons]; omega
   refine ite2 (fun _=>?_) (fun z=>absurd (decide_eq_true (by omega)) z)
   refine ⟨fun σ' H'=>∃ m',m' < cs.length - i ∧ ∃ (i : Nat) (ts : List Addr) (v3 v4 v5 v6 v7 v8 : Option V),m' = cs.length - i ∧ i ≤ cs.length ∧ σ' = [some (.ref cl),some (.ref cp),some (.int ((PyFlat.put (cs.take i)).length : Nat)),v3,v4,v5,v6,v7,v8] ∧ Same H H' ∧ H' cp = some (.lst (ts.map V.ref)) ∧ All2 (CallAt (fun x=>H x = none ∧ x ≠ cp) H') ts (cs.take i),fun _ _ h=>h,?_⟩
   have hat0 : atI (intsV (PyFlat.put cs)) (((PyFlat.put (cs.take i)).length : Nat) : Int) = some (.int ((j : Nat) : Int)):=by rw [hsplit]; exact at_mid _ _ _ rfl
   refine ⟨_,rfl,_,rfl,cl,_,_,_,rfl,rfl,hcl1,hat0,?_⟩
   obtain ⟨fa,hfa,hft⟩:=(hFs H1).getR (show formsL[j]? = some _ from hj)
   refine ⟨_,rfl,aF,_,_,_,rfl,rfl,hFt H1,at_of (j:=j) rfl (by rw [List.getElem?_map,hfa]; rfl),?_⟩
   refine ⟨_,rfl,_,_,rfl,rfl,_,rfl,fa,_,_,_,rfl,rfl,hft,rfl,_,_,rfl,rfl,?_⟩
   have hcutN : cutV (intsV (PyFlat.put cs)) (some ((((PyFlat.put (cs.take i)).length : Nat) : Int) + 1)) (some ((((PyFlat.put (cs.take i)).length : Nat) : Int) + 1 + ((nums.length : Nat) : Int))) = intsV nums:=by
    have e : PyFlat.put cs = (PyFlat.put (cs.take i) ++ [((j : Nat) : Int)]) ++ (nums ++ (PyFlat.putRows xs ++ PyFlat.put (cs.drop (i + 1)))):=by rw [List.append_assoc]; exact hsplit
    rw [e]
    refine cut_mid _ _ _ ?_ ?_ <;> (simp only [List.length_append,List.length_cons,List.length_nil]; omega)
   refine ⟨_,rfl,_,rfl,_,_,rfl,rfl,_,rfl,_,rfl,_,rfl,cl,_,rfl,hcl1,fun np hnp=>?_⟩
   rw [hcutN]
   have s2:=Same.new (o:=.lst (intsV nums)) hnp
   have hnp2 : (upd H1 np (.lst (intsV nums))) np = some (.lst (intsV nums)):=upd_same
   have nnp : np ≠ cp:=(ne_of_none hts hnp).symm
   have fnp : H np = none:=s1.free hnp
   generalize upd H1 np (.lst (intsV nums)) = H2 at s2 hnp2
   refine ⟨Nat.zero_le _,fun rp hrp=>?_⟩
   have s3:=Same.new (o:=.lst []) hrp
   have nrp : rp ≠ cp:=(ne_of_none (s2 _ _ hts) hrp).symm
   have frp : H rp = none:=(s1.trans s2).free hrp
   have hrp3 : (upd H2 rp (.lst [])) rp = some (.lst []):=upd_same
   generalize hH3 : upd H2 rp (.lst []) = H3 at s3 hrp3
   refine ⟨fun m σ H'=>∃ (n : Nat) (qs : List Addr) (v8 : Option V),m = xs.length - n ∧ n ≤ xs.length ∧ σ = [some (.ref cl),some (.ref cp),some (.int ((PyFlat.put (cs.take i)).length : Nat)),some (.int ((j : Nat) : Int)),some (.ref fa),some (.int ((((PyFlat.put (cs.take i)).length + 1 + nums.length + (PyFlat.putRows (xs.take n)).length : Nat) : Int))),some (.ref np),some (.ref rp),v8] ∧ Same H2 H' ∧
     H' rp = some (.lst (qs.map V.ref)) ∧ All2 (fun q x=>((H q = none ∧ q ≠ cp) ∧ q ≠ rp) ∧ H' q = some (.lst (intsV x))) qs (xs.take n),⟨_,0,[],v8,rfl,Nat.zero_le _,?_,s3,hrp3,.nil⟩,?_⟩
   ·show [some (V.ref cl),_,_,_,_,some (V.int ((((PyFlat.put (cs.take i)).length : Nat) : Int) + 1 + ((nums.length : Nat) : Int))),_,_,_] = _
    have : (((PyFlat.put (cs.take i)).length : Nat) : Int) + 1 + ((nums.length : Nat) : Int) = (((PyFlat.put (cs.take i)).length + 1 + nums.length + (PyFlat.putRows (xs.take 0)).length : Nat) : Int):=by
     show _ = (((PyFlat.put (cs.take i)).length + 1 + nums.length + 0 : Nat) : Int)
     omega
    rw [this]
   rintro m σ H4 ⟨n,qs,v8',rfl,hn,rfl,s4,hrp4,hqs⟩
   have s14 : Same H H4:=(s1.trans s2).trans s4
   have hcl4:=s14.seq hcl
   have hql : qs.length = n:=by rw [hqs.length,List.length_take]; omega
   refine ⟨_,rfl,rp,_,rfl,.inl (sqL_of hrp4),_,rfl,fa,_,_,_,rfl,rfl,(show SqT K H4 fa _ from by
    obtain ⟨fa',hfa',hft'⟩:=(hFs H4).getR (show formsL[j]? = some _ from hj)
    obtain rfl : fa = fa':=Option.some.inj (hfa.symm.trans hfa')
    exact hft'),rfl,_,_,rfl,rfl,_,rfl,?_⟩
   rw [List.length_map,hql]
   have hxl : xs.length ≤ 17000:=by
    have h1:=rows_len xs
    have h2 : (PyFlat.putRows xs).length ≤ (PyFlat.put cs).length:=by rw [hsplit]; simp only [List.length_append,List.length_cons]; omega
    omega
   rcases Nat.lt_or_ge n xs.length with hnl | hng
   ·obtain ⟨x,hx⟩ : ∃ x,xs[n]? = some x:=⟨_,List.getElem?_eq_getElem hnl⟩
    refine ite2 (fun _=>?_) (fun z=>absurd (decide_eq_true (by omega)) z)
    have hpr : PyFlat.putRows xs = PyFlat.putRows (xs.take n) ++ (((x.length : Nat) : Int) :: (x ++ PyFlat.putRows (xs.drop (n + 1)))):=by
     conv=>lhs; rw [split_at hx,putRows_app]
     rfl
    have hsp2 : PyFlat.put cs = (PyFlat.put (cs.take i) ++ (((j : Nat) : Int) :: nums) ++ PyFlat.putRows (xs.take n)) ++ (((x.length : Nat) : Int) :: (x ++ (PyFlat.putRows (xs.drop (n + 1)) ++ PyFlat.put (cs.drop (i + 1))))):=by
     rw [hsplit,hpr]
     simp only [List.append_assoc,List.cons_append]
    have hatR : atI (intsV (PyFlat.put cs)) ((((PyFlat.put (cs.take i)).length + 1 + nums.length + (PyFlat.putRows (xs.take n)).length : Nat) : Int)) = some (.int ((x.length : Nat) : Int)):=by
     rw [hsp2]
     refine at_mid _ _ _ ?_
     simp only [List.length_append,List.length_cons]; omega
    have hsp3 : PyFlat.put cs = (PyFlat.put (cs.take i) ++ (((j : Nat) : Int) :: nums) ++ PyFlat.putRows (xs.take n) ++ [((x.length : Nat) : Int)]) ++ (x ++ (PyFlat.putRows (xs.drop (n + 1)) ++ PyFlat.put (cs.drop (i + 1)))):=by
     rw [hsp2]
     simp only [List.append_assoc,List.cons_append,List.nil_append]
    refine ⟨fun σ' H'=>∃ m',m' < xs.length - n ∧ ∃ (n : Nat) (qs : List Addr) (v8 : Option V),m' = xs.length - n ∧ n ≤ xs.length ∧ σ' = [some (.ref cl),some (.ref cp),some (.int ((PyFlat.put (cs.take i)).length : Nat)),some (.int ((j : Nat) : Int)),some (.ref fa),some (.int ((((PyFlat.put (cs.take i)).length + 1 + nums.length + (PyFlat.putRows (xs.take n)).length : Nat) : Int))),some (.ref np),some (.ref rp),v8] ∧ Same H2 H' ∧
     H' rp = some (.lst (qs.map V.ref)) ∧ All2 (fun q x=>((H q = none ∧ q ≠ cp) ∧ q ≠ rp) ∧ H' q = some (.lst (intsV x))) qs (xs.take n),fun _ _ h=>h,?_⟩
    refine ⟨_,rfl,_,_,rfl,rfl,?_⟩
    refine ⟨_,rfl,_,rfl,_,rfl,cl,_,_,_,rfl,rfl,hcl4,hatR,_,_,rfl,rfl,?_⟩
    refine ⟨_,rfl,.inl ⟨rfl,_,sqL_of hrp4⟩,_,rfl,_,rfl,_,rfl,_,rfl,_,rfl,cl,_,rfl,hcl4,fun q hq=>?_⟩
    have hcutR : cutV (intsV (PyFlat.put cs)) (some ((((PyFlat.put (cs.take i)).length + 1 + nums.length + (PyFlat.putRows (xs.take n)).length : Nat) : Int) + 1)) (some ((((PyFlat.put (cs.take i)).length + 1 + nums.length + (PyFlat.putRows (xs.take n)).length : Nat) : Int) + 1 + ((x.length : Nat) : Int))) = intsV x:=by
     rw [hsp3]
     refine cut_mid _ _ _ ?_ ?_ <;> (simp only [List.length_append,List.length_cons,List.length_nil]; omega)
    rw [hcutR]
    have s5:=Same.new (o:=.lst (intsV x)) hq
    have nq : q ≠ rp:=(ne_of_none hrp4 hq).symm
    have nqc : q ≠ cp:=(ne_of_none (s4 _ _ (s2 _ _ hts)) hq).symm
    refine ⟨rp,_,_,rfl,rfl,s5 _ _ hrp4,(by rw [List.length_map,hql]; exact lt_line (by omega)),?_⟩
    refine ⟨_,(by omega : xs.length - (n + 1) < xs.length - n),n + 1,qs ++ [q],some (.int ((((PyFlat.put (cs.take i)).length + 1 + nums.length + (PyFlat.putRows (xs.take n)).length : Nat) : Int) + 1)),rfl,hnl,?_,fun b o e=>by rw [upd_ne (ne_of_none e hrp)]; exact s5 b o (s4 b o e),by rw [upd_same,List.map_append]; rfl,?_⟩
    ·have : (((PyFlat.put (cs.take i)).length + 1 + nums.length + (PyFlat.putRows (xs.take n)).length : Nat) : Int) + 1 + ((x.length : Nat) : Int) = (((PyFlat.put (cs.take i)).length + 1 + nums.length + (PyFlat.putRows (xs.take (n + 1))).length : Nat) : Int):=by
      rw [take_snoc hx,putRows_app,List.length_append]
      show _ = (((PyFlat.put (cs.take i)).length + 1 + nums.length + ((PyFlat.putRows (xs.take n)).length + (PyFlat.putRow x ++ []).length) : Nat) : Int)
      rw [List.append_nil]
      show _ = (((PyFlat.put (cs.take i)).length + 1 + nums.length + ((PyFlat.putRows (xs.take n)).length + (x.length + 1)) : Nat) : Int)
      omega
     show [some (V.ref cl),_,_,_,_,some (V.int ((((PyFlat.put (cs.take i)).length + 1 + nums.length + (PyFlat.putRows (xs.take n)).length : Nat) : Int) + 1 + ((x.length : Nat) : Int))),_,_,_] = _
     rw [this]
    ·rw [take_snoc hx]
     refine (hqs.imp fun b y e=>⟨e.1,by rw [upd_ne e.1.2]; exact s5 _ _ e.2⟩).append (.cons ⟨⟨⟨s14.free hq,nqc⟩,nq⟩,by rw [upd_ne nq]; exact upd_same⟩ .nil)
   ·refine ite2 (fun z=>absurd (of_decide_eq_true z) (by omega)) (fun _=>?_)
    have hnx : n = xs.length:=by omega
    subst hnx
    rw [List.take_length] at hqs
    have hts4:=s4 _ _ (s2 _ _ hts)
    refine ⟨_,rfl,.inl ⟨rfl,_,sqL_of hts4⟩,_,rfl,_,rfl,_,rfl,(by show 3 ≤ sizeLine; decide),fun tt htt=>?_⟩
    have s5:=Same.new (o:=.tup [.int ((j : Nat) : Int),.ref np,.ref rp]) htt
    have hts5:=s5 _ _ hts4
    refine ⟨cp,_,_,rfl,rfl,hts5,(by rw [List.length_map,hall.length,List.length_take]; exact lt_line (by omega)),?_⟩
    refine ⟨_,rfl,?_⟩
    have kT : ∀ b ys,(upd H4 tt (.tup [.int ((j : Nat) : Int),.ref np,.ref rp])) b = some (.tup ys) → (upd (upd H4 tt (.tup [.int ((j : Nat) : Int),.ref np,.ref rp])) cp (.lst (ts.map V.ref ++ [V.ref tt]))) b = some (.tup ys):=fun b ys e=>by rw [upd_ne (ne_of e hts5 (by intro z; cases z))]; exact e
    have kL : ∀ b ys,(H b = none ∧ b ≠ cp) → (upd H4 tt (.tup [.int ((j : Nat) : Int),.ref np,.ref rp])) b = some (.lst ys) → (upd (upd H4 tt (.tup [.int ((j : Nat) : Int),.ref np,.ref rp])) cp (.lst (ts.map V.ref ++ [V.ref tt]))) b = some (.lst ys):=fun b ys n e=>by rw [upd_ne n.2]; exact e
    have s15 : Same H1 (upd H4 tt (.tup [.int ((j : Nat) : Int),.ref np,.ref rp])):=(s2.trans s4).trans s5
    refine ⟨_,(by omega : cs.length - (i + 1) < cs.length - i),i + 1,ts ++ [tt],some (.int ((j : Nat) : Int)),some (.ref fa),some (.int ((((PyFlat.put (cs.take i)).length + 1 + nums.length + (PyFlat.putRows (xs.take xs.length)).length : Nat) : Int))),some (.ref np),some (.ref rp),v8',rfl,hlt,?_,fun b o e=>by rw [upd_ne (ne_of_none e hcp)]; exact s15 b o (s1 b o e),by rw [upd_same,List.map_append]; rfl,?_⟩
    ·have : (((PyFlat.put (cs.take i)).length + 1 + nums.length + (PyFlat.putRows (xs.take xs.length)).length : Nat) : Int) = ((PyFlat.put (cs.take (i + 1))).length : Nat):=by
      rw [take_snoc hc,put_app,List.length_append,List.take_length]
      show _ = (((PyFlat.put (cs.take i)).length + (((((j : Nat) : Int) :: nums) ++ PyFlat.putRows xs) ++ []).length : Nat) : Int)
      rw [List.append_nil,List.length_append,List.length_cons]
      omega
     rw [← this]
     rfl
    ·rw [take_snoc hc]
     refine (hall.imp fun b y e=>(e.same s15).keep kT kL).append (.cons ?_ .nil)
     refine CallAt.keep (N:=fun x=>H x = none ∧ x ≠ cp) ⟨_,nums,xs,np,rp,qs,rfl,upd_same,⟨fnp,nnp⟩,s5 _ _ (s4 _ _ hnp2),⟨frp,nrp⟩,s5 _ _ hrp4,hqs.imp fun b y e=>⟨e.1.1,s5 _ _ e.2⟩⟩ kT kL
  ·have hie : i = cs.length:=by omega
   subst hie
   rw [List.take_length] at hall ⊢
   refine ite2 (fun z=>absurd (of_decide_eq_true z) (by omega)) (fun _=>?_)
   exact ⟨_,rfl,k H1 cp ts hts hcp (hall.imp fun _ _ e=>e.mono fun x hx=>hx.1) s1⟩
end
end VD
set_option maxRecDepth 100000
set_option maxHeartbeats 2000000
namespace VD
open PySem PySem.Spec PyProof.Rows L2 VM VX XL
open Vbchai (Leg Book Member Scene State Prices Box)
inductive Asked : List (List Int) → Prop
 | now (p : List Int) (h : p.length ≤ 16) : Asked [[0],p]
 | member (x m : Int) (t : List Int) (hb : ∀ z ∈ t,0 ≤ z) (hl : t.length ≤ 4096) : Asked [[1,x,m],t]
 | leave (x : Int) : Asked [[2,x]]
 | margin (x m : Int) : Asked [[3,x,m]]
 | trade (x y : Int) (t : List Int) (hb : ∀ z ∈ t,0 ≤ z) (hl : t.length ≤ 4096) : Asked [[4,x,y],t]
 | box (k : Int) (p : List Int) (h : p.length ≤ 16) : Asked [[5,k],p]
 | unbox (k : Int) : Asked [[6,k]]
 | uncovered (p : List Int) (h : p.length ≤ 16) : Asked [[7],p]
 | fund (k : Int) : Asked [[8,k]]
 | without (k x : Int) : Asked [[9,k,x]]
 | iftrade (k x y : Int) (t : List Int) (hb : ∀ z ∈ t,0 ≤ z) (hl : t.length ≤ 4096) : Asked [[10,k,x,y],t]
 | enough (k f : Int) : Asked [[11,k,f]]
 | loss (l p : List Int) (h : l.length ≤ 16) (h2 : p.length ≤ 16) : Asked [[12],l,p]
 | apart (k : Int) : Asked [[13,k]]
 | members : Asked [[14]]
 | text (x : Int) : Asked [[15,x]]
theorem bytes_of {t : List Int} (h : (t.all fun z=>VbchaiNeutral.natural z 8) = true) : ∀ z ∈ t,0 ≤ z:=fun z hz=>by
 have:=List.all_eq_true.mp h z hz
 unfold VbchaiNeutral.natural at this
 rw [Bool.and_eq_true] at this
 exact of_decide_eq_true this.1
theorem anl {a b : Bool} (h : (a && b) = true) : a = true:=(Bool.and_eq_true_iff.mp h).1
theorem anr {a b : Bool} (h : (a && b) = true) : b = true:=(Bool.and_eq_true_iff.mp h).2
theorem asked_of {c : List (List Int)} (s : Shaped c) (h : VbchaiNeutral.asked1 c = true) : Asked c:=by
 cases s with
 | c0=>exact .now _ (of_decide_eq_true (anr h))
 | c1=>exact .member _ _ _ (bytes_of (anl (anr (anr h)))) (of_decide_eq_true (anr (anr (anr h))))
 | c2=>exact .leave _
 | c3=>exact .margin _ _
 | c4=>exact .trade _ _ _ (bytes_of (anl (anr (anr h)))) (of_decide_eq_true (anr (anr (anr h))))
 | c5=>exact .box _ _ (of_decide_eq_true (anr (anr h)))
 | c6=>exact .unbox _
 | c7=>exact .uncovered _ (of_decide_eq_true (anr h))
 | c8=>exact .fund _
 | c9=>exact .without _ _
 | c10=>exact .iftrade _ _ _ _ (bytes_of (anl (anr (anr (anr h))))) (of_decide_eq_true (anr (anr (anr (anr h)))))
 | c11=>exact .enough _ _
 | c12=>exact .loss _ _ (of_decide_eq_true (anr (anl h))) (of_decide_eq_true (anr (anr h)))
 | c13=>exact .apart _
 | c14=>exact .members
 | c15=>exact .text _
theorem st_unc (s : State) (p : List Int) : (Vbchai.step s (.uncovered p)).1 = s:=by
 simp only [Vbchai.step]
 repeat' split
 all_goals rfl
theorem st_fund (s : State) (k : Int) : (Vbchai.step s (.fund k)).1 = s:=by
 simp only [Vbchai.step]
 repeat' split
 all_goals rfl
theorem st_without (s : State) (k x : Int) : (Vbchai.step s (.without k x)).1 = s:=by
 simp only [Vbchai.step]
 repeat' split
 all_goals rfl
theorem st_iftrade (s : State) (k x y : Int) (t : List Nat) : (Vbchai.step s (.ifTrade k x y t)).1 = s:=by
 simp only [Vbchai.step]
 repeat' split
 all_goals rfl
theorem st_enough (s : State) (k f : Int) : (Vbchai.step s (.enough k f)).1 = s:=by
 simp only [Vbchai.step]
 repeat' split
 all_goals rfl
theorem st_loss (s : State) (l p : List Int) : (Vbchai.step s (.loss l p)).1 = s:=by
 simp only [Vbchai.step]
 repeat' split
 all_goals rfl
theorem st_apart (s : State) (k : Int) : (Vbchai.step s (.apart k)).1 = s:=by
 simp only [Vbchai.step]
 repeat' split
 all_goals rfl
theorem st_text (s : State) (x : Int) : (Vbchai.step s (.text x)).1 = s:=by
 simp only [Vbchai.step]
 repeat' split
 all_goals rfl
theorem Outs.tells {D : Ads} {H : Hp} {a dx pn mp bp xp : Addr} {mk bk xk : List (Key × V)} {rs : List Addr} {s : State} {Q : VK} {r : State × List Int} (k : Outs D H a dx pn mp bp xp bk xk rs Q r) (hH : HouseAt D H a dx pn mp bp xp mk bk xk s) (g : Good s) (e : r.1 = s) : Tells H Q r.2:=fun H' p hf hp s1=>by
 refine k H' pn mk bk xk p ?_ ?_ hf hp (fun b o e _ _ _ _=>s1 b o e) fun _ _ _ h=>h
 ·rw [e]; exact hH.same s1
 ·rw [e]; exact g
theorem Outs.weak {D : Ads} {H : Hp} {a dx pn mp bp xp : Addr} {bk xk : List (Key × V)} {rs : List Addr} {Q : VK} {r : State × List Int} (k : Outs D H a dx pn mp bp xp bk xk rs Q r) : Outs D H a dx pn mp bp xp bk xk [] Q r:=fun H' pn' mk' bk' xk' p h1 h2 h3 h4 h5 h6 =>
 k H' pn' mk' bk' xk' p h1 h2 h3 h4 h5 fun N n _ h=>h6 N n (fun x hx=>by cases hx) h
theorem valV_kv {kvs : List (Key × V)} {k : Key} {v : V} (h : valV kvs k = some v) : ∃ kv ∈ kvs,kv.2 = v:=by
 unfold valV at h
 cases e : kvs.find? fun kv=>decide (kv.1 = k) with
 | none=>rw [e] at h; cases h
 | some kv=>rw [e] at h; exact ⟨kv,List.mem_of_find?_eq_some e,Option.some.inj h⟩
theorem HouseAt.but {D : Ads} {H H' : Hp} {a dx pn mp bp xp tp : Addr} {mk bk xk : List (Key × V)} {s : State} {ys : List V} (h : HouseAt D H a dx pn mp bp xp mk bk xk s) (n : HN (fun x=>x ≠ tp) pn bk xk) (e : SameBut tp H H') (ht : H tp = some (.lst ys)) : HouseAt D H' a dx pn mp bp xp mk bk xk s:=by
 refine ⟨e _ _ h.obj (ne_of h.obj ht (by intro z; cases z)),e _ _ h.now n.now,e _ _ h.mar (ne_of h.mar ht (by intro z; cases z)),e _ _ h.bok (ne_of h.bok ht (by intro z; cases z)),e _ _ h.box (ne_of h.box ht (by intro z; cases z)),h.mb,h.mx,h.bx,h.rm,⟨h.rb.nd,h.rb.keys,fun m hm=>?_⟩,⟨h.rx.nd,h.rx.keys,fun m hm=>?_⟩⟩
 ·obtain ⟨v,ev,q,rfl,ps,h1,h2⟩:=h.rb.val m hm
  obtain ⟨kv,hkv,e2⟩:=valV_kv ev
  exact ⟨_,ev,q,rfl,ps,e _ _ h1 (n.bok kv hkv q e2),h2.imp fun b l ⟨d,x⟩=>⟨d,e _ _ x (ne_of x ht (by intro z; cases z))⟩⟩
 ·obtain ⟨v,ev,q,rfl,h1⟩:=h.rx.val m hm
  obtain ⟨kv,hkv,e2⟩:=valV_kv ev
  exact ⟨_,ev,q,rfl,e _ _ h1 (n.box kv hkv q e2)⟩
theorem DRel.empty {α : Type} {key : α → Nat} {R : α → V → Prop} {kvs : List (Key × V)} (h : DRel key R kvs []) : ∀ kv,kv ∉ kvs:=fun kv hk=>by
 obtain ⟨m,hm,_⟩:=(h.keys kv.1).mp (List.mem_map.mpr ⟨kv,hk,rfl⟩)
 cases hm
section
variable {P : Program} {w : World} {K : PySem.W.Frag} {mg : Str → Option Value} {base : Heap} {D : Ads}
abbrev s_change : Stmt:=top 82
abbrev s_tell : Stmt:=top 83
abbrev s_answer : Stmt:=top 84
def spChange (D : Ads) : Sp:=fun vs H Q _=>∃ (a dx pn mp bp xp : Addr) (mk bk xk : List (Key × V)) (s : State) (p : Int) (nums : List Int) (xs : List (List Int)) (np rp : Addr) (qs : List Addr),vs = [.ref a,.int p,.ref np,.ref rp] ∧ HouseAt D H a dx pn mp bp xp mk bk xk s ∧ Good s ∧ H np = some (.lst (intsV nums)) ∧ H rp = some (.lst (qs.map V.ref)) ∧ All2 (fun q x=>H q = some (.lst (intsV x))) qs xs ∧ Asked ((p :: nums) :: xs) ∧ p < 7 ∧ Outs D H a dx pn mp bp xp bk xk qs Q (VbchaiNeutral.step s ((p :: nums) :: xs))
def spTell (D : Ads) : Sp:=fun vs H Q _=>∃ (a dx pn mp bp xp : Addr) (mk bk xk : List (Key × V)) (s : State) (p : Int) (nums : List Int) (xs : List (List Int)) (np rp : Addr) (qs : List Addr),vs = [.ref a,.int p,.ref np,.ref rp] ∧ HouseAt D H a dx pn mp bp xp mk bk xk s ∧ Good s ∧ H np = some (.lst (intsV nums)) ∧ H rp = some (.lst (qs.map V.ref)) ∧ All2 (fun q x=>H q = some (.lst (intsV x))) qs xs ∧ Asked ((p :: nums) :: xs) ∧ ¬ p < 7 ∧ Outs D H a dx pn mp bp xp bk xk qs Q (VbchaiNeutral.step s ((p :: nums) :: xs))
def spAnswer (D : Ads) : Sp:=fun vs H Q _=>∃ (a dx pn mp bp xp : Addr) (mk bk xk : List (Key × V)) (s : State) (p : Int) (nums : List Int) (xs : List (List Int)) (np rp : Addr) (qs : List Addr),vs = [.ref a,.int p,.ref np,.ref rp] ∧ HouseAt D H a dx pn mp bp xp mk bk xk s ∧ Good s ∧ H np = some (.lst (intsV nums)) ∧ H rp = some (.lst (qs.map V.ref)) ∧ All2 (fun q x=>H q = some (.lst (intsV x))) qs xs ∧ Asked ((p :: nums) :: xs) ∧ Outs D H a dx pn mp bp xp bk xk qs Q (VbchaiNeutral.step s ((p :: nums) :: xs))
theorem sc_change : FnScope ["house","call","numbers","rows"] ["house","call","numbers","rows"] (defScope s_change):=scm
theorem sc_tell : FnScope ["house","call","numbers","rows"] ["house","call","numbers","rows"] (defScope s_tell):=scm
theorem sc_answer : FnScope ["house","call","numbers","rows"] ["house","call","numbers","rows"] (defScope s_answer):=scm
theorem ok_change (F : FunG K mg "change" s_change) (T : Txt K mg D) (c0 : Cal P w K mg base CX0 2 "set_now" ["house","prices"] (spNow D)) (c1 : Cal P w K mg base CX0 8 "put_member" ["house","who","margin","text"] (spMember D)) (c2 : Cal P w K mg base CX0 1 "drop_member" ["house","who"] (spDrop D)) (c3 : Cal P w K mg base CX0 2 "set_margin" ["house","who","margin"] (spSetM D)) (c4 : Cal P w K mg base CX0 8 "make_trade" ["house","a","b","text"] (spTrade D)) (c5 : Cal P w K mg base CX0 3 "put_box" ["house","key","box"] (spBox D)) (c6 : Cal P w K mg base CX0 1 "drop_box" ["house","key"] (spUnbox D)) : Cal P w K mg base CX0 9 "change" ["house","call","numbers","rows"] (spChange D):=by
 obtain ⟨f,fd,F,hm⟩:=F
 refine ⟨f,fd,F.ok sc_change (fun vs H Q E h=>?_) (fun cdv A outer s H vs Q E hr h=>?_),hm,F.kp,F.binds fun _ _ _ _ _ _ us hl=>match us,hl with | [_,_,_,_],_=>rfl⟩
 ·obtain ⟨a,dx,pn,mp,bp,xp,mk,bk,xk,s,p,nums,xs,np,rp,qs,rfl,_⟩:=h
  rfl
 ·obtain ⟨a,dx,pn,mp,bp,xp,mk,bk,xk,st,p,nums,xs,np,rp,qs,rfl,hH,g,hnp,hrp,hqs,hA,hp7,k⟩:=h
  refine ⟨_,pss_cons (ps_if (pt_cmpR op_eq (pv 1) (pe_int) (nomark _)) (pss_one (ps_ret (pe_cal c0 (hr.mono (by decide)) rfl pass0 (pa_cons (pv 0) (pa_cons (pe_ix ix_list (pv 3) (pe_int) (fun _ _=>rfl)) (pa_nil)))))) (pss_nil)) (pss_cons (ps_if (pt_cmpR op_eq (pv 1) (pe_int) (nomark _)) (pss_one (ps_ret (pe_cal c1 (hr.mono (by decide)) rfl pass0 (pa_cons (pv 0) (pa_cons (pe_ix ix_list (pv 2) (pe_int) (fun _ _=>rfl)) (pa_cons (pe_ix ix_list (pv 2) (pe_int) (fun _ _=>rfl)) (pa_cons (pe_ix ix_list (pv 3) (pe_int) (fun _ _=>rfl)) (pa_nil)))))))) (pss_nil)) (pss_cons (ps_if (pt_cmpR op_eq (pv 1) (pe_int) (nomark _)) (pss_one (ps_ret (pe_cal c2 (hr.mono (by decide)) rfl pass0 (pa_cons (pv 0) (pa_cons (pe_ix ix_list (pv 2) (pe_int) (fun _ _=>rfl)) (pa_nil)))))) (pss_nil)) (pss_cons (ps_if (pt_cmpR op_eq (pv 1) (pe_int) (nomark _)) (pss_one (ps_ret (pe_cal c3 (hr.mono (by decide)) rfl pass0 (pa_cons (pv 0) (pa_cons (pe_ix ix_list (pv 2) (pe_int) (fun _ _=>rfl)) (pa_cons (pe_ix ix_list (pv 2) (pe_int) (fun _ _=>rfl)) (pa_nil))))))) (pss_nil)) (pss_cons (ps_if (pt_cmpR op_eq (pv 1) (pe_int) (nomark _)) (pss_one (ps_ret (pe_cal c4 (hr.mono (by decide)) rfl pass0 (pa_cons (pv 0) (pa_cons (pe_ix ix_list (pv 2) (pe_int) (fun _ _=>rfl)) (pa_cons (pe_ix ix_list (pv 2) (pe_int) (fun _ _=>rfl)) (pa_cons (pe_ix ix_list (pv 3) (pe_int) (fun _ _=>rfl)) (pa_nil)))))))) (pss_nil)) (pss_cons (ps_if (pt_cmpR op_eq (pv 1) (pe_int) (nomark _)) (pss_one (ps_ret (pe_cal c5 (hr.mono (by decide)) rfl pass0 (pa_cons (pv 0) (pa_cons (pe_ix ix_list (pv 2) (pe_int) (fun _ _=>rfl)) (pa_cons (pe_ix ix_list (pv 3) (pe_int) (fun _ _=>rfl)) (pa_nil))))))) (pss_nil)) (pss_one (ps_ret (pe_cal c6 (hr.mono (by decide)) rfl pass0 (pa_cons (pv 0) (pa_cons (pe_ix ix_list (pv 2) (pe_int) (fun _ _=>rfl)) (pa_nil))))))))))),?_⟩
  cases hA with
  | now p hp =>
   cases hqs with
   | cons h0 h1 =>
   cases h1
   rename_i q0
   refine ⟨_,rfl,rfl,_,rfl,ite2 (fun _=>?_) (fun z=>absurd (decide_eq_true rfl) z)⟩
   refine ⟨_,rfl,_,rfl,rp,_,_,_,rfl,rfl,sqL_of hrp,rfl,a,dx,pn,mp,bp,xp,mk,bk,xk,st,q0,p,rfl,hH,g,h0,by omega,k⟩
  | member x m t hb hl =>
   cases hqs with
   | cons h0 h1 =>
   cases h1
   rename_i q0
   refine ⟨_,rfl,rfl,_,rfl,ite2 (fun z=>dn z) (fun _=>?_)⟩
   refine ⟨_,rfl,rfl,_,rfl,ite2 (fun _=>?_) (fun z=>absurd (decide_eq_true rfl) z)⟩
   refine ⟨_,rfl,_,rfl,np,_,_,_,rfl,rfl,sqL_of hnp,rfl,_,rfl,np,_,_,_,rfl,rfl,sqL_of hnp,rfl,_,rfl,rp,_,_,_,rfl,rfl,sqL_of hrp,rfl,a,dx,pn,mp,bp,xp,mk,bk,xk,st,x,m,q0,t.map Int.toNat,rfl,hH,g,by rw [natsV_ints hb]; exact h0,by rw [List.length_map]; exact hl,k.weak⟩
  | leave x =>
   cases hqs
   refine ⟨_,rfl,rfl,_,rfl,ite2 (fun z=>dn z) (fun _=>?_)⟩
   refine ⟨_,rfl,rfl,_,rfl,ite2 (fun z=>dn z) (fun _=>?_)⟩
   refine ⟨_,rfl,rfl,_,rfl,ite2 (fun _=>?_) (fun z=>absurd (decide_eq_true rfl) z)⟩
   refine ⟨_,rfl,_,rfl,np,_,_,_,rfl,rfl,sqL_of hnp,rfl,a,dx,pn,mp,bp,xp,mk,bk,xk,st,x,rfl,hH,g,k⟩
  | margin x m =>
   cases hqs
   refine ⟨_,rfl,rfl,_,rfl,ite2 (fun z=>dn z) (fun _=>?_)⟩
   refine ⟨_,rfl,rfl,_,rfl,ite2 (fun z=>dn z) (fun _=>?_)⟩
   refine ⟨_,rfl,rfl,_,rfl,ite2 (fun z=>dn z) (fun _=>?_)⟩
   refine ⟨_,rfl,rfl,_,rfl,ite2 (fun _=>?_) (fun z=>absurd (decide_eq_true rfl) z)⟩
   refine ⟨_,rfl,_,rfl,np,_,_,_,rfl,rfl,sqL_of hnp,rfl,_,rfl,np,_,_,_,rfl,rfl,sqL_of hnp,rfl,a,dx,pn,mp,bp,xp,mk,bk,xk,st,x,m,rfl,hH,g,k⟩
  | trade x y t hb hl =>
   cases hqs with
   | cons h0 h1 =>
   cases h1
   rename_i q0
   refine ⟨_,rfl,rfl,_,rfl,ite2 (fun z=>dn z) (fun _=>?_)⟩
   refine ⟨_,rfl,rfl,_,rfl,ite2 (fun z=>dn z) (fun _=>?_)⟩
   refine ⟨_,rfl,rfl,_,rfl,ite2 (fun z=>dn z) (fun _=>?_)⟩
   refine ⟨_,rfl,rfl,_,rfl,ite2 (fun z=>dn z) (fun _=>?_)⟩
   refine ⟨_,rfl,rfl,_,rfl,ite2 (fun _=>?_) (fun z=>absurd (decide_eq_true rfl) z)⟩
   refine ⟨_,rfl,_,rfl,np,_,_,_,rfl,rfl,sqL_of hnp,rfl,_,rfl,np,_,_,_,rfl,rfl,sqL_of hnp,rfl,_,rfl,rp,_,_,_,rfl,rfl,sqL_of hrp,rfl,a,dx,pn,mp,bp,xp,mk,bk,xk,st,x,y,q0,t.map Int.toNat,rfl,hH,g,by rw [natsV_ints hb]; exact h0,by rw [List.length_map]; exact hl,k.weak⟩
  | box x p hp =>
   cases hqs with
   | cons h0 h1 =>
   cases h1
   rename_i q0
   refine ⟨_,rfl,rfl,_,rfl,ite2 (fun z=>dn z) (fun _=>?_)⟩
   refine ⟨_,rfl,rfl,_,rfl,ite2 (fun z=>dn z) (fun _=>?_)⟩
   refine ⟨_,rfl,rfl,_,rfl,ite2 (fun z=>dn z) (fun _=>?_)⟩
   refine ⟨_,rfl,rfl,_,rfl,ite2 (fun z=>dn z) (fun _=>?_)⟩
   refine ⟨_,rfl,rfl,_,rfl,ite2 (fun z=>dn z) (fun _=>?_)⟩
   refine ⟨_,rfl,rfl,_,rfl,ite2 (fun _=>?_) (fun z=>absurd (decide_eq_true rfl) z)⟩
   refine ⟨_,rfl,_,rfl,np,_,_,_,rfl,rfl,sqL_of hnp,rfl,_,rfl,rp,_,_,_,rfl,rfl,sqL_of hrp,rfl,a,dx,pn,mp,bp,xp,mk,bk,xk,st,x,q0,p,rfl,hH,g,h0,by omega,k⟩
  | unbox x =>
   cases hqs
   refine ⟨_,rfl,rfl,_,rfl,ite2 (fun z=>dn z) (fun _=>?_)⟩
   refine ⟨_,rfl,rfl,_,rfl,ite2 (fun z=>dn z) (fun _=>?_)⟩
   refine ⟨_,rfl,rfl,_,rfl,ite2 (fun z=>dn z) (fun _=>?_)⟩
   refine ⟨_,rfl,rfl,_,rfl,ite2 (fun z=>dn z) (fun _=>?_)⟩
   refine ⟨_,rfl,rfl,_,rfl,ite2 (fun z=>dn z) (fun _=>?_)⟩
   refine ⟨_,rfl,rfl,_,rfl,ite2 (fun z=>dn z) (fun _=>?_)⟩
   refine ⟨_,rfl,_,rfl,np,_,_,_,rfl,rfl,sqL_of hnp,rfl,a,dx,pn,mp,bp,xp,mk,bk,xk,st,x,rfl,hH,g,k⟩
  | uncovered p hp=>exact absurd hp7 (by decide)
  | fund x=>exact absurd hp7 (by decide)
  | without x y=>exact absurd hp7 (by decide)
  | iftrade x y z t hb hl=>exact absurd hp7 (by decide)
  | enough x y=>exact absurd hp7 (by decide)
  | loss p q hp hq=>exact absurd hp7 (by decide)
  | apart x=>exact absurd hp7 (by decide)
  | members=>exact absurd hp7 (by decide)
  | text x=>exact absurd hp7 (by decide)
theorem ok_tell (F : FunG K mg "tell" s_tell) (T : Txt K mg D) (c7 : Cal P w K mg base CX0 7 "tell_uncovered" ["house","numbers"] (spTUnc D)) (c8 : Cal P w K mg base CX0 7 "tell_fund" ["house","k"] (spTFund D)) (c9 : Cal P w K mg base CX0 7 "tell_without" ["house","k","who"] (spTWo D)) (c10 : Cal P w K mg base CX0 9 "tell_if_trade" ["house","k","a","b","text"] (spTIf D)) (c11 : Cal P w K mg base CX0 7 "tell_enough" ["house","k","fund"] (spTEn D)) (c12 : Cal P w K mg base CX0 4 "tell_loss" ["house","numbers","prices"] (spTLoss D)) (c13 : Cal P w K mg base CX0 7 "tell_apart" ["house","k"] (spTApart D)) (c14 : Cal P w K mg base CX0 1 "tell_members" ["house"] (spTMem D)) (c15 : Cal P w K mg base CX0 4 "tell_text" ["house","who"] (spTText D)) : Cal P w K mg base CX0 10 "tell" ["house","call","numbers","rows"] (spTell D):=by
 obtain ⟨f,fd,F,hm⟩:=F
 refine ⟨f,fd,F.ok sc_tell (fun vs H Q E h=>?_) (fun cdv A outer s H vs Q E hr h=>?_),hm,F.kp,F.binds fun _ _ _ _ _ _ us hl=>match us,hl with | [_,_,_,_],_=>rfl⟩
 ·obtain ⟨a,dx,pn,mp,bp,xp,mk,bk,xk,s,p,nums,xs,np,rp,qs,rfl,_⟩:=h
  rfl
 ·obtain ⟨a,dx,pn,mp,bp,xp,mk,bk,xk,st,p,nums,xs,np,rp,qs,rfl,hH,g,hnp,hrp,hqs,hA,hp7,k⟩:=h
  refine ⟨_,pss_cons (ps_if (pt_cmpR op_eq (pv 1) (pe_int) (nomark _)) (pss_one (ps_ret (pe_cal c7 (hr.mono (by decide)) rfl pass0 (pa_cons (pv 0) (pa_cons (pe_ix ix_list (pv 3) (pe_int) (fun _ _=>rfl)) (pa_nil)))))) (pss_nil)) (pss_cons (ps_if (pt_cmpR op_eq (pv 1) (pe_int) (nomark _)) (pss_one (ps_ret (pe_cal c8 (hr.mono (by decide)) rfl pass0 (pa_cons (pv 0) (pa_cons (pe_ix ix_list (pv 2) (pe_int) (fun _ _=>rfl)) (pa_nil)))))) (pss_nil)) (pss_cons (ps_if (pt_cmpR op_eq (pv 1) (pe_int) (nomark _)) (pss_one (ps_ret (pe_cal c9 (hr.mono (by decide)) rfl pass0 (pa_cons (pv 0) (pa_cons (pe_ix ix_list (pv 2) (pe_int) (fun _ _=>rfl)) (pa_cons (pe_ix ix_list (pv 2) (pe_int) (fun _ _=>rfl)) (pa_nil))))))) (pss_nil)) (pss_cons (ps_if (pt_cmpR op_eq (pv 1) (pe_int) (nomark _)) (pss_one (ps_ret (pe_cal c10 (hr.mono (by decide)) rfl pass0 (pa_cons (pv 0) (pa_cons (pe_ix ix_list (pv 2) (pe_int) (fun _ _=>rfl)) (pa_cons (pe_ix ix_list (pv 2) (pe_int) (fun _ _=>rfl)) (pa_cons (pe_ix ix_list (pv 2) (pe_int) (fun _ _=>rfl)) (pa_cons (pe_ix ix_list (pv 3) (pe_int) (fun _ _=>rfl)) (pa_nil))))))))) (pss_nil)) (pss_cons (ps_if (pt_cmpR op_eq (pv 1) (pe_int) (nomark _)) (pss_one (ps_ret (pe_cal c11 (hr.mono (by decide)) rfl pass0 (pa_cons (pv 0) (pa_cons (pe_ix ix_list (pv 2) (pe_int) (fun _ _=>rfl)) (pa_cons (pe_ix ix_list (pv 2) (pe_int) (fun _ _=>rfl)) (pa_nil))))))) (pss_nil)) (pss_cons (ps_if (pt_cmpR op_eq (pv 1) (pe_int) (nomark _)) (pss_one (ps_ret (pe_cal c12 (hr.mono (by decide)) rfl pass0 (pa_cons (pv 0) (pa_cons (pe_ix ix_list (pv 3) (pe_int) (fun _ _=>rfl)) (pa_cons (pe_ix ix_list (pv 3) (pe_int) (fun _ _=>rfl)) (pa_nil))))))) (pss_nil)) (pss_cons (ps_if (pt_cmpR op_eq (pv 1) (pe_int) (nomark _)) (pss_one (ps_ret (pe_cal c13 (hr.mono (by decide)) rfl pass0 (pa_cons (pv 0) (pa_cons (pe_ix ix_list (pv 2) (pe_int) (fun _ _=>rfl)) (pa_nil)))))) (pss_nil)) (pss_cons (ps_if (pt_cmpR op_eq (pv 1) (pe_int) (nomark _)) (pss_one (ps_ret (pe_cal c14 (hr.mono (by decide)) rfl pass0 (pa_cons (pv 0) (pa_nil))))) (pss_nil)) (pss_one (ps_ret (pe_cal c15 (hr.mono (by decide)) rfl pass0 (pa_cons (pv 0) (pa_cons (pe_ix ix_list (pv 2) (pe_int) (fun _ _=>rfl)) (pa_nil))))))))))))),?_⟩
  cases hA with
  | now p hp=>exact absurd hp7 (by decide)
  | member x m t hb hl=>exact absurd hp7 (by decide)
  | leave x=>exact absurd hp7 (by decide)
  | margin x m=>exact absurd hp7 (by decide)
  | trade x y t hb hl=>exact absurd hp7 (by decide)
  | box x p hp=>exact absurd hp7 (by decide)
  | unbox x=>exact absurd hp7 (by decide)
  | uncovered p hp =>
   cases hqs with
   | cons h0 h1 =>
   cases h1
   rename_i q0
   refine ⟨_,rfl,rfl,_,rfl,ite2 (fun _=>?_) (fun z=>absurd (decide_eq_true rfl) z)⟩
   refine ⟨_,rfl,_,rfl,rp,_,_,_,rfl,rfl,sqL_of hrp,rfl,a,q0,st,p,rfl,⟨dx,pn,mp,bp,xp,mk,bk,xk,hH⟩,g,h0,hp,k.tells hH g (st_unc _ _)⟩
  | fund x =>
   cases hqs
   refine ⟨_,rfl,rfl,_,rfl,ite2 (fun z=>dn z) (fun _=>?_)⟩
   refine ⟨_,rfl,rfl,_,rfl,ite2 (fun _=>?_) (fun z=>absurd (decide_eq_true rfl) z)⟩
   refine ⟨_,rfl,_,rfl,np,_,_,_,rfl,rfl,sqL_of hnp,rfl,a,st,x,rfl,⟨dx,pn,mp,bp,xp,mk,bk,xk,hH⟩,g,k.tells hH g (st_fund _ _)⟩
  | without x y =>
   cases hqs
   refine ⟨_,rfl,rfl,_,rfl,ite2 (fun z=>dn z) (fun _=>?_)⟩
   refine ⟨_,rfl,rfl,_,rfl,ite2 (fun z=>dn z) (fun _=>?_)⟩
   refine ⟨_,rfl,rfl,_,rfl,ite2 (fun _=>?_) (fun z=>absurd (decide_eq_true rfl) z)⟩
   refine ⟨_,rfl,_,rfl,np,_,_,_,rfl,rfl,sqL_of hnp,rfl,_,rfl,np,_,_,_,rfl,rfl,sqL_of hnp,rfl,a,st,x,y,rfl,⟨dx,pn,mp,bp,xp,mk,bk,xk,hH⟩,g,k.tells hH g (st_without _ _ _)⟩
  | iftrade x y z t hb hl =>
   cases hqs with
   | cons h0 h1 =>
   cases h1
   rename_i q0
   refine ⟨_,rfl,rfl,_,rfl,ite2 (fun z=>dn z) (fun _=>?_)⟩
   refine ⟨_,rfl,rfl,_,rfl,ite2 (fun z=>dn z) (fun _=>?_)⟩
   refine ⟨_,rfl,rfl,_,rfl,ite2 (fun z=>dn z) (fun _=>?_)⟩
   refine ⟨_,rfl,rfl,_,rfl,ite2 (fun _=>?_) (fun z=>absurd (decide_eq_true rfl) z)⟩
   refine ⟨_,rfl,_,rfl,np,_,_,_,rfl,rfl,sqL_of hnp,rfl,_,rfl,np,_,_,_,rfl,rfl,sqL_of hnp,rfl,_,rfl,np,_,_,_,rfl,rfl,sqL_of hnp,rfl,_,rfl,rp,_,_,_,rfl,rfl,sqL_of hrp,rfl,a,st,x,y,z,q0,t.map Int.toNat,rfl,⟨dx,pn,mp,bp,xp,mk,bk,xk,hH⟩,g,by rw [natsV_ints hb]; exact h0,by rw [List.length_map]; exact hl,k.tells hH g (st_iftrade _ _ _ _ _)⟩
  | enough x y =>
   cases hqs
   refine ⟨_,rfl,rfl,_,rfl,ite2 (fun z=>dn z) (fun _=>?_)⟩
   refine ⟨_,rfl,rfl,_,rfl,ite2 (fun z=>dn z) (fun _=>?_)⟩
   refine ⟨_,rfl,rfl,_,rfl,ite2 (fun z=>dn z) (fun _=>?_)⟩
   refine ⟨_,rfl,rfl,_,rfl,ite2 (fun z=>dn z) (fun _=>?_)⟩
   refine ⟨_,rfl,rfl,_,rfl,ite2 (fun _=>?_) (fun z=>absurd (decide_eq_true rfl) z)⟩
   refine ⟨_,rfl,_,rfl,np,_,_,_,rfl,rfl,sqL_of hnp,rfl,_,rfl,np,_,_,_,rfl,rfl,sqL_of hnp,rfl,a,st,x,y,rfl,⟨dx,pn,mp,bp,xp,mk,bk,xk,hH⟩,g,k.tells hH g (st_enough _ _ _)⟩
  | loss p q hp hq =>
   cases hqs with
   | cons h0 h1 =>
   cases h1 with
   | cons h1 h2 =>
   cases h2
   rename_i q0 q1
   refine ⟨_,rfl,rfl,_,rfl,ite2 (fun z=>dn z) (fun _=>?_)⟩
   refine ⟨_,rfl,rfl,_,rfl,ite2 (fun z=>dn z) (fun _=>?_)⟩
   refine ⟨_,rfl,rfl,_,rfl,ite2 (fun z=>dn z) (fun _=>?_)⟩
   refine ⟨_,rfl,rfl,_,rfl,ite2 (fun z=>dn z) (fun _=>?_)⟩
   refine ⟨_,rfl,rfl,_,rfl,ite2 (fun z=>dn z) (fun _=>?_)⟩
   refine ⟨_,rfl,rfl,_,rfl,ite2 (fun _=>?_) (fun z=>absurd (decide_eq_true rfl) z)⟩
   refine ⟨_,rfl,_,rfl,rp,_,_,_,rfl,rfl,sqL_of hrp,rfl,_,rfl,rp,_,_,_,rfl,rfl,sqL_of hrp,rfl,a,q0,q1,st,p,q,rfl,⟨dx,pn,mp,bp,xp,mk,bk,xk,hH⟩,g,h0,h1,by omega,k.tells hH g (st_loss _ _ _)⟩
  | apart x =>
   cases hqs
   refine ⟨_,rfl,rfl,_,rfl,ite2 (fun z=>dn z) (fun _=>?_)⟩
   refine ⟨_,rfl,rfl,_,rfl,ite2 (fun z=>dn z) (fun _=>?_)⟩
   refine ⟨_,rfl,rfl,_,rfl,ite2 (fun z=>dn z) (fun _=>?_)⟩
   refine ⟨_,rfl,rfl,_,rfl,ite2 (fun z=>dn z) (fun _=>?_)⟩
   refine ⟨_,rfl,rfl,_,rfl,ite2 (fun z=>dn z) (fun _=>?_)⟩
   refine ⟨_,rfl,rfl,_,rfl,ite2 (fun z=>dn z) (fun _=>?_)⟩
   refine ⟨_,rfl,rfl,_,rfl,ite2 (fun _=>?_) (fun z=>absurd (decide_eq_true rfl) z)⟩
   refine ⟨_,rfl,_,rfl,np,_,_,_,rfl,rfl,sqL_of hnp,rfl,a,st,x,rfl,⟨dx,pn,mp,bp,xp,mk,bk,xk,hH⟩,g,k.tells hH g (st_apart _ _)⟩
  | members =>
   cases hqs
   refine ⟨_,rfl,rfl,_,rfl,ite2 (fun z=>dn z) (fun _=>?_)⟩
   refine ⟨_,rfl,rfl,_,rfl,ite2 (fun z=>dn z) (fun _=>?_)⟩
   refine ⟨_,rfl,rfl,_,rfl,ite2 (fun z=>dn z) (fun _=>?_)⟩
   refine ⟨_,rfl,rfl,_,rfl,ite2 (fun z=>dn z) (fun _=>?_)⟩
   refine ⟨_,rfl,rfl,_,rfl,ite2 (fun z=>dn z) (fun _=>?_)⟩
   refine ⟨_,rfl,rfl,_,rfl,ite2 (fun z=>dn z) (fun _=>?_)⟩
   refine ⟨_,rfl,rfl,_,rfl,ite2 (fun z=>dn z) (fun _=>?_)⟩
   refine ⟨_,rfl,rfl,_,rfl,ite2 (fun _=>?_) (fun z=>absurd (decide_eq_true rfl) z)⟩
   refine ⟨_,rfl,a,st,rfl,⟨dx,pn,mp,bp,xp,mk,bk,xk,hH⟩,g,k.tells hH g rfl⟩
  | text x =>
   cases hqs
   refine ⟨_,rfl,rfl,_,rfl,ite2 (fun z=>dn z) (fun _=>?_)⟩
   refine ⟨_,rfl,rfl,_,rfl,ite2 (fun z=>dn z) (fun _=>?_)⟩
   refine ⟨_,rfl,rfl,_,rfl,ite2 (fun z=>dn z) (fun _=>?_)⟩
   refine ⟨_,rfl,rfl,_,rfl,ite2 (fun z=>dn z) (fun _=>?_)⟩
   refine ⟨_,rfl,rfl,_,rfl,ite2 (fun z=>dn z) (fun _=>?_)⟩
   refine ⟨_,rfl,rfl,_,rfl,ite2 (fun z=>dn z) (fun _=>?_)⟩
   refine ⟨_,rfl,rfl,_,rfl,ite2 (fun z=>dn z) (fun _=>?_)⟩
   refine ⟨_,rfl,rfl,_,rfl,ite2 (fun z=>dn z) (fun _=>?_)⟩
   refine ⟨_,rfl,_,rfl,np,_,_,_,rfl,rfl,sqL_of hnp,rfl,a,st,x,rfl,⟨dx,pn,mp,bp,xp,mk,bk,xk,hH⟩,g,k.tells hH g (st_text _ _)⟩
theorem ok_answer (F : FunG K mg "answer" s_answer) (T : Txt K mg D) (cC : Cal P w K mg base CX0 9 "change" ["house","call","numbers","rows"] (spChange D)) (cT : Cal P w K mg base CX0 10 "tell" ["house","call","numbers","rows"] (spTell D)) : Cal P w K mg base CX0 11 "answer" ["house","call","numbers","rows"] (spAnswer D):=by
 obtain ⟨f,fd,F,hm⟩:=F
 refine ⟨f,fd,F.ok sc_answer (fun vs H Q E h=>?_) (fun cdv A outer s H vs Q E hr h=>?_),hm,F.kp,F.binds fun _ _ _ _ _ _ us hl=>match us,hl with | [_,_,_,_],_=>rfl⟩
 ·obtain ⟨a,dx,pn,mp,bp,xp,mk,bk,xk,s,p,nums,xs,np,rp,qs,rfl,_⟩:=h
  rfl
 ·obtain ⟨a,dx,pn,mp,bp,xp,mk,bk,xk,st,p,nums,xs,np,rp,qs,rfl,hH,g,hnp,hrp,hqs,hA,k⟩:=h
  refine ⟨_,pss_cons (ps_if (pt_cmpR op_lt (pv 1) (pe_gv rfl T.FIRST_QUESTION) (nomark _)) (pss_one (ps_ret (pe_cal cC (hr.mono (by decide)) rfl pass0 (pa_cons (pv 0) (pa_cons (pv 1) (pa_cons (pv 2) (pa_cons (pv 3) (pa_nil)))))))) (pss_nil)) (pss_one (ps_ret (pe_cal cT hr rfl pass0 (pa_cons (pv 0) (pa_cons (pv 1) (pa_cons (pv 2) (pa_cons (pv 3) (pa_nil)))))))),?_⟩
  refine ⟨_,rfl,_,_,rfl,rfl,_,rfl,?_⟩
  refine ite2 (fun z=>?_) (fun z=>?_)
  ·have z:=of_decide_eq_true z
   exact ⟨_,rfl,_,rfl,_,rfl,_,rfl,a,dx,pn,mp,bp,xp,mk,bk,xk,st,p,nums,xs,np,rp,qs,rfl,hH,g,hnp,hrp,hqs,hA,z,k⟩
  ·have z : ¬ p < 7:=fun q=>z (decide_eq_true q)
   exact ⟨_,rfl,_,rfl,_,rfl,_,rfl,a,dx,pn,mp,bp,xp,mk,bk,xk,st,p,nums,xs,np,rp,qs,rfl,hH,g,hnp,hrp,hqs,hA,z,k⟩
abbrev s_answers : Stmt:=top 85
theorem step_len {s : State} (g : Good s) (c : Vbchai.Call) : (Vbchai.step s c).2.length ≤ 2000:=by
 have hf : ∀ k : Int,Vbchai.isDefaults k = true → ∀ s,(Vbchai.needTold (Vbchai.fund s k.toNat)).length ≤ 10:=fun k hk s=>fund_len s (defaults hk).2
 have nd : ∀ {k : Int},¬ Vbchai.isDefaults k = false → Vbchai.isDefaults k = true:=fun {k} h=>by cases e : Vbchai.isDefaults k <;> simp_all
 cases c with
 | uncovered l =>
  simp only [Vbchai.step]
  split
  ·show 1 ≤ 2000; decide
  ·show (Vbchai.whereTold _ _).length + 1 ≤ 2000
   rw [where_len]; decide
 | fund k =>
  simp only [Vbchai.step]
  split
  ·show 1 ≤ 2000; decide
  ·rename_i h; have:=hf k (nd h) s; show (Vbchai.needTold _).length ≤ 2000; omega
 | without k x =>
  simp only [Vbchai.step]
  split
  ·show 1 ≤ 2000; decide
  ·rename_i h
   split
   ·show 1 ≤ 2000; decide
   ·have:=hf k (nd h) { s with members:=s.members.filter fun m=>(m.who : Int) != x }; show (Vbchai.needTold _).length ≤ 2000; omega
 | ifTrade k x y t =>
  simp only [Vbchai.step]
  split
  ·show 1 ≤ 2000; decide
  ·rename_i h
   split
   ·show 1 ≤ 2000; decide
   ·rename_i q _; have:=hf k (nd h) q; show (Vbchai.needTold _).length ≤ 2000; omega
 | enough k f =>
  simp only [Vbchai.step]
  split
  ·show 1 ≤ 2000; decide
  ·rename_i h
   split
   ·show 1 ≤ 2000; decide
   ·show (if (Vbchai.fund s k.toNat).amount ≤ f then [1] else 0 :: Vbchai.needTold (Vbchai.fund s k.toNat)).length ≤ 2000
    split
    ·show 1 ≤ 2000; decide
    ·have:=hf k (nd h) s; show (Vbchai.needTold _).length + 1 ≤ 2000; omega
 | members =>
  show (memRow s.members).length + 1 ≤ 2000
  have:=memRow_len s.members
  have:=g.len
  omega
 | text x =>
  simp only [Vbchai.step]
  split
  ·show 1 ≤ 2000; decide
  ·rename_i m h
   have mok:=g.mem m (mem_of h).1
   have:=write_len mok.legs
   have:=mok.len
   show (Vbchai.ints (Vbchai.write m.book)).length + 1 ≤ 2000
   unfold Vbchai.ints
   rw [List.length_map]
   omega
 | now p=>simp only [Vbchai.step]; split <;> (show 1 ≤ 2000; decide)
 | member a b t =>
  simp only [Vbchai.step]
  repeat' split
  all_goals (show 1 ≤ 2000; decide)
 | leave a=>simp only [Vbchai.step]; split <;> (show 1 ≤ 2000; decide)
 | margin a b =>
  simp only [Vbchai.step]
  repeat' split
  all_goals (show 1 ≤ 2000; decide)
 | trade a b t=>simp only [Vbchai.step]; split <;> (show 1 ≤ 2000; decide)
 | box k x =>
  simp only [Vbchai.step]
  repeat' split
  all_goals (show 1 ≤ 2000; decide)
 | unbox k=>simp only [Vbchai.step]; split <;> (show 1 ≤ 2000; decide)
 | loss l p =>
  simp only [Vbchai.step]
  repeat' split
  all_goals first | (show 1 ≤ 2000; decide) | (show 2 ≤ 2000; decide)
 | apart k=>simp only [Vbchai.step]; split <;> (show 1 ≤ 2000; decide)
theorem nstep_len {s : State} (g : Good s) (c : List (List Int)) : (VbchaiNeutral.step s c).2.length ≤ 2000:=by
 unfold VbchaiNeutral.step
 split
 ·exact step_len g _
 ·exact Nat.zero_le _
def spAns (K : PySem.W.Frag) : Sp:=fun vs H Q _=>∃ (cl : Addr) (l : List Int),vs = [.ref cl] ∧ SqL K H cl (intsV l) ∧ l.length ≤ 17000 ∧ PyVbchai.answers_asked l = true ∧ ∀ (H' : Hp) (p : Addr),H' p = some (.lst (intsV (PyVbchai.answers l))) → Q (.ref p) H'
theorem sc_answers : FnScope ["calls","house","told","call","numbers","rows","row"] ["calls"] (defScope s_answers):=scm
def soFar (cs : List (List (List Int))) : List Int:=PyFlat.told (PyFlat.played VbchaiNeutral.step Vbchai.start cs)
theorem soFar_snoc (cs : List (List (List Int))) (c : List (List Int)) : soFar (cs ++ [c]) = soFar cs ++ ((((VbchaiNeutral.step (after Vbchai.start cs) c).2.length : Int)) :: (VbchaiNeutral.step (after Vbchai.start cs) c).2):=by
 unfold soFar
 rw [played_snoc,told_snoc]
theorem ok_answers {f : Addr} {fd : FuncData} (F : Fun K "answers" "answers" s_answers f fd) (T : Txt K mg D) (cH : CalC P w K mg base 1 D.hou "House" ["self"] (spHInit D)) (cC : Cal P w K mg base CX0 1 "cut_calls" ["calls"] (spCut K)) (cA : Cal P w K mg base CX0 11 "answer" ["house","call","numbers","rows"] (spAnswer D)) :
  FnOk P w K mg base CX0 12 f fd ["calls"] (spAns K):=by
 refine F.ok sc_answers (fun vs H Q E h=>?_) (fun cdv A outer s H vs Q E hr h=>?_)
 ·obtain ⟨cl,l,rfl,_⟩:=h
  rfl
 ·obtain ⟨cl,l,rfl,hcl,hlen,hask,k⟩:=h
  obtain ⟨cs,rfl,hok,hans,h400,hasked⟩:=calls_ok hask
  rw [hans] at k
  refine ⟨_,pss_cons (ps_set (i:=1) sc_answers.nd rfl (Or.inl rfl) (pe_calC0 cH (hr.mono (by decide)) rfl)) (pss_cons (ps_set (i:=2) sc_answers.nd rfl (Or.inl rfl) (pe_lst (pa_nil))) (pss_cons (ps_for PassesOwn.never rfl (pi_list (pe_cal cC (hr.mono (by decide)) rfl pass0 (pa_cons (pv 0) (pa_nil)))) (pg_tup rfl (pgs_cons (pg_name (i:=3) sc_answers.nd rfl (Or.inl rfl)) (pgs_cons (pg_name (i:=4) sc_answers.nd rfl (Or.inl rfl)) (pgs_cons (pg_name (i:=5) sc_answers.nd rfl (Or.inl rfl)) pgs_nil)))) (pss_cons (ps_set (i:=6) sc_answers.nd rfl (Or.inl rfl) (pe_cal cA hr rfl pass0 (pa_cons (pv 1) (pa_cons (pv 3) (pa_cons (pv 4) (pa_cons (pv 5) (pa_nil))))))) (pss_cons (ps_expr (pe_bm PySem.F.plainAttrs_list PySem.F.slot_list_append PySem.F.type_list_append mt_append (pv 2) (pa_cons (pe_callB call_len_seq (by rfl) T.bLen PySem.boot_len (pa_cons (pv 6) (pa_nil))) (pa_nil)))) (pss_one (ps_expr (pe_bm PySem.F.plainAttrs_list PySem.F.slot_list_extend PySem.F.type_list_extend mt_extend (pv 2) (pa_cons (pv 6) (pa_nil)))))))) (pss_one (ps_ret (pv 2))))),?_⟩
  refine fun a d n1 n2 n3=>⟨a,d,rfl,upd_same,fun H1 hnew e2=>⟨rfl,?_⟩⟩
  obtain ⟨dx,pn0,mp,bp,xp,mk0,bk0,xk0,hH1,_,_,_⟩:=hnew
  have s1 : Same H H1:=Same.made n1 n2 e2
  refine ⟨Nat.zero_le _,fun tp htp=>?_⟩
  have s2 : Same H1 (upd H1 tp (.lst [])):=Same.new htp
  have hH2:=hH1.same s2
  have htp2 : (upd H1 tp (.lst [])) tp = some (.lst []):=upd_same
  generalize upd H1 tp (.lst []) = H2 at s2 hH2 htp2
  refine ⟨_,rfl,cl,cs,rfl,(s1.trans s2).seq hcl,hok,hlen,h400,fun H3 cp ts hcp fcp hts s3=>?_⟩
  have hH3:=hH2.same s3
  have htp3:=s3 _ _ htp2
  have fra : ∀ x,H2 x = none → x ≠ a ∧ x ≠ mp ∧ x ≠ bp ∧ x ≠ xp ∧ x ≠ tp:=fun x hx =>
   ⟨(ne_of_none hH2.obj hx).symm,(ne_of_none hH2.mar hx).symm,(ne_of_none hH2.bok hx).symm,(ne_of_none hH2.box hx).symm,(ne_of_none htp2 hx).symm⟩
  refine ⟨cp,rfl,⟨_,sqL_of hcp⟩,for_list (K:=K) (a:=cp) (xs:=ts.map V.ref) (fun i σ H'=>∃ (pn : Addr) (mk bk xk : List (Key × V)) (v3 v4 v5 v6 : Option V),σ = [some (.ref cl),some (.ref a),some (.ref tp),v3,v4,v5,v6] ∧ HouseAt D H' a dx pn mp bp xp mk bk xk (after Vbchai.start (cs.take i)) ∧ Good (after Vbchai.start (cs.take i)) ∧
    H' tp = some (.lst (intsV (soFar (cs.take i)))) ∧ (soFar (cs.take i)).length ≤ 2001 * i ∧ HN (fun x=>x ≠ tp) pn bk xk ∧ ∀ b o,H3 b = some o → b ≠ a → b ≠ mp → b ≠ bp → b ≠ xp → b ≠ tp → H' b = some o)
   ⟨pn0,mk0,bk0,xk0,none,none,none,none,rfl,hH3,start_good,htp3,Nat.le_refl _,⟨ne_of_none hH1.now htp,fun kv hk=>absurd hk (DRel.empty hH1.rb kv),fun kv hk=>absurd hk (DRel.empty hH1.rx kv)⟩,fun b o e _ _ _ _ _=>e⟩
   (fun i σ H' _ ⟨_,_,_,_,_,_,_,_,_,_,_,_,_,_,h⟩=>sqL_of (let ⟨f1,f2,f3,f4,f5⟩:=fra cp fcp; h _ _ hcp f1 f2 f3 f4 f5)) ?_ ?_⟩
  ·rintro i y σ H4 hi ⟨pn,mk,bk,xk,v3,v4,v5,v6,rfl,hH4,g,htp4,hll,hn,kept⟩
   obtain ⟨t,ht,rfl⟩:=refs_at hi
   obtain ⟨c,hc,hcall⟩:=hts.get ht
   have htup : ∀ b ys,H3 b = some (.tup ys) → H4 b = some (.tup ys):=fun b ys e=>kept b _ e (ne_of e hH3.obj (by intro z; cases z)) (ne_of e hH3.mar (by intro z; cases z)) (ne_of e hH3.bok (by intro z; cases z)) (ne_of e hH3.box (by intro z; cases z)) (ne_of e htp3 (by intro z; cases z))
   have hcall4:=hcall.keep htup fun b ys n e=>let ⟨f1,f2,f3,f4,f5⟩:=fra b n; kept b _ e f1 f2 f3 f4 f5
   obtain ⟨p,nums,xs,np,rp,qs,rfl,h1,h2,h3,h4,h5,h6⟩:=hcall4
   have hA:=asked_of (shaped_of (hok _ (List.mem_of_getElem? hc))) (hasked _ (List.mem_of_getElem? hc))
   refine ⟨t,_,rfl,.inl (.inl h1),rfl,_,_,rfl,_,_,rfl,_,_,rfl,rfl,?_⟩
   refine ⟨_,rfl,_,rfl,_,rfl,_,rfl,a,dx,pn,mp,bp,xp,mk,bk,xk,_,p,nums,xs,np,rp,qs,rfl,hH4,g,h3,h5,h6.imp (fun _ _ e=>e.2),hA,?_⟩
   intro H5 pn5 mk5 bk5 xk5 q hH5 g5 hq0 hq sh hN5
   have ta : tp ≠ a:=ne_of htp4 hH4.obj (by intro z; cases z)
   have tm : tp ≠ mp:=ne_of htp4 hH4.mar (by intro z; cases z)
   have tb : tp ≠ bp:=ne_of htp4 hH4.bok (by intro z; cases z)
   have tx : tp ≠ xp:=ne_of htp4 hH4.box (by intro z; cases z)
   have htp5:=sh _ _ htp4 ta tm tb tx
   have nq : q ≠ tp:=(ne_of_none htp4 hq0).symm
   have hi4 : i < cs.length:=(List.getElem?_eq_some_iff.mp hc).1
   have hsl:=nstep_len g ((p :: nums) :: xs)
   have hlen4 : (soFar (cs.take i)).length ≤ 900000:=by omega
   refine ⟨_,rfl,.inl ⟨rfl,_,sqL_of htp5⟩,_,rfl,q,_,rfl,.inl (sqL_of hq),tp,_,_,rfl,rfl,htp5,(by rw [intsV_len,sizeLine_eq]; omega),?_⟩
   rw [intsV_len]
   have hq6 : (upd H5 tp (.lst (intsV (soFar (cs.take i)) ++ [V.int ((VbchaiNeutral.step (after Vbchai.start (cs.take i)) ((p :: nums) :: xs)).2.length : Nat)]))) q = some (.lst (intsV (VbchaiNeutral.step (after Vbchai.start (cs.take i)) ((p :: nums) :: xs)).2)):=by rw [upd_ne nq]; exact hq
   refine ⟨_,rfl,.inl ⟨rfl,_,sqL_of upd_same⟩,_,rfl,tp,q,_,_,rfl,rfl,upd_same,hq6,(by rw [List.length_append,intsV_len,intsV_len,sizeLine_eq]; show _ + 1 + _ ≤ _; omega),?_⟩
   have hn5:=hN5 (fun x=>x ≠ tp) (fun x hx z=>by rw [z,htp4] at hx; cases hx) (fun x hx=>by
    obtain ⟨j,hj⟩:=List.getElem?_of_mem hx
    obtain ⟨y,_,hy⟩:=h6.get hj
    exact (fra x hy.1).2.2.2.2) hn
   have bu : SameBut tp H5 (upd (upd H5 tp (.lst (intsV (soFar (cs.take i)) ++ [V.int ((VbchaiNeutral.step (after Vbchai.start (cs.take i)) ((p :: nums) :: xs)).2.length : Nat)]))) tp (.lst (intsV (soFar (cs.take i)) ++ [V.int ((VbchaiNeutral.step (after Vbchai.start (cs.take i)) ((p :: nums) :: xs)).2.length : Nat)] ++ intsV (VbchaiNeutral.step (after Vbchai.start (cs.take i)) ((p :: nums) :: xs)).2))):=fun b o e n=>by rw [upd_ne n,upd_ne n]; exact e
   refine ⟨pn5,mk5,bk5,xk5,some (.int p),some (.ref np),some (.ref rp),some (.ref q),rfl,?_,?_,?_,?_,hn5,fun b o e m1 m2 m3 m4 m5=>bu b o (sh b o (kept b o e m1 m2 m3 m4 m5) m1 m2 m3 m4) m5⟩
   ·rw [take_snoc hc,after_snoc]
    exact hH5.but hn5 bu htp5
   ·rw [take_snoc hc,after_snoc]
    exact g5
   ·rw [upd_same,take_snoc hc,soFar_snoc]
    unfold intsV
    rw [List.map_append,List.map_cons,List.append_assoc]
    rfl
   ·rw [take_snoc hc,soFar_snoc,List.length_append,List.length_cons]
    omega
  ·rintro σ H4 ⟨pn,mk,bk,xk,v3,v4,v5,v6,rfl,hH4,g,htp4,hll,hn,kept⟩
   rw [List.length_map,hts.length,List.take_length] at htp4
   exact ⟨_,rfl,k H4 tp htp4⟩
end
end VD
set_option maxRecDepth 100000
set_option maxHeartbeats 2000000
namespace VD
open PySem PySem.Spec PyProof.Rows L2 VM VX XL
theorem rel_abs {x : V} {u : Value} (e : absV u = some x) : RelV x u:=by
 cases u <;> first | (cases e; done) | (have e:=Option.some.inj e; subst e; first | rfl | exact ⟨_,rfl⟩)
theorem vals_abs : ∀ {us : List Value} {xs : List V},us.map absV = xs.map some → Vals xs us
 | [],[],_=>.nil
 | u :: us,x :: xs,e=>.cons (rel_abs (List.cons.inj e).1) (vals_abs (List.cons.inj e).2)
section
variable {K : PySem.W.Frag} {h : Heap} {mg : Str → Option Value} {x m q : Str} {st : Stmt} {C f : Addr} {oc kV dc pm cd ct : Value} {od an : Option Addr} {sl : Array (Option Value)}
theorem fg (X : K.In h) (G : h.Ns mainGlobals mg) (a : PySem.W.nsIn K mainGlobals x = some (some (.ref f)):=by k_is) (l : K.lookup f = some ⟨oc,od,.func (PySem.W.fnOf x x (defArgs st) (defBody st) (defScope st) .none kV dc pm an cd ct),sl⟩:=by k_is) (c : PySem.W.codeIn K cd x = true:=by k_is) (k : PySem.W.keepIn K (.ref f) = true:=by k_is) : FunG K mg x st:=⟨f,_,fun_mk l c k,PySem.W.mg_of X G a⟩
theorem fm (X : K.In h) (aC : PySem.W.nsIn K mainGlobals x = some (some (.ref C)):=by k_is) (a : PySem.W.findIn K (.ref C) m = some (some (.ref f)):=by k_is) (i : PySem.W.isFn K (.ref f) = true:=by k_is) (l : K.lookup f = some ⟨oc,od,.func (PySem.W.fnOf m q (defArgs st) (defBody st) (defScope st) .none kV dc pm an cd ct),sl⟩:=by k_is) (c : PySem.W.codeIn K cd q = true:=by k_is) (k : PySem.W.keepIn K (.ref f) = true:=by k_is) : FunM K C m q st:=⟨f,_,fun_mk l c k,⟨a,i,k⟩⟩
theorem fw (X : K.In h) (aC : PySem.W.nsIn K mainGlobals x = some (some (.ref C)):=by k_is) (a : PySem.W.findIn K (.ref C) m = some (some (.ref f)):=by k_is) (l : K.lookup f = some ⟨oc,od,.func (PySem.W.fnOf m q (defArgs st) (defBody st) (defScope st) .none kV dc pm an cd ct),sl⟩:=by k_is) (c : PySem.W.codeIn K cd q = true:=by k_is) (k : PySem.W.keepIn K (.ref f) = true:=by k_is) : ∃ fd,Fun K m q st f fd:=⟨_,fun_mk l c k⟩
theorem fi (X : K.In h) (G : h.Ns mainGlobals mg) (aC : PySem.W.nsIn K mainGlobals x = some (some (.ref C)):=by k_is) (mk : PySem.W.makesIn K C = true:=by k_is) (a : PySem.W.findIn K (.ref C) "__init__" = some (some (.ref f)):=by k_is) (i : PySem.W.isFn K (.ref f) = true:=by k_is) (l : K.lookup f = some ⟨oc,od,.func (PySem.W.fnOf "__init__" q (defArgs st) (defBody st) (defScope st) .none kV dc pm an cd ct),sl⟩:=by k_is) (c : PySem.W.codeIn K cd q = true:=by k_is) (k : PySem.W.keepIn K (.ref f) = true:=by k_is) (kc : PySem.W.keepIn K (.ref C) = true:=by k_is) : FunI K mg C x q st:=⟨f,_,fun_mk l c k,⟨mk,a,i,kc⟩,PySem.W.mg_of X G aC⟩
theorem gvi {z : Int} {t : Tok} (X : K.In h) (G : h.Ns mainGlobals mg) (a : PySem.W.nsIn K mainGlobals x = some (some (.int z t))) : GV mg x (.int z):=⟨_,PySem.W.mg_of X G a,t,rfl⟩
theorem tup_of {a : Addr} {its : Array Value} {n : Nat} {xs : List V} (l : K.lookup a = some ⟨.type "tuple",od,.seq its n,sl⟩) (e : its.toList.map absV = xs.map some) (hn : xs.length ≤ 100000) : ∀ H,SqT K H a xs:=fun H=>by
 have e2:=congrArg List.length e
 rw [List.length_map,List.length_map,Array.length_toList] at e2
 exact .inr ⟨_,its,n,l,rfl,rfl,by rw [e2,sizeLine_eq]; omega,vals_abs e⟩
theorem nsAt_of {N : Addr} {r : Option Value} (e : PySem.W.nsIn K N x = some r) : nsAt K N x = r:=by
 unfold PySem.W.nsIn at e
 unfold nsAt
 split at e
 ·rename_i c d es n sl q
  rw [q]
  show nsFind es x = r
  unfold nsFind findBy
  rw [← Array.find?_toList]
  split at e
  ·rename_i en he
   rw [he]
   exact Option.some.inj e
  ·rename_i he
   rw [he]
   split at e
   ·cases e
   ·exact Option.some.inj e
 ·cases e
end
theorem txt_mk {K : PySem.W.Frag} {h : Heap} {mg : Str → Option Value} (X : K.In h) (G : h.Ns mainGlobals mg) {leg rdr hou cur sta wrg wns win : Addr} {nm qn : Str} {bs : List Value} {sn : List Str} {sub : List Value} {ab : Bool} {col : Option Bool} {dd : Option Addr} {k0 k1 k2 k3 k5 : Option Value} {c1 : Value} {x2 : Data} {es : Array DictEntry}
  {z zf f0 f1 f2 f3 f4 f5 f6 f7 f8 f9 f10 f11 f12 f13 f14 f15 : Addr} {d1 d2 dz df df0 df1 df2 df3 df4 df5 df6 df7 df8 df9 df10 df11 df12 df13 df14 df15 : Option Addr} {s1 s2 sz sf sf0 sf1 sf2 sf3 sf4 sf5 sf6 sf7 sf8 sf9 sf10 sf11 sf12 sf13 sf14 sf15 : Array (Option Value)} {iz ifs if0 if1 if2 if3 if4 if5 if6 if7 if8 if9 if10 if11 if12 if13 if14 if15 : Array Value} {n1 nz nf nf0 nf1 nf2 nf3 nf4 nf5 nf6 nf7 nf8 nf9 nf10 nf11 nf12 nf13 nf14 nf15 : Nat} {t_MOST_PRICE t_CASH t_CALL t_FORWARD t_PUT t_BLANK t_PLUS t_MINUS t_ZERO t_ONE t_FOUR t_NINE t_AT t_NO_BYTE t_MOST_CASH t_MOST_CONTRACTS t_MOST_MEMBERS t_MOST_MARGIN t_MOST_LEGS t_MOST_KEY t_MOST_BOXES t_MOST_DEFAULTS t_MOST_FUND t_FIRST_QUESTION : Tok}
  (a_leg : PySem.W.nsIn K mainGlobals "Leg" = some (some (.ref leg)))
  (pg_leg : PySem.W.plainGet K leg Str.empty = true) (hd_leg : PySem.W.hasDictIn K leg = true) (po_leg : PySem.W.plainOver K leg = true) (sa_leg : PySem.W.findIn K (.ref leg) "__setattr__" = some (some (.builtin "object.__setattr__")))
  (n_leg_kind : PySem.W.findIn K (.ref leg) "kind" = some none)
  (n_leg_quantity : PySem.W.findIn K (.ref leg) "quantity" = some none)
  (n_leg_underlying : PySem.W.findIn K (.ref leg) "underlying" = some none)
  (n_leg_strike : PySem.W.findIn K (.ref leg) "strike" = some none)
  (a_rdr : PySem.W.nsIn K mainGlobals "Reader" = some (some (.ref rdr)))
  (pg_rdr : PySem.W.plainGet K rdr Str.empty = true) (hd_rdr : PySem.W.hasDictIn K rdr = true) (po_rdr : PySem.W.plainOver K rdr = true) (sa_rdr : PySem.W.findIn K (.ref rdr) "__setattr__" = some (some (.builtin "object.__setattr__")))
  (n_rdr_given : PySem.W.findIn K (.ref rdr) "given" = some none)
  (n_rdr_place : PySem.W.findIn K (.ref rdr) "place" = some none)
  (a_hou : PySem.W.nsIn K mainGlobals "House" = some (some (.ref hou)))
  (pg_hou : PySem.W.plainGet K hou Str.empty = true) (hd_hou : PySem.W.hasDictIn K hou = true) (po_hou : PySem.W.plainOver K hou = true) (sa_hou : PySem.W.findIn K (.ref hou) "__setattr__" = some (some (.builtin "object.__setattr__")))
  (n_hou_prices_now : PySem.W.findIn K (.ref hou) "prices_now" = some none)
  (n_hou_margins : PySem.W.findIn K (.ref hou) "margins" = some none)
  (n_hou_books : PySem.W.findIn K (.ref hou) "books" = some none)
  (n_hou_boxes : PySem.W.findIn K (.ref hou) "boxes" = some none)
  (a_cur : PySem.W.nsIn K mainGlobals "Curve" = some (some (.ref cur)))
  (pg_cur : PySem.W.plainGet K cur Str.empty = true) (hd_cur : PySem.W.hasDictIn K cur = true) (po_cur : PySem.W.plainOver K cur = true) (sa_cur : PySem.W.findIn K (.ref cur) "__setattr__" = some (some (.builtin "object.__setattr__")))
  (n_cur_slope : PySem.W.findIn K (.ref cur) "slope" = some none)
  (n_cur_bends : PySem.W.findIn K (.ref cur) "bends" = some none)
  (a_sta : PySem.W.nsIn K mainGlobals "Stand" = some (some (.ref sta)))
  (pg_sta : PySem.W.plainGet K sta Str.empty = true) (hd_sta : PySem.W.hasDictIn K sta = true) (po_sta : PySem.W.plainOver K sta = true) (sa_sta : PySem.W.findIn K (.ref sta) "__setattr__" = some (some (.builtin "object.__setattr__")))
  (n_sta_loss_at_zeros : PySem.W.findIn K (.ref sta) "loss_at_zeros" = some none)
  (n_sta_curves : PySem.W.findIn K (.ref sta) "curves" = some none)
  (a_W : PySem.W.nsIn K mainGlobals "WrongText" = some (some (.ref wrg))) (o_W : K.lookup wrg = some (excClassObj nm qn wrg wns bs bmX true sn sub ab col dd k0 k1 k2 k3 k5 "Exception.__new__")) (l_W : K.lookup wns = some ⟨c1,d1,.dict es n1,s1⟩) (g_W : (es.toList.all fun e=>match e.key with | .str _ _=>true | _=>false) = true) (i_W : PySem.W.nsIn K wns "__init__" = some (some (.ref win))) (sa_W : PySem.W.nsIn K wns "__setattr__" = some none) (ga_W : PySem.W.nsIn K wns "__getattribute__" = some none) (gt_W : PySem.W.nsIn K wns "__getattr__" = some none) (f_W : K.lookup win = some ⟨.type "function",d2,x2,s2⟩) (k_W : PySem.W.keepIn K (.ref wrg) = true) (p_W : PySem.W.nsIn K wns "place" = some none)
  (xl : PySem.W.findCls K (.type "Exception") (.type "type") "__init__" = some (.val (.builtin "Exception.__init__")))
  (b_Exception : PySem.W.nsIn K mainGlobals "Exception" = some none)
  (b_len : PySem.W.nsIn K mainGlobals "len" = some none)
  (b_sum : PySem.W.nsIn K mainGlobals "sum" = some none)
  (b_max : PySem.W.nsIn K mainGlobals "max" = some none)
  (b_abs : PySem.W.nsIn K mainGlobals "abs" = some none)
  (b_str : PySem.W.nsIn K mainGlobals "str" = some none)
  (b_ord : PySem.W.nsIn K mainGlobals "ord" = some none)
  (b_sorted : PySem.W.nsIn K mainGlobals "sorted" = some none)
  (b_all : PySem.W.nsIn K mainGlobals "all" = some none)
  (b_range : PySem.W.nsIn K mainGlobals "range" = some none)
  (b_enumerate : PySem.W.nsIn K mainGlobals "enumerate" = some none)
  (b_list : PySem.W.nsIn K mainGlobals "list" = some none)
  (b_dict : PySem.W.nsIn K mainGlobals "dict" = some none)
  (c_MOST_PRICE : PySem.W.nsIn K mainGlobals "MOST_PRICE" = some (some (.int 1000000 t_MOST_PRICE)))
  (c_CASH : PySem.W.nsIn K mainGlobals "CASH" = some (some (.int 0 t_CASH)))
  (c_CALL : PySem.W.nsIn K mainGlobals "CALL" = some (some (.int 67 t_CALL)))
  (c_FORWARD : PySem.W.nsIn K mainGlobals "FORWARD" = some (some (.int 70 t_FORWARD)))
  (c_PUT : PySem.W.nsIn K mainGlobals "PUT" = some (some (.int 80 t_PUT)))
  (c_BLANK : PySem.W.nsIn K mainGlobals "BLANK" = some (some (.int 32 t_BLANK)))
  (c_PLUS : PySem.W.nsIn K mainGlobals "PLUS" = some (some (.int 43 t_PLUS)))
  (c_MINUS : PySem.W.nsIn K mainGlobals "MINUS" = some (some (.int 45 t_MINUS)))
  (c_ZERO : PySem.W.nsIn K mainGlobals "ZERO" = some (some (.int 48 t_ZERO)))
  (c_ONE : PySem.W.nsIn K mainGlobals "ONE" = some (some (.int 49 t_ONE)))
  (c_FOUR : PySem.W.nsIn K mainGlobals "FOUR" = some (some (.int 52 t_FOUR)))
  (c_NINE : PySem.W.nsIn K mainGlobals "NINE" = some (some (.int 57 t_NINE)))
  (c_AT : PySem.W.nsIn K mainGlobals "AT" = some (some (.int 64 t_AT)))
  (c_NO_BYTE : PySem.W.nsIn K mainGlobals "NO_BYTE" = some (some (.int 256 t_NO_BYTE)))
  (c_MOST_CASH : PySem.W.nsIn K mainGlobals "MOST_CASH" = some (some (.int 1000000000000000 t_MOST_CASH)))
  (c_MOST_CONTRACTS : PySem.W.nsIn K mainGlobals "MOST_CONTRACTS" = some (some (.int 1000000000 t_MOST_CONTRACTS)))
  (c_MOST_MEMBERS : PySem.W.nsIn K mainGlobals "MOST_MEMBERS" = some (some (.int 8 t_MOST_MEMBERS)))
  (c_MOST_MARGIN : PySem.W.nsIn K mainGlobals "MOST_MARGIN" = some (some (.int 1000000000000000 t_MOST_MARGIN)))
  (c_MOST_LEGS : PySem.W.nsIn K mainGlobals "MOST_LEGS" = some (some (.int 24 t_MOST_LEGS)))
  (c_MOST_KEY : PySem.W.nsIn K mainGlobals "MOST_KEY" = some (some (.int 1000000000 t_MOST_KEY)))
  (c_MOST_BOXES : PySem.W.nsIn K mainGlobals "MOST_BOXES" = some (some (.int 6 t_MOST_BOXES)))
  (c_MOST_DEFAULTS : PySem.W.nsIn K mainGlobals "MOST_DEFAULTS" = some (some (.int 3 t_MOST_DEFAULTS)))
  (c_MOST_FUND : PySem.W.nsIn K mainGlobals "MOST_FUND" = some (some (.int 1000000000000000 t_MOST_FUND)))
  (c_FIRST_QUESTION : PySem.W.nsIn K mainGlobals "FIRST_QUESTION" = some (some (.int 7 t_FIRST_QUESTION)))
  (a_Z : PySem.W.nsIn K mainGlobals "ZERO_PRICES" = some (some (.ref z))) (l_Z : K.lookup z = some ⟨.type "tuple",dz,.seq iz nz,sz⟩) (e_Z : iz.toList.map absV = [V.int 0,.int 0,.int 0,.int 0].map some)
  (a_F : PySem.W.nsIn K mainGlobals "FORMS" = some (some (.ref zf))) (l_F : K.lookup zf = some ⟨.type "tuple",df,.seq ifs nf,sf⟩) (e_F : ifs.toList.map absV = ([f0,f1,f2,f3,f4,f5,f6,f7,f8,f9,f10,f11,f12,f13,f14,f15].map V.ref).map some)
  (l_F0 : K.lookup f0 = some ⟨.type "tuple",df0,.seq if0 nf0,sf0⟩) (e_F0 : if0.toList.map absV = [V.int 0,V.int 1].map some)
  (l_F1 : K.lookup f1 = some ⟨.type "tuple",df1,.seq if1 nf1,sf1⟩) (e_F1 : if1.toList.map absV = [V.int 2,V.int 1].map some)
  (l_F2 : K.lookup f2 = some ⟨.type "tuple",df2,.seq if2 nf2,sf2⟩) (e_F2 : if2.toList.map absV = [V.int 1,V.int 0].map some)
  (l_F3 : K.lookup f3 = some ⟨.type "tuple",df3,.seq if3 nf3,sf3⟩) (e_F3 : if3.toList.map absV = [V.int 2,V.int 0].map some)
  (l_F4 : K.lookup f4 = some ⟨.type "tuple",df4,.seq if4 nf4,sf4⟩) (e_F4 : if4.toList.map absV = [V.int 2,V.int 1].map some)
  (l_F5 : K.lookup f5 = some ⟨.type "tuple",df5,.seq if5 nf5,sf5⟩) (e_F5 : if5.toList.map absV = [V.int 1,V.int 1].map some)
  (l_F6 : K.lookup f6 = some ⟨.type "tuple",df6,.seq if6 nf6,sf6⟩) (e_F6 : if6.toList.map absV = [V.int 1,V.int 0].map some)
  (l_F7 : K.lookup f7 = some ⟨.type "tuple",df7,.seq if7 nf7,sf7⟩) (e_F7 : if7.toList.map absV = [V.int 0,V.int 1].map some)
  (l_F8 : K.lookup f8 = some ⟨.type "tuple",df8,.seq if8 nf8,sf8⟩) (e_F8 : if8.toList.map absV = [V.int 1,V.int 0].map some)
  (l_F9 : K.lookup f9 = some ⟨.type "tuple",df9,.seq if9 nf9,sf9⟩) (e_F9 : if9.toList.map absV = [V.int 2,V.int 0].map some)
  (l_F10 : K.lookup f10 = some ⟨.type "tuple",df10,.seq if10 nf10,sf10⟩) (e_F10 : if10.toList.map absV = [V.int 3,V.int 1].map some)
  (l_F11 : K.lookup f11 = some ⟨.type "tuple",df11,.seq if11 nf11,sf11⟩) (e_F11 : if11.toList.map absV = [V.int 2,V.int 0].map some)
  (l_F12 : K.lookup f12 = some ⟨.type "tuple",df12,.seq if12 nf12,sf12⟩) (e_F12 : if12.toList.map absV = [V.int 0,V.int 2].map some)
  (l_F13 : K.lookup f13 = some ⟨.type "tuple",df13,.seq if13 nf13,sf13⟩) (e_F13 : if13.toList.map absV = [V.int 1,V.int 0].map some)
  (l_F14 : K.lookup f14 = some ⟨.type "tuple",df14,.seq if14 nf14,sf14⟩) (e_F14 : if14.toList.map absV = [V.int 0,V.int 0].map some)
  (l_F15 : K.lookup f15 = some ⟨.type "tuple",df15,.seq if15 nf15,sf15⟩) (e_F15 : if15.toList.map absV = [V.int 1,V.int 0].map some) :
  Txt K mg ⟨leg,rdr,hou,cur,sta,wrg,wns,win⟩:=⟨⟨pg_leg,hd_leg,po_leg,sa_leg⟩,n_leg_kind,n_leg_quantity,n_leg_underlying,n_leg_strike,⟨pg_rdr,hd_rdr,po_rdr,sa_rdr⟩,n_rdr_given,n_rdr_place,⟨pg_hou,hd_hou,po_hou,sa_hou⟩,n_hou_prices_now,n_hou_margins,n_hou_books,n_hou_boxes,⟨pg_cur,hd_cur,po_cur,sa_cur⟩,n_cur_slope,n_cur_bends,⟨pg_sta,hd_sta,po_sta,sa_sta⟩,n_sta_loss_at_zeros,n_sta_curves,⟨⟨nm,qn,bs,sn,sub,ab,col,dd,k0,k1,k2,k3,k5,o_W⟩,by unfold nsGood; rw [l_W]; exact g_W,nsAt_of i_W,nsAt_of sa_W,nsAt_of ga_W,nsAt_of gt_W,⟨_,f_W,rfl⟩,k_W⟩,⟨nsAt_of p_W,am_miss_of_fast (by decide +kernel)⟩,PySem.W.mg_of X G a_W,xl,PySem.W.mg_none_of X G b_Exception,PySem.W.mg_none_of X G b_len,PySem.W.mg_none_of X G b_sum,PySem.W.mg_none_of X G b_max,PySem.W.mg_none_of X G b_abs,PySem.W.mg_none_of X G b_str,PySem.W.mg_none_of X G b_ord,PySem.W.mg_none_of X G b_sorted,PySem.W.mg_none_of X G b_all,PySem.W.mg_none_of X G b_range,PySem.W.mg_none_of X G b_enumerate,PySem.W.mg_none_of X G b_list,PySem.W.mg_none_of X G b_dict,gvi X G c_MOST_PRICE,gvi X G c_CASH,gvi X G c_CALL,gvi X G c_FORWARD,gvi X G c_PUT,gvi X G c_BLANK,gvi X G c_PLUS,gvi X G c_MINUS,gvi X G c_ZERO,gvi X G c_ONE,gvi X G c_FOUR,gvi X G c_NINE,gvi X G c_AT,gvi X G c_NO_BYTE,gvi X G c_MOST_CASH,gvi X G c_MOST_CONTRACTS,gvi X G c_MOST_MEMBERS,gvi X G c_MOST_MARGIN,gvi X G c_MOST_LEGS,gvi X G c_MOST_KEY,gvi X G c_MOST_BOXES,gvi X G c_MOST_DEFAULTS,gvi X G c_MOST_FUND,gvi X G c_FIRST_QUESTION,⟨z,PySem.W.mg_of X G a_Z,tup_of l_Z e_Z (by decide)⟩,⟨zf,[f0,f1,f2,f3,f4,f5,f6,f7,f8,f9,f10,f11,f12,f13,f14,f15],PySem.W.mg_of X G a_F,tup_of l_F e_F (by show 16 ≤ 100000; decide),fun H=>.cons (tup_of l_F0 e_F0 (by show 2 ≤ 100000; decide) H) (.cons (tup_of l_F1 e_F1 (by show 2 ≤ 100000; decide) H) (.cons (tup_of l_F2 e_F2 (by show 2 ≤ 100000; decide) H) (.cons (tup_of l_F3 e_F3 (by show 2 ≤ 100000; decide) H) (.cons (tup_of l_F4 e_F4 (by show 2 ≤ 100000; decide) H) (.cons (tup_of l_F5 e_F5 (by show 2 ≤ 100000; decide) H) (.cons (tup_of l_F6 e_F6 (by show 2 ≤ 100000; decide) H) (.cons (tup_of l_F7 e_F7 (by show 2 ≤ 100000; decide) H) (.cons (tup_of l_F8 e_F8 (by show 2 ≤ 100000; decide) H) (.cons (tup_of l_F9 e_F9 (by show 2 ≤ 100000; decide) H) (.cons (tup_of l_F10 e_F10 (by show 2 ≤ 100000; decide) H) (.cons (tup_of l_F11 e_F11 (by show 2 ≤ 100000; decide) H) (.cons (tup_of l_F12 e_F12 (by show 2 ≤ 100000; decide) H) (.cons (tup_of l_F13 e_F13 (by show 2 ≤ 100000; decide) H) (.cons (tup_of l_F14 e_F14 (by show 2 ≤ 100000; decide) H) (.cons (tup_of l_F15 e_F15 (by show 2 ≤ 100000; decide) H) (.nil))))))))))))))))⟩⟩
theorem fin {P : Program} {w : World} {K : PySem.W.Frag} {mg : Str → Option Value} {D : Ads} {fa : Addr} (hfa : mg "answers" = some (.ref fa)) (T : Txt K mg D)
  (F_Leg : FunI K mg D.leg "Leg" "Leg.__init__" s_Leg_init)
  (F_Reader : FunI K mg D.rdr "Reader" "Reader.__init__" s_Reader_init)
  (F_House : FunI K mg D.hou "House" "House.__init__" s_House_init)
  (F_Curve : FunI K mg D.cur "Curve" "Curve.__init__" s_Curve_init)
  (F_Stand : FunI K mg D.sta "Stand" "Stand.__init__" s_Stand_init)
  (F_WrongText : ∃ fd,Fun K "__init__" "WrongText.__init__" s_Wrong_init D.win fd)
  (F_byte_ahead : FunM K D.rdr "byte_ahead" "Reader.byte_ahead" s_byte_ahead)
  (F_take_between : FunM K D.rdr "take_between" "Reader.take_between" s_take_between)
  (F_take_byte : FunM K D.rdr "take_byte" "Reader.take_byte" s_take_byte)
  (F_take_number : FunM K D.rdr "take_number" "Reader.take_number" s_take_number)
  (F_take_strike : FunM K D.rdr "take_strike" "Reader.take_strike" s_take_strike)
  (F_take_leg : FunM K D.rdr "take_leg" "Reader.take_leg" s_take_leg)
  (F_take_first_sign : FunM K D.rdr "take_first_sign" "Reader.take_first_sign" s_first_sign)
  (F_take_joint : FunM K D.rdr "take_joint" "Reader.take_joint" s_take_joint)
  (F_opposite : FunG K mg "opposite" s_opposite)
  (F_worth_of_one : FunG K mg "worth_of_one" s_worth_of_one)
  (F_worth : FunG K mg "worth" s_worth)
  (F_read_book : FunG K mg "read_book" s_read_book)
  (F_digits_of : FunG K mg "digits_of" s_digits_of)
  (F_write_leg : FunG K mg "write_leg" s_write_leg)
  (F_write_book : FunG K mg "write_book" s_write_book)
  (F_slope_ahead : FunG K mg "slope_ahead" s_slope_ahead)
  (F_curve_of : FunG K mg "curve_of" s_curve_of)
  (F_curves_of : FunG K mg "curves_of" s_curves_of)
  (F_join_curves : FunG K mg "join_curves" s_join_curves)
  (F_worst_price : FunG K mg "worst_price" s_worst_price)
  (F_loss_at : FunG K mg "loss_at" s_loss_at)
  (F_stand_of : FunG K mg "stand_of" s_stand_of)
  (F_join_stands : FunG K mg "join_stands" s_join_stands)
  (F_need_in_box : FunG K mg "need_in_box" s_need_in_box)
  (F_need_in_all : FunG K mg "need_in_all" s_need_in_all)
  (F_need_of_set : FunG K mg "need_of_set" s_need_of_set)
  (F_sets_up_to : FunG K mg "sets_up_to" s_sets_up_to)
  (F_fund_for : FunG K mg "fund_for" s_fund_for)
  (F_copy_of : FunG K mg "copy_of" s_copy_of)
  (F_are_prices : FunG K mg "are_prices" s_are_prices)
  (F_is_box : FunG K mg "is_box" s_is_box)
  (F_is_margin : FunG K mg "is_margin" s_is_margin)
  (F_set_now : FunG K mg "set_now" s_set_now)
  (F_put_member : FunG K mg "put_member" s_put_member)
  (F_drop_member : FunG K mg "drop_member" s_drop_member)
  (F_set_margin : FunG K mg "set_margin" s_set_margin)
  (F_make_trade : FunG K mg "make_trade" s_make_trade)
  (F_put_box : FunG K mg "put_box" s_put_box)
  (F_drop_box : FunG K mg "drop_box" s_drop_box)
  (F_are_rising_members : FunG K mg "are_rising_members" s_are_rising_members)
  (F_are_defaults : FunG K mg "are_defaults" s_are_defaults)
  (F_tell_uncovered : FunG K mg "tell_uncovered" s_tell_uncovered)
  (F_tell_fund : FunG K mg "tell_fund" s_tell_fund)
  (F_tell_without : FunG K mg "tell_without" s_tell_without)
  (F_tell_if_trade : FunG K mg "tell_if_trade" s_tell_if_trade)
  (F_tell_enough : FunG K mg "tell_enough" s_tell_enough)
  (F_tell_loss : FunG K mg "tell_loss" s_tell_loss)
  (F_tell_apart : FunG K mg "tell_apart" s_tell_apart)
  (F_tell_members : FunG K mg "tell_members" s_tell_members)
  (F_tell_text : FunG K mg "tell_text" s_tell_text)
  (F_cut_calls : FunG K mg "cut_calls" s_cut_calls)
  (F_change : FunG K mg "change" s_change)
  (F_tell : FunG K mg "tell" s_tell)
  (F_answer : FunG K mg "answer" s_answer)
  (F_answers : FunG K mg "answers" s_answers) :
  ∃ fd : FuncData,(∀ (s : Shared) (us : List Value),us.length = (["calls"] : List Str).length → BindsTo s fd ⟨us,[]⟩ ((["calls"] : List Str).zip us)) ∧ ∀ base : Heap,K.In base → base.Ns mainGlobals mg → FnOk P w K mg base CX0 12 fa fd ["calls"] (spAns K):=by
 obtain ⟨f,fd,FA,hm⟩:=F_answers
 obtain ⟨fW,FW⟩:=F_WrongText
 cases hfa.symm.trans hm
 refine ⟨fd,?_,fun base _ _=>?_⟩
 ·obtain ⟨oc,od,kV,doc,pm,an,cdv,ct,osl,rfl,lk,hcd⟩:=FA.ex
  exact fun s us hu=>match us,hu with | [_],_=>.of_eq rfl
 have c_House:=ok_hinit (P:=P) (w:=w) (base:=base) F_House T
 have c_cut_calls:=ok_cut (P:=P) (w:=w) (base:=base) F_cut_calls T
 have c_are_prices:=ok_prices (P:=P) (w:=w) (base:=base) F_are_prices T
 have c_set_now:=ok_now (P:=P) (w:=w) (base:=base) F_set_now T c_are_prices
 have c_is_margin:=ok_ismar (P:=P) (w:=w) (base:=base) F_is_margin T
 have c_byte_ahead:=ok_byte (P:=P) (w:=w) (base:=base) F_byte_ahead T
 have c_WrongText:=ok_wrong (P:=P) (w:=w) (base:=base) FW T
 have c_Reader:=ok_reader (P:=P) (w:=w) (base:=base) F_Reader T
 have c_take_first_sign:=ok_first (P:=P) (w:=w) (base:=base) F_take_first_sign T c_byte_ahead
 have c_take_between:=ok_between (P:=P) (w:=w) (base:=base) F_take_between T c_byte_ahead c_WrongText
 have c_take_byte:=ok_tbyte (P:=P) (w:=w) (base:=base) F_take_byte T c_take_between
 have c_take_number:=ok_number (P:=P) (w:=w) (base:=base) F_take_number T c_byte_ahead c_WrongText c_take_between
 have c_take_strike:=ok_strike (P:=P) (w:=w) (base:=base) F_take_strike T c_byte_ahead c_take_number
 have c_Leg:=ok_leg_init (P:=P) (w:=w) (base:=base) F_Leg T
 have c_take_leg:=ok_tleg (P:=P) (w:=w) (base:=base) F_take_leg T c_byte_ahead c_take_between c_take_byte c_take_number c_take_strike c_Leg
 have c_take_joint:=ok_joint (P:=P) (w:=w) (base:=base) F_take_joint T c_byte_ahead c_take_byte
 have c_read_book:=ok_book (P:=P) (w:=w) (base:=base) F_read_book T c_byte_ahead c_WrongText c_Reader c_take_first_sign c_take_leg c_take_joint
 have c_put_member:=ok_member (P:=P) (w:=w) (base:=base) F_put_member T c_is_margin c_read_book
 have c_drop_member:=ok_drop (P:=P) (w:=w) (base:=base) F_drop_member T
 have c_set_margin:=ok_setm (P:=P) (w:=w) (base:=base) F_set_margin T c_is_margin
 have c_opposite:=ok_opp (P:=P) (w:=w) (base:=base) F_opposite T c_Leg
 have c_make_trade:=ok_trade (P:=P) (w:=w) (base:=base) F_make_trade T c_opposite c_read_book
 have c_is_box:=ok_isbox (P:=P) (w:=w) (base:=base) F_is_box T c_are_prices
 have c_put_box:=ok_pbox (P:=P) (w:=w) (base:=base) F_put_box T c_is_box
 have c_drop_box:=ok_dbox (P:=P) (w:=w) (base:=base) F_drop_box T
 have c_change:=ok_change (P:=P) (w:=w) (base:=base) F_change T c_set_now c_put_member c_drop_member c_set_margin c_make_trade c_put_box c_drop_box
 have c_are_rising_members:=ok_rising (P:=P) (w:=w) (base:=base) F_are_rising_members T
 have c_worth_of_one:=ok_one (P:=P) (w:=w) (base:=base) F_worth_of_one T
 have c_worth:=ok_worth (P:=P) (w:=w) (base:=base) F_worth T c_worth_of_one
 have c_loss_at:=ok_loss (P:=P) (w:=w) (base:=base) F_loss_at T c_worth
 have c_slope_ahead:=ok_slope (P:=P) (w:=w) (base:=base) F_slope_ahead T
 have c_Curve:=ok_cinit (P:=P) (w:=w) (base:=base) F_Curve T
 have c_curve_of:=ok_curve (P:=P) (w:=w) (base:=base) F_curve_of T c_slope_ahead c_Curve
 have c_curves_of:=ok_curves (P:=P) (w:=w) (base:=base) F_curves_of T c_curve_of
 have c_Stand:=ok_sinit (P:=P) (w:=w) (base:=base) F_Stand T
 have c_stand_of:=ok_stand (P:=P) (w:=w) (base:=base) F_stand_of T c_loss_at c_curves_of c_Stand
 have c_join_curves:=ok_jcurves (P:=P) (w:=w) (base:=base) F_join_curves T c_Curve
 have c_join_stands:=ok_jstands (P:=P) (w:=w) (base:=base) F_join_stands T c_join_curves c_Stand
 have c_worst_price:=ok_worst (P:=P) (w:=w) (base:=base) F_worst_price T
 have c_need_in_box:=ok_nbox (P:=P) (w:=w) (base:=base) F_need_in_box T c_worst_price
 have c_need_in_all:=ok_nall (P:=P) (w:=w) (base:=base) F_need_in_all T c_join_stands c_need_in_box
 have c_need_of_set:=ok_nset (P:=P) (w:=w) (base:=base) F_need_of_set T c_stand_of c_need_in_all
 have c_tell_uncovered:=ok_tunc (P:=P) (w:=w) (base:=base) F_tell_uncovered T c_are_rising_members c_need_of_set
 have c_are_defaults:=ok_def (P:=P) (w:=w) (base:=base) F_are_defaults T
 have c_sets_up_to:=ok_sets (P:=P) (w:=w) (base:=base) F_sets_up_to T
 have c_fund_for:=ok_fund (P:=P) (w:=w) (base:=base) F_fund_for T c_stand_of c_need_in_all c_sets_up_to
 have c_tell_fund:=ok_tfund (P:=P) (w:=w) (base:=base) F_tell_fund T c_are_defaults c_fund_for
 have c_copy_of:=ok_copy (P:=P) (w:=w) (base:=base) F_copy_of T c_House
 have c_tell_without:=ok_without (P:=P) (w:=w) (base:=base) F_tell_without T c_are_defaults c_fund_for c_copy_of c_drop_member
 have c_tell_if_trade:=ok_iftr (P:=P) (w:=w) (base:=base) F_tell_if_trade T c_are_defaults c_fund_for c_copy_of c_make_trade
 have c_tell_enough:=ok_enough (P:=P) (w:=w) (base:=base) F_tell_enough T c_are_defaults c_fund_for
 have c_tell_loss:=ok_tloss (P:=P) (w:=w) (base:=base) F_tell_loss T c_are_rising_members c_are_prices c_loss_at
 have c_tell_apart:=ok_apart (P:=P) (w:=w) (base:=base) F_tell_apart T c_are_defaults c_need_of_set
 have c_tell_members:=ok_tmem (P:=P) (w:=w) (base:=base) F_tell_members T
 have c_digits_of:=ok_digits (P:=P) (w:=w) (base:=base) F_digits_of T
 have c_write_leg:=ok_wleg (P:=P) (w:=w) (base:=base) F_write_leg T c_digits_of
 have c_write_book:=ok_wbook (P:=P) (w:=w) (base:=base) F_write_book T c_write_leg
 have c_tell_text:=ok_ttext (P:=P) (w:=w) (base:=base) F_tell_text T c_write_book
 have c_tell:=ok_tell (P:=P) (w:=w) (base:=base) F_tell T c_tell_uncovered c_tell_fund c_tell_without c_tell_if_trade c_tell_enough c_tell_loss c_tell_apart c_tell_members c_tell_text
 have c_answer:=ok_answer (P:=P) (w:=w) (base:=base) F_answer T c_change c_tell
 exact ok_answers FA T c_House c_cut_calls c_answer
end VD
namespace PySem.W.Fast
def tw12324480982196647660:=0
def tw17864052133762489372:=0
def tw18125816378814370233:=0
def tw9925565920948015257:=0
def tw9402148121008883748:=0
def tw30878602589424894:=0
def tw15232321916447893821:=0
def tw6134205784864988141:=0
def tw945334858005946226:=0
def tw6070090924715201364:=0
def tw9171861689197838838:=0
def tw4969609167718478045:=0
def tw5200945604079710205:=0
def tw18140999877526450214:=0
def tw5373983419380936890:=0
def tw13763161734676365096:=0
def tw1152246426543320510:=0
def tw4028389186299715628:=0
def tw770174689586797776:=0
def tw13904048244455338762:=0
def tw385049163621389378:=0
def tw6752930838243955526:=0
def tw5974946060137579703:=0
def tw14744787430051636514:=0
def tw2557282248148263427:=0
def tw14166964049224548468:=0
def tw13805614190719411833:=0
def tw12023978545207499563:=0
def tw4472226570987549154:=0
def tw17423113155994082910:=0
def tw5663561302805410939:=0
def tw3831816764307513669:=0
def tw10641894023720236575:=0
def tw14424807706742536899:=0
def tw12419019747025947274:=0
def tw2269855498358280812:=0
def tw17027782153986102441:=0
def tw14136068953465634673:=0
def tw11467794211248409233:=0
def tw3216424804985587900:=0
def tw4091785177663009669:=0
def tw2892142500795395542:=0
def tw18322149180296386242:=0
def tw13262140593793440421:=0
def tw10607940592065222686:=0
def tw10474663114618770725:=0
def tw10688557132102180853:=0
def tw3438203432829459881:=0
def tw13964006725048202227:=0
def tw15872779611251033093:=0
def tw5353002195569351122:=0
def tw17559131234308472001:=0
def tw13874806389289033592:=0
def tw6267985698281928836:=0
def tw15946432318585734888:=0
def tw3485234955894690535:=0
def tw3114314988028583031:=0
def tw9185451374989140935:=0
def tw14572153423270289407:=0
def tw18183833020395444697:=0
end PySem.W.Fast
open PySem PySem.W PyProof.Rows
set_option maxRecDepth 100000 in
set_option maxHeartbeats 0 in
theorem PySem.Challenge.cw_defaultfund_s01_answers_holds : PySem.Challenge.rw_defaultfund_s01_answers.Holds := by
 w_on; k_headS; (case hw=>exact ⟨[.list [.int 14]],by decide +kernel,by decide +kernel⟩)
 k_fillS
 refine L2.walk_specK (r:=PySem.Challenge.rw_defaultfund_s01_answers) (k:=12) (CX:=L2.CX0) (ps:=["calls"]) (sp:=VD.spAns) (by decide +kernel) rfl rfl ⟨rfl,by decide,by decide⟩ (fun w h Y=>PySem.W.kIn_of Y) ?F ?S (fun _ _ _ _ z=>z)
 case S =>
  intro K H xs a hO hwi hask hx
  cases hx with
  | cons h1 h2 =>
   cases h2
   cases h1 with
   | lst hs ha =>
    have e:=L2.ints_dw a.1 _ ha
    subst e
    have q : ((Codec.inLen 0 17000 a.1 && a.1.all (Codec.inInt (Int.negSucc 999999999999999999) (Int.ofNat 1000000000000000000))) && true) = true:=hwi
    rw [Bool.and_eq_true,Bool.and_eq_true] at q
    exact ⟨_,a.1,rfl,hs,(Codec.inNat_iff.mp q.1.1).2,hask,fun H' p hp=>.lst (L2.SqL.of hp) (L2.dw_ints _)⟩
 case F =>
  intro w mg fa h Y KX G hmg
  have T:=VD.txt_mk KX G (by k_is) (by k_is) (by k_is) (by k_is) (by k_is) (by k_is) (by k_is) (by k_is) (by k_is) (by k_is) (by k_is) (by k_is) (by k_is) (by k_is) (by k_is) (by k_is) (by k_is) (by k_is) (by k_is) (by k_is) (by k_is) (by k_is) (by k_is) (by k_is) (by k_is) (by k_is) (by k_is) (by k_is) (by k_is) (by k_is) (by k_is) (by k_is) (by k_is) (by k_is) (by k_is) (by k_is) (by k_is) (by k_is) (by k_is) (by k_is) (by k_is) (by k_is) (by rfl) (by k_is) (by k_is) (by k_is) (by k_is) (by k_is) (by k_is) (by k_is) (by k_is) (by k_is) (by k_is) (by k_is) (by k_is) (by k_is) (by k_is) (by k_is) (by k_is) (by k_is) (by k_is) (by k_is) (by k_is) (by k_is) (by k_is) (by k_is) (by k_is) (by k_is) (by k_is) (by k_is) (by k_is) (by k_is) (by k_is) (by k_is) (by k_is) (by k_is) (by k_is) (by k_is) (by k_is) (by k_is) (by k_is) (by k_is) (by k_is) (by k_is) (by k_is) (by k_is) (by k_is) (by k_is) (by k_is) (by k_is) (by rfl) (by k_is) (by k_is) (by rfl) (by k_is) (by rfl) (by k_is) (by rfl) (by k_is) (by rfl) (by k_is) (by rfl) (by k_is) (by rfl) (by k_is) (by rfl) (by k_is) (by rfl) (by k_is) (by rfl) (by k_is) (by rfl) (by k_is) (by rfl) (by k_is) (by rfl) (by k_is) (by rfl) (by k_is) (by rfl) (by k_is) (by rfl) (by k_is) (by rfl) (by k_is) (by rfl)
  have F_Leg:=VD.fi (x:="Leg") (q:="Leg.__init__") (st:=VD.s_Leg_init) KX G
  have F_Reader:=VD.fi (x:="Reader") (q:="Reader.__init__") (st:=VD.s_Reader_init) KX G
  have F_House:=VD.fi (x:="House") (q:="House.__init__") (st:=VD.s_House_init) KX G
  have F_Curve:=VD.fi (x:="Curve") (q:="Curve.__init__") (st:=VD.s_Curve_init) KX G
  have F_Stand:=VD.fi (x:="Stand") (q:="Stand.__init__") (st:=VD.s_Stand_init) KX G
  have F_WrongText:=VD.fw (x:="WrongText") (m:="__init__") (q:="WrongText.__init__") (st:=VD.s_Wrong_init) KX
  have F_byte_ahead:=VD.fm (x:="Reader") (m:="byte_ahead") (q:="Reader.byte_ahead") (st:=VD.s_byte_ahead) KX
  have F_take_between:=VD.fm (x:="Reader") (m:="take_between") (q:="Reader.take_between") (st:=VD.s_take_between) KX
  have F_take_byte:=VD.fm (x:="Reader") (m:="take_byte") (q:="Reader.take_byte") (st:=VD.s_take_byte) KX
  have F_take_number:=VD.fm (x:="Reader") (m:="take_number") (q:="Reader.take_number") (st:=VD.s_take_number) KX
  have F_take_strike:=VD.fm (x:="Reader") (m:="take_strike") (q:="Reader.take_strike") (st:=VD.s_take_strike) KX
  have F_take_leg:=VD.fm (x:="Reader") (m:="take_leg") (q:="Reader.take_leg") (st:=VD.s_take_leg) KX
  have F_take_first_sign:=VD.fm (x:="Reader") (m:="take_first_sign") (q:="Reader.take_first_sign") (st:=VD.s_first_sign) KX
  have F_take_joint:=VD.fm (x:="Reader") (m:="take_joint") (q:="Reader.take_joint") (st:=VD.s_take_joint) KX
  exact VD.fin hmg T F_Leg F_Reader F_House F_Curve F_Stand F_WrongText F_byte_ahead F_take_between F_take_byte F_take_number F_take_strike F_take_leg F_take_first_sign F_take_joint (VD.fg KX G) (VD.fg KX G) (VD.fg KX G) (VD.fg KX G) (VD.fg KX G) (VD.fg KX G) (VD.fg KX G) (VD.fg KX G) (VD.fg KX G) (VD.fg KX G) (VD.fg KX G) (VD.fg KX G) (VD.fg KX G) (VD.fg KX G) (VD.fg KX G) (VD.fg KX G) (VD.fg KX G) (VD.fg KX G) (VD.fg KX G) (VD.fg KX G) (VD.fg KX G) (VD.fg KX G) (VD.fg KX G) (VD.fg KX G) (VD.fg KX G) (VD.fg KX G) (VD.fg KX G) (VD.fg KX G) (VD.fg KX G) (VD.fg KX G) (VD.fg KX G) (VD.fg KX G) (VD.fg KX G) (VD.fg KX G) (VD.fg KX G) (VD.fg KX G) (VD.fg KX G) (VD.fg KX G) (VD.fg KX G) (VD.fg KX G) (VD.fg KX G) (VD.fg KX G) (VD.fg KX G) (VD.fg KX G) (VD.fg KX G) (VD.fg KX G) (VD.fg KX G)
